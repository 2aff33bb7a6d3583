import PyProof.Rows.All
import Wide.All
import OpenK.AllK
import Wide.FinOn
import PySem.Challenge.RW_overpasses_k05_witnesses_of_pairs
import HandS.Base
import HandS.Call
import HandS.List
import HandS.Comp
import HandS.Dict
import HandS.Ends
import HandS.Iter
import HandS.Text
import HandS.Words
import HandS.Evl
import HandS.IsInst
import HandS.Style
import HandS.Exc
import HandS.TryOnly
import HandS.TryMany
import HandS.ExcOwn
import HandS.WordsExc
import HandS.TupLe
import HandS.Conv
import HandS.Walk
import HandS.WordsDict
import HandS.More
import PyProof.ZipIter
import PyProof.CallType
import PyProof.Walk
import PyProof.WalkLemmas
import PyProof.RangeIter
import PyProof.RulesTry
import HandS.Deep
import KE.SortData
import HandS.Sort
import HandS.SortOrd
import HandS.SortRule
import HandS.SortInts
set_option Elab.async false
set_option linter.all false
set_option maxRecDepth 100000
set_option maxHeartbeats 2000000
namespace Ovc
open PySem PySem.Spec PyProof.Rows L2
def topS (i : Nat) : Stmt := PySem.Challenge.pw_overpasses_k05_witnesses_of_pairs.main.body.getD i (.Pass ⟨0, 0, 0, 0⟩)
/-! ### heaps -/
theorem same_upd {H : Hp} {p : Addr} {o : HO} (h : H p = none) : Same H (upd H p o) := fun b x e => by
  rw [upd_ne (ne_of_none e h)]
  exact e
theorem same_upd' {G H : Hp} {p : Addr} {o : HO} (s : Same G H) (h : G p = none) : Same G (upd H p o) := fun b x e => by
  rw [upd_ne (ne_of_none e h)]
  exact s b x e
/-- all of H but what stands at o -/
def but (H : Hp) (o : Addr) : Hp := fun b => if b = o then none else H b
theorem but_at {H : Hp} {o : Addr} : but H o o = none := if_pos rfl
theorem but_ne {H : Hp} {o b : Addr} (h : b ≠ o) : but H o b = H b := if_neg h
theorem but_same {H : Hp} {o : Addr} : Same (but H o) H := fun b x e => by
  by_cases h : b = o
  · rw [h, but_at] at e
    cases e
  · rw [but_ne h] at e
    exact e
theorem same_but {G H : Hp} {o : Addr} (s : Same G H) (n : G o = none) : Same G (but H o) := fun b x e => by
  rw [but_ne (ne_of_none e n)]
  exact s b x e
theorem but_mono {H H' : Hp} {o : Addr} (s : Same H H') : Same (but H o) (but H' o) := fun b x e => by
  by_cases h : b = o
  · rw [h, but_at] at e
    cases e
  · rw [but_ne h] at e ⊢
    exact s b x e
theorem but_upd {H : Hp} {o : Addr} {u : HO} : but (upd H o u) o = but H o := by
  funext b
  by_cases h : b = o
  · rw [h, but_at, but_at]
  · rw [but_ne h, but_ne h, upd_ne h]
/-- a store at o, seen from what stands beside it -/
theorem but_upd_same {H : Hp} {o : Addr} {u : HO} : Same (but H o) (upd H o u) := fun b x e => by
  by_cases h : b = o
  · rw [h, but_at] at e
    cases e
  · rw [but_ne h] at e
    rw [upd_ne h]
    exact e
theorem seqT {K : PySem.W.Frag} {H H' : Hp} {a : Addr} {xs : List V} (e : Same H H') (h : SqT K H a xs) : SqT K H' a xs := by
  rcases h with (h | ⟨o, h⟩) | h
  · exact .inl (.inl (e _ _ h))
  · exact .inl (.inr ⟨o, e _ _ h⟩)
  · exact .inr h
mutual
theorem dpS {K : PySem.W.Frag} {H H' : Hp} (s : Same H H') : ∀ (d : PyData) (v : V), Dp K H v d → Dp K H' v d
  | .none, _, h => by
    cases h
    exact .non
  | .bool b, _, h => by
    cases h
    exact .bl b
  | .int i, _, h => by
    cases h
    exact .int i
  | .str x, _, h => by
    cases h
    exact .str x
  | .list ds, _, h => by
    cases h with
    | lst hs ha => exact .lst (s.seq hs) (dpSAll s ds _ ha)
  | .tuple ds, _, h => by
    cases h with
    | tup hs ha => exact .tup (seqT s hs) (dpSAll s ds _ ha)
  | .dict _, _, h => by cases h
theorem dpSAll {K : PySem.W.Frag} {H H' : Hp} (s : Same H H') : ∀ (ds : List PyData) (vs : List V), DpAll K H vs ds → DpAll K H' vs ds
  | [], _, h => by
    cases h
    exact .nil
  | d :: ds, _, h => by
    cases h with
    | cons h1 h2 => exact .cons (dpS s d _ h1) (dpSAll s ds _ h2)
end
theorem Dp.to {K : PySem.W.Frag} {H H' : Hp} {v : V} {d : PyData} (h : Dp K H v d) (s : Same H H') : Dp K H' v d := dpS s d v h
theorem DpAll.to {K : PySem.W.Frag} {H H' : Hp} {vs : List V} {ds : List PyData} (h : DpAll K H vs ds) (s : Same H H') : DpAll K H' vs ds := dpSAll s ds vs h
theorem DpAll.len {K : PySem.W.Frag} {H : Hp} : ∀ {vs : List V} {ds : List PyData}, DpAll K H vs ds → vs.length = ds.length
  | _, _, .nil => rfl
  | _, _, .cons _ t => by
    rw [List.length_cons, List.length_cons, DpAll.len t]
theorem DpAll.get {K : PySem.W.Frag} {H : Hp} : ∀ {vs : List V} {ds : List PyData} {i : Nat} {d : PyData}, DpAll K H vs ds → ds[i]? = some d → ∃ v, vs[i]? = some v ∧ Dp K H v d
  | _, _, i, d, .nil, e => by simp at e
  | _, _, 0, d, .cons h _, e => by
    have e' := Option.some.inj e
    subst e'
    exact ⟨_, rfl, h⟩
  | _, _, i + 1, d, .cons _ t, e => DpAll.get (i := i) t e
theorem DpAll.app {K : PySem.W.Frag} {H : Hp} : ∀ {vs ws : List V} {ds es : List PyData}, DpAll K H vs ds → DpAll K H ws es → DpAll K H (vs ++ ws) (ds ++ es)
  | _, _, _, _, .nil, t => t
  | _, _, _, _, .cons h r, t => .cons h (DpAll.app r t)
theorem DpAll.take {K : PySem.W.Frag} {H : Hp} : ∀ {vs : List V} {ds : List PyData} (n : Nat), DpAll K H vs ds → DpAll K H (vs.take n) (ds.take n)
  | _, _, 0, _ => .nil
  | _, _, _ + 1, .nil => .nil
  | _, _, n + 1, .cons h t => .cons h (DpAll.take n t)
theorem DpAll.drop {K : PySem.W.Frag} {H : Hp} : ∀ {vs : List V} {ds : List PyData} (n : Nat), DpAll K H vs ds → DpAll K H (vs.drop n) (ds.drop n)
  | _, _, 0, h => h
  | _, _, _ + 1, .nil => .nil
  | _, _, n + 1, .cons _ t => DpAll.drop n t
theorem DpAll.one {K : PySem.W.Frag} {H : Hp} {v : V} {d : PyData} (h : Dp K H v d) : DpAll K H [v] [d] := .cons h .nil
theorem Dp.int_inv {K : PySem.W.Frag} {H : Hp} {v : V} {i : Int} (h : Dp K H v (.int i)) : v = .int i := by
  cases h
  rfl
theorem DpAll.ints {K : PySem.W.Frag} {H : Hp} : ∀ ns : List Int, DpAll K H (ns.map V.int) (ns.map PyData.int)
  | [] => .nil
  | n :: ns => .cons (.int n) (DpAll.ints ns)
theorem DpAll.ints_inv {K : PySem.W.Frag} {H : Hp} : ∀ {ns : List Int} {vs : List V}, DpAll K H vs (ns.map PyData.int) → vs = ns.map V.int
  | [], _, h => by
    cases h
    rfl
  | n :: ns, _, h => by
    cases h with
    | cons h1 h2 =>
      rw [Dp.int_inv h1, DpAll.ints_inv h2]
      rfl
theorem Dp.lst_inv {K : PySem.W.Frag} {H : Hp} {v : V} {ds : List PyData} (h : Dp K H v (.list ds)) : ∃ a xs, v = .ref a ∧ SqL K H a xs ∧ DpAll K H xs ds := by
  cases h with
  | lst hs ha => exact ⟨_, _, rfl, hs, ha⟩
theorem Dp.tup_inv {K : PySem.W.Frag} {H : Hp} {v : V} {ds : List PyData} (h : Dp K H v (.tuple ds)) : ∃ a xs, v = .ref a ∧ SqT K H a xs ∧ DpAll K H xs ds := by
  cases h with
  | tup hs ha => exact ⟨_, _, rfl, hs, ha⟩
/-! ### an int or None -/
def oV : Option Int → V
  | none => .non
  | some i => .int i
def oD : Option Int → PyData
  | none => .none
  | some i => .int i
theorem Dp.o {K : PySem.W.Frag} {H : Hp} : ∀ o : Option Int, Dp K H (oV o) (oD o)
  | none => .non
  | some i => .int i
theorem Dp.o_inv {K : PySem.W.Frag} {H : Hp} {v : V} : ∀ {o : Option Int}, Dp K H v (oD o) → v = oV o
  | none, h => by
    cases h
    rfl
  | some i, h => by
    cases h
    rfl
theorem oV_non {o : Option Int} : decide (oV o = .non) = o.isNone := by
  cases o <;> rfl
theorem eqv_o : ∀ a b : Option Int, PyData.eqv (oD a) (oD b) = decide (a = b)
  | none, none => by rfl
  | none, some _ => by rfl
  | some _, none => by rfl
  | some a, some b => by
    show (a == b) = _
    by_cases h : a = b
    · subst h
      rw [decide_eq_true rfl]
      exact beq_self_eq_true a
    · rw [decide_eq_false (fun e => h (Option.some.inj e))]
      exact beq_eq_false_iff_ne.mpr h
theorem shaped_o (a : Option Int) : SeqAt.shaped (oD a) = true := by
  cases a <;> rfl
/-! ### links and nets -/
structure Lnk where
  a : Int
  b : Int
  t : Option Int
  k : Option Int
structure Net where
  n : Int
  ls : List Lnk
def lnkV (l : Lnk) : List V := [.int l.a, .int l.b, oV l.t, oV l.k]
def lnkD (l : Lnk) : PyData := .tuple [.int l.a, .int l.b, oD l.t, oD l.k]
def netD (N : Net) : PyData := .tuple [.int N.n, .list (N.ls.map lnkD)]
theorem Dp.lnk_inv {K : PySem.W.Frag} {H : Hp} {v : V} {l : Lnk} (h : Dp K H v (lnkD l)) : ∃ a, v = .ref a ∧ SqT K H a (lnkV l) := by
  obtain ⟨a, xs, rfl, hs, ha⟩ := Dp.tup_inv h
  cases ha with
  | cons h1 r1 =>
    cases r1 with
    | cons h2 r2 =>
      cases r2 with
      | cons h3 r3 =>
        cases r3 with
        | cons h4 r4 =>
          cases r4
          rw [Dp.int_inv h1, Dp.int_inv h2, Dp.o_inv h3, Dp.o_inv h4] at hs
          exact ⟨a, rfl, hs⟩
theorem Dp.lnk {K : PySem.W.Frag} {H : Hp} {a : Addr} {l : Lnk} (h : SqT K H a (lnkV l)) : Dp K H (.ref a) (lnkD l) :=
  .tup h (.cons (.int _) (.cons (.int _) (.cons (Dp.o _) (.cons (Dp.o _) .nil))))
theorem Dp.net_inv {K : PySem.W.Frag} {H : Hp} {v : V} {N : Net} (h : Dp K H v (netD N)) : ∃ p q xs, v = .ref p ∧ SqT K H p [.int N.n, .ref q] ∧ SqL K H q xs ∧ DpAll K H xs (N.ls.map lnkD) := by
  obtain ⟨a, xs, rfl, hs, ha⟩ := Dp.tup_inv h
  cases ha with
  | cons h1 r1 =>
    cases r1 with
    | cons h2 r2 =>
      cases r2
      obtain ⟨q, ys, rfl, hl, hy⟩ := Dp.lst_inv h2
      rw [Dp.int_inv h1] at hs
      exact ⟨a, q, ys, rfl, hs, hl, hy⟩
theorem Dp.net {K : PySem.W.Frag} {H : Hp} {p q : Addr} {xs : List V} {N : Net} (h : SqT K H p [.int N.n, .ref q]) (hq : SqL K H q xs) (hx : DpAll K H xs (N.ls.map lnkD)) : Dp K H (.ref p) (netD N) :=
  .tup h (.cons (.int _) (.cons (.lst hq hx) .nil))
/-! ### pure expressions: what they evaluate to, the heap as it is -/
def Vl (te : TE) (σ : L2.St) (H : Hp) (v : V) : Prop := ∀ Q : VK, Q v H → te σ H Q
def An (t : TT) (σ : L2.St) (H : Hp) (b : Bool) : Prop := ∀ Q : Bool → Hp → Prop, Q b H → t σ H Q
def Va (ta : TA) (σ : L2.St) (H : Hp) (vs : List V) : Prop := ∀ Q : List V → Hp → Prop, Q vs H → ta σ H Q
section
variable {K : PySem.W.Frag} {σ : L2.St} {H : Hp} {i : Nat} {v x y z : V} {ta tb te tv : TE} {b : Bool} {a : Addr} {t u c : TT} {tr : TA} {D : Ends} {tz tw : TS}
theorem va_nil : Va tNil σ H [] := fun _ q => q
theorem va_cons {vs : List V} (h : Vl ta σ H x) (hr : Va tr σ H vs) : Va (tCons ta tr) σ H (x :: vs) := fun Q q => h _ (hr _ q)
theorem vl_var (h : σ[i]? = some (some v)) : Vl (tVar i) σ H v := fun _ q => ⟨v, h, q⟩
theorem vl_c : Vl (tC v) σ H v := fun _ q => q
theorem vl_op {r : R2} (ha : Vl ta σ H x) (hb : Vl tb σ H y) (hr : ∀ Q : VK, Q z H → r x y H Q) : Vl (tOp r ta tb) σ H z := fun Q q => ha _ (hb _ (hr _ q))
theorem vl_I0 {g : Int → Int → V} {p q : Int} (ha : Vl ta σ H (.int p)) (hb : Vl tb σ H (.int q)) : Vl (tOp (rI0 g) ta tb) σ H (g p q) := vl_op ha hb fun _ k => ⟨p, q, rfl, rfl, k⟩
theorem vl_I {C : Int → Int → Prop} {g : Int → Int → V} {p q : Int} (ha : Vl ta σ H (.int p)) (hb : Vl tb σ H (.int q)) (hc : C p q) : Vl (tOp (rI C g) ta tb) σ H (g p q) := vl_op ha hb fun _ k => ⟨p, q, rfl, rfl, hc, k⟩
theorem vl_un {r : V → Hp → VK → Prop} (ha : Vl ta σ H x) (hr : ∀ Q : VK, Q z H → r x H Q) : Vl (tUn r ta) σ H z := fun Q q => ha _ (hr _ q)
theorem vl_neg {p : Int} (ha : Vl ta σ H (.int p)) : Vl (tUn (rU fun i => .int (-i)) ta) σ H (.int (-p)) := vl_un ha fun _ k => ⟨p, rfl, k⟩
theorem vl_cb {r : List V → Hp → VK → Prop} {vs : List V} (h : Va tr σ H vs) (hr : ∀ Q : VK, Q z H → r vs H Q) : Vl (tCB r tr) σ H z := fun Q q => h _ (hr _ q)
theorem vl_int1 {p : Int} (ha : Vl ta σ H (.int p)) : Vl (tCB (fun xs H Q => (∃ i, xs = [V.int i] ∧ Q (V.int i) H) ∨ ∃ k, xs = [V.bl k] ∧ Q (V.int (if k then 1 else 0)) H) (tCons ta tNil)) σ H (.int p) :=
  vl_cb (va_cons ha va_nil) fun _ k => .inl ⟨p, rfl, k⟩
theorem vl_int1b {k : Bool} (ha : Vl ta σ H (.bl k)) : Vl (tCB (fun xs H Q => (∃ i, xs = [V.int i] ∧ Q (V.int i) H) ∨ ∃ k, xs = [V.bl k] ∧ Q (V.int (if k then 1 else 0)) H) (tCons ta tNil)) σ H (.int (if k then 1 else 0)) :=
  vl_cb (va_cons ha va_nil) fun _ q => .inr ⟨k, rfl, q⟩
theorem vl_abs {p : Int} (ha : Vl ta σ H (.int p)) : Vl (tCB (fun xs H Q => ∃ i, xs = [V.int i] ∧ Q (V.int (if i < 0 then -i else i)) H) (tCons ta tNil)) σ H (.int (if p < 0 then -p else p)) :=
  vl_cb (va_cons ha va_nil) fun _ k => ⟨p, rfl, k⟩
theorem vl_min2 {p q : Int} (ha : Vl ta σ H (.int p)) (hb : Vl tb σ H (.int q)) : Vl (tCB (fun xs H Q => ∃ i j, xs = [V.int i, V.int j] ∧ Q (V.int (if j < i then j else i)) H) (tCons ta (tCons tb tNil))) σ H (.int (if q < p then q else p)) :=
  vl_cb (va_cons ha (va_cons hb va_nil)) fun _ k => ⟨p, q, rfl, k⟩
theorem vl_max2 {p q : Int} (ha : Vl ta σ H (.int p)) (hb : Vl tb σ H (.int q)) : Vl (tCB (fun xs H Q => ∃ i j, xs = [V.int i, V.int j] ∧ Q (V.int (if j > i then j else i)) H) (tCons ta (tCons tb tNil))) σ H (.int (if q > p then q else p)) :=
  vl_cb (va_cons ha (va_cons hb va_nil)) fun _ k => ⟨p, q, rfl, k⟩
theorem vl_lenL {xs : List V} (ha : Vl ta σ H (.ref a)) (h : SqL K H a xs) : Vl (tCB (fun xs H Q => ∃ p ys, xs = [V.ref p] ∧ (SqL K H p ys ∨ SqT K H p ys) ∧ Q (V.int ys.length) H) (tCons ta tNil)) σ H (.int xs.length) :=
  vl_cb (va_cons ha va_nil) fun _ k => ⟨a, xs, rfl, .inl h, k⟩
theorem vl_ixL {xs : List V} {p : Int} (ha : Vl ta σ H (.ref a)) (hb : Vl tb σ H (.int p)) (h : SqL K H a xs) (hg : atI xs p = some z) : Vl (tOp (rIxL K) ta tb) σ H z :=
  vl_op ha hb fun _ k => ⟨a, xs, p, z, rfl, rfl, h, hg, k⟩
theorem vl_ixT {xs : List V} {p : Int} (ha : Vl ta σ H (.ref a)) (hb : Vl tb σ H (.int p)) (h : SqT K H a xs) (hg : atI xs p = some z) : Vl (tOp (rIxT K) ta tb) σ H z :=
  vl_op ha hb fun _ k => ⟨a, xs, p, z, rfl, rfl, h, hg, k⟩
theorem vl_eq (ha : Vl ta σ H x) (hb : Vl tb σ H y) (hs : scal x y = true) : Vl (tOp rEq ta tb) σ H (.bl (decide (x = y))) := vl_op ha hb fun _ k => ⟨hs, k⟩
theorem vl_ne (ha : Vl ta σ H x) (hb : Vl tb σ H y) (hs : scal x y = true) : Vl (tOp rNe ta tb) σ H (.bl (!decide (x = y))) := vl_op ha hb fun _ k => ⟨hs, k⟩
theorem vl_isN (ha : Vl ta σ H x) : Vl (tOp (fun x y H Q => y = V.non ∧ Q (V.bl (decide (x = V.non))) H) ta (tC .non)) σ H (.bl (decide (x = .non))) := vl_op ha vl_c fun _ k => ⟨rfl, k⟩
theorem vl_notN (ha : Vl ta σ H x) : Vl (tOp (fun x y H Q => y = V.non ∧ Q (V.bl (!decide (x = V.non))) H) ta (tC .non)) σ H (.bl (!decide (x = .non))) := vl_op ha vl_c fun _ k => ⟨rfl, k⟩
theorem vl_chain {r r' : R2} {tc : TE} {w : V} {k m : Bool} (ha : Vl ta σ H x) (hb : Vl tb σ H y) (hr : ∀ Q : VK, Q (.bl k) H → r x y H Q) (hc : Vl tc σ H w) (hr' : ∀ Q : VK, Q (.bl m) H → r' y w H Q) : Vl (tChain r r' ta tb tc) σ H (.bl (k && m)) := fun Q q =>
  ha _ (hb _ (hr _ ⟨k, rfl, by
    cases k with
    | true => exact iteT (hc _ (hr' _ q))
    | false => exact iteF q⟩))
theorem vl_chainI {g g' : Int → Int → Bool} {tc : TE} {p q s : Int} (ha : Vl ta σ H (.int p)) (hb : Vl tb σ H (.int q)) (hc : Vl tc σ H (.int s)) :
    Vl (tChain (rI0 fun i j => .bl (g i j)) (rI0 fun i j => .bl (g' i j)) ta tb tc) σ H (.bl (g p q && g' q s)) :=
  vl_chain ha hb (fun _ k => ⟨p, q, rfl, rfl, k⟩) hc (fun _ k => ⟨q, s, rfl, rfl, k⟩)
theorem vl_if {b : Bool} (h : An t σ H b) (h1 : b = true → Vl ta σ H v) (h2 : b = false → Vl tb σ H v) : Vl (tIf t ta tb) σ H v := fun Q q => h _ (by
  cases b with
  | true => exact iteT (h1 rfl _ q)
  | false => exact iteF (h2 rfl _ q))
theorem an_test {b : Bool} (h : Vl te σ H (.bl b)) : An (tTest te) σ H b := fun Q q => h _ ⟨b, rfl, q⟩
theorem an_B {b : Bool} (h : Vl te σ H (.bl b)) : An (tB te) σ H b := fun Q q => h _ ⟨b, rfl, q⟩
theorem an_not (h : An t σ H b) : An (tNot t) σ H (!b) := fun Q q => h _ q
theorem an_and {k m : Bool} (h1 : An t σ H k) (h2 : k = true → An u σ H m) : An (tAnd t u) σ H (k && m) := fun Q q => h1 _ (by
  cases k with
  | true => exact iteT (h2 rfl _ q)
  | false => exact iteF q)
theorem an_or {k m : Bool} (h1 : An t σ H k) (h2 : k = false → An u σ H m) : An (tOr t u) σ H (k || m) := fun Q q => h1 _ (by
  cases k with
  | true => exact iteT q
  | false => exact iteF (h2 rfl _ q))
theorem An.is {k m : Bool} (h : An t σ H k) (e : k = m) : An t σ H m := e ▸ h
theorem Vl.is {v w : V} (h : Vl te σ H v) (e : v = w) : Vl te σ H w := e ▸ h
/-! ### statements over them -/
theorem g_seq (h : tz { D with nx := tw D } σ H) : tSeq tz tw D σ H := h
theorem g_asg {i : Nat} (h : Vl te σ H v) (k : D.nx (σ.set i (some v)) H) : tAsg te (gName i) D σ H := h _ k
theorem g_ret (h : Vl te σ H v) (k : D.rt v H) : tRet te D σ H := h _ k
theorem g_if {b : Bool} (h : An t σ H b) (h1 : b = true → tz D σ H) (h2 : b = false → tw D σ H) : tIfS t tz tw D σ H := h _ (by
  cases b with
  | true => exact iteT (h1 rfl)
  | false => exact iteF (h2 rfl))
theorem g_app {l : Addr} {xs : List V} (ho : Vl ta σ H (.ref l)) (hl : H l = some (.lst xs)) (h : Vl te σ H v) (hz : xs.length < sizeLine) (k : D.nx σ (upd H l (.lst (xs ++ [v])))) :
    tDrop (tBM K "list" rAppend ta (tCons te tNil)) D σ H := ho _ ⟨.inl ⟨rfl, _, .inl (.inl hl)⟩, h _ ⟨l, xs, v, rfl, rfl, hl, hz, k⟩⟩
theorem at_int {ds : List Int} {k : Int} (h0 : 0 ≤ k) (h1 : k < (ds.length : Int)) : ∃ d, atI (ds.map V.int) k = some (.int d) ∧ ds[k.toNat]? = some d := by
  have hj : k.toNat < ds.length := by omega
  have g : (ds.map V.int)[k.toNat]? = some (.int ds[k.toNat]) := by
    rw [List.getElem?_map, List.getElem?_eq_getElem hj]
    rfl
  have g2 := atI_nat g
  rw [show ((k.toNat : Nat) : Int) = k by omega] at g2
  exact ⟨ds[k.toNat], g2, List.getElem?_eq_getElem hj⟩
/-! ### loops -/
theorem g_forR {j : Nat} {n : Int} (h : Va tr σ H [.int n]) (hn : -(2 ^ 62) ≤ n ∧ n < 2 ^ 62) (Pv : Nat → L2.St → Hp → Prop) (h0 : Pv 0 σ H)
    (hs : ∀ (i : Nat) σ H, (i : Int) < n → Pv i σ H → tz { D with nx := Pv (i + 1), ct := Pv (i + 1), bk := D.nx } (σ.set j (some (.int i))) H) (hd : ∀ σ H, Pv n.toNat σ H → D.nx σ H) :
    tFor (iRng1 tr) (gName j) tz D σ H := h _ ⟨n, rfl, hn.1, hn.2, for_range (lo := 0) (n := n.toNat) Pv h0 (fun i σ H hi p => by
      show tz _ (σ.set j (some (.int (0 + i)))) H
      rw [Int.zero_add]
      exact hs i σ H (by omega) p) hd⟩
theorem g_forR2 {j : Nat} {lo n : Int} (h : Va tr σ H [.int lo, .int n]) (hn : -(2 ^ 62) ≤ lo ∧ lo < 2 ^ 62 ∧ -(2 ^ 62) ≤ n ∧ n < 2 ^ 62) (Pv : Nat → L2.St → Hp → Prop) (h0 : Pv 0 σ H)
    (hs : ∀ (i : Nat) σ H, lo + (i : Int) < n → Pv i σ H → tz { D with nx := Pv (i + 1), ct := Pv (i + 1), bk := D.nx } (σ.set j (some (.int (lo + i)))) H) (hd : ∀ σ H, Pv (n - lo).toNat σ H → D.nx σ H) :
    tFor (iRng2 tr) (gName j) tz D σ H := h _ ⟨lo, n, rfl, hn, for_range (lo := lo) (n := (n - lo).toNat) Pv h0 (fun i σ H hi p => hs i σ H (by omega) p) hd⟩
theorem g_forL {j : Nat} {xs : List V} {tl : TE} (h : Vl tl σ H (.ref a)) (hx : SqL K H a xs) (Pv : Nat → L2.St → Hp → Prop) (h0 : Pv 0 σ H) (hl : ∀ i σ' H', Pv i σ' H' → SqL K H' a xs)
    (hs : ∀ (i : Nat) x σ H, xs[i]? = some x → Pv i σ H → tz { D with nx := Pv (i + 1), ct := Pv (i + 1), bk := D.nx } (σ.set j (some x)) H) (hd : ∀ σ H, Pv xs.length σ H → D.nx σ H) :
    tFor (iList K tl) (gName j) tz D σ H := h _ ⟨a, rfl, ⟨_, hx⟩, for_list (xs := xs) Pv h0 (fun i σ H _ p => hl i σ H p) hs hd⟩
/-- for a, b, there, back in links -/
theorem g_forLnk {j1 j2 j3 j4 : Nat} {Hb : Hp} {xs : List V} {ls : List Lnk} {tl : TE} (h : Vl tl σ H (.ref a)) (hx : SqL K Hb a xs) (hL : DpAll K Hb xs (ls.map lnkD)) (hb : Same Hb H) (Pv : Nat → L2.St → Hp → Prop) (h0 : Pv 0 σ H) (hl : ∀ i σ' H', Pv i σ' H' → Same Hb H')
    (hs : ∀ (i : Nat) l σ H, ls[i]? = some l → Pv i σ H → tz { D with nx := Pv (i + 1), ct := Pv (i + 1), bk := D.nx } ((((σ.set j1 (some (.int l.a))).set j2 (some (.int l.b))).set j3 (some (oV l.t))).set j4 (some (oV l.k))) H) (hd : ∀ σ H, Pv ls.length σ H → D.nx σ H) :
    tFor (iList K tl) (gTup K 4 (gCons (gName j1) (gCons (gName j2) (gCons (gName j3) (gCons (gName j4) gNil))))) tz D σ H := h _ ⟨a, rfl, ⟨_, hb.seq hx⟩, for_list (xs := xs) Pv h0 (fun i σ H _ p => (hl i σ H p).seq hx) (fun i x σ H hi p => by
      have e := DpAll.len hL
      rw [List.length_map] at e
      have hlt : i < xs.length := by
        by_cases hlt : i < xs.length
        · exact hlt
        · rw [List.getElem?_eq_none (by omega)] at hi
          cases hi
      have hg : ls[i]? = some ls[i] := List.getElem?_eq_getElem (by omega)
      obtain ⟨v, hv, dv⟩ := DpAll.get (i := i) (d := lnkD ls[i]) hL (by
        rw [List.getElem?_map, hg]
        rfl)
      cases hi.symm.trans hv
      obtain ⟨t, rfl, ht⟩ := Dp.lnk_inv dv
      exact ⟨t, _, rfl, seqT (hl i σ H p) ht, rfl, _, _, rfl, _, _, rfl, _, _, rfl, _, _, rfl, rfl, hs i _ σ H hg p⟩) (fun σ H p => by
      have e := DpAll.len hL
      rw [List.length_map] at e
      rw [e] at p
      exact hd σ H p)⟩
/-! ### the same with what follows -/
theorem q_asg {i : Nat} (h : Vl te σ H v) (k : tw D (σ.set i (some v)) H) : tSeq (tAsg te (gName i)) tw D σ H := h _ k
theorem q_if {b : Bool} {tu : TS} (h : An t σ H b) (h1 : b = true → tz { D with nx := tw D } σ H) (h2 : b = false → tu { D with nx := tw D } σ H) : tSeq (tIfS t tz tu) tw D σ H := g_if (D := { D with nx := tw D }) h h1 h2
/-- an if without else whose body leaves the def (or the turn) -/
theorem q_when {b : Bool} (h : An t σ H b) (h1 : b = true → tz { D with nx := tw D } σ H) (h2 : b = false → tw D σ H) : tSeq (tIfS t tz tNext) tw D σ H := g_if (D := { D with nx := tw D }) h h1 h2
theorem g_when {b : Bool} (h : An t σ H b) (h1 : b = true → tz D σ H) (h2 : b = false → D.nx σ H) : tIfS t tz tNext D σ H := g_if h h1 h2
theorem q_app {l : Addr} {xs : List V} (ho : Vl ta σ H (.ref l)) (hl : H l = some (.lst xs)) (h : Vl te σ H v) (hz : xs.length < sizeLine) (k : tw D σ (upd H l (.lst (xs ++ [v])))) :
    tSeq (tDrop (tBM K "list" rAppend ta (tCons te tNil))) tw D σ H := g_app (D := { D with nx := tw D }) ho hl h hz k
theorem q_forR {j : Nat} {n : Int} (h : Va tr σ H [.int n]) (hn : -(2 ^ 62) ≤ n ∧ n < 2 ^ 62) (Pv : Nat → L2.St → Hp → Prop) (h0 : Pv 0 σ H)
    (hs : ∀ (i : Nat) σ H, (i : Int) < n → Pv i σ H → tz { D with nx := Pv (i + 1), ct := Pv (i + 1), bk := tw D } (σ.set j (some (.int i))) H) (hd : ∀ σ H, Pv n.toNat σ H → tw D σ H) :
    tSeq (tFor (iRng1 tr) (gName j) tz) tw D σ H := g_forR (D := { D with nx := tw D }) h hn Pv h0 hs hd
theorem q_forR2 {j : Nat} {lo n : Int} (h : Va tr σ H [.int lo, .int n]) (hn : -(2 ^ 62) ≤ lo ∧ lo < 2 ^ 62 ∧ -(2 ^ 62) ≤ n ∧ n < 2 ^ 62) (Pv : Nat → L2.St → Hp → Prop) (h0 : Pv 0 σ H)
    (hs : ∀ (i : Nat) σ H, lo + (i : Int) < n → Pv i σ H → tz { D with nx := Pv (i + 1), ct := Pv (i + 1), bk := tw D } (σ.set j (some (.int (lo + i)))) H) (hd : ∀ σ H, Pv (n - lo).toNat σ H → tw D σ H) :
    tSeq (tFor (iRng2 tr) (gName j) tz) tw D σ H := g_forR2 (D := { D with nx := tw D }) h hn Pv h0 hs hd
theorem q_forL {j : Nat} {xs : List V} {tl : TE} (h : Vl tl σ H (.ref a)) (hx : SqL K H a xs) (Pv : Nat → L2.St → Hp → Prop) (h0 : Pv 0 σ H) (hl : ∀ i σ' H', Pv i σ' H' → SqL K H' a xs)
    (hs : ∀ (i : Nat) x σ H, xs[i]? = some x → Pv i σ H → tz { D with nx := Pv (i + 1), ct := Pv (i + 1), bk := tw D } (σ.set j (some x)) H) (hd : ∀ σ H, Pv xs.length σ H → tw D σ H) :
    tSeq (tFor (iList K tl) (gName j) tz) tw D σ H := g_forL (D := { D with nx := tw D }) h hx Pv h0 hl hs hd
theorem q_forLnk {j1 j2 j3 j4 : Nat} {Hb : Hp} {xs : List V} {ls : List Lnk} {tl : TE} (h : Vl tl σ H (.ref a)) (hx : SqL K Hb a xs) (hL : DpAll K Hb xs (ls.map lnkD)) (hb : Same Hb H) (Pv : Nat → L2.St → Hp → Prop) (h0 : Pv 0 σ H) (hl : ∀ i σ' H', Pv i σ' H' → Same Hb H')
    (hs : ∀ (i : Nat) l σ H, ls[i]? = some l → Pv i σ H → tz { D with nx := Pv (i + 1), ct := Pv (i + 1), bk := tw D } ((((σ.set j1 (some (.int l.a))).set j2 (some (.int l.b))).set j3 (some (oV l.t))).set j4 (some (oV l.k))) H) (hd : ∀ σ H, Pv ls.length σ H → tw D σ H) :
    tSeq (tFor (iList K tl) (gTup K 4 (gCons (gName j1) (gCons (gName j2) (gCons (gName j3) (gCons (gName j4) gNil))))) tz) tw D σ H := g_forLnk (D := { D with nx := tw D }) h hx hL hb Pv h0 hl hs hd
theorem q_asgT2 {i j : Nat} {p : Addr} (h : Vl te σ H (.ref p)) (hp : SqT K H p [x, y]) (k : tw D ((σ.set i (some x)).set j (some y)) H) : tSeq (tAsg te (gTup K 2 (gCons (gName i) (gCons (gName j) gNil)))) tw D σ H :=
  h _ ⟨p, _, rfl, hp, rfl, _, _, rfl, _, _, rfl, rfl, k⟩
theorem q_dnewT {i : Nat} (k : ∀ p, H p = none → tw D (σ.set i (some (.ref p))) (upd H p (.dT []))) : tSeq (tAsg tDNewT (gName i)) tw D σ H := k
theorem q_lnew {i : Nat} (k : ∀ p, H p = none → tw D (σ.set i (some (.ref p))) (upd H p (.lst []))) : tSeq (tAsg (tLst tNil) (gName i)) tw D σ H := ⟨Nat.zero_le _, k⟩
theorem q_dput {td ty : TE} {o : Addr} {kvs : List (List Key × V)} {y1 y2 : Int} (hv : Vl te σ H v) (ho : Vl td σ H (.ref o)) (h1 : Vl ta σ H (.int y1)) (h2 : Vl tb σ H (.int y2)) (hd : H o = some (.dT kvs)) (hl : kvs.length < sizeLine)
    (k : ∀ T, H T = none → o ≠ T → tw D σ (upd (upd H T (.tup [.int y1, .int y2])) o (.dT (putK kvs [.inl y1, .inl y2] v)))) : tSeq (sDPut td (tTup (tCons ta (tCons tb tNil))) te) tw D σ H :=
  hv _ (ho _ (h1 _ (h2 _ ⟨by show 2 ≤ sizeLine; decide, fun T nT => by
    have oT : o ≠ T := ne_of_none hd nT
    exact ⟨o, _, rfl, DPut.t (k := [.inl y1, .inl y2]) (by rw [upd_ne oT]; exact hd) upd_same hl, k T nT oT⟩⟩)))
theorem q_dgetT {i : Nat} {td : TE} {o : Addr} {kvs : List (List Key × V)} {y1 y2 : Int} (ho : Vl td σ H (.ref o)) (h1 : ∀ H, Vl ta σ H (.int y1)) (h2 : ∀ H, Vl tb σ H (.int y2)) (hd : H o = some (.dT kvs))
    (k : ∀ T, H T = none → tw D (σ.set i (some ((valV kvs [.inl y1, .inl y2]).getD .non))) (upd H T (.tup [.int y1, .int y2]))) : tSeq (tAsg (tDGet1 td (tTup (tCons ta (tCons tb tNil)))) (gName i)) tw D σ H :=
  ho _ ⟨o, rfl, .inr ⟨_, .inl hd⟩, h1 _ _ (h2 _ _ ⟨by show 2 ≤ sizeLine; decide, fun T nT => by
    have oT : o ≠ T := ne_of_none hd nT
    exact ⟨_, DGet.t (k := [.inl y1, .inl y2]) (by rw [upd_ne oT]; exact hd) upd_same, k T nT⟩⟩)⟩
theorem q_asgE {i : Nat} (h : te σ H fun v H' => tw D (σ.set i (some v)) H') : tSeq (tAsg te (gName i)) tw D σ H := h
theorem g_asgE {i : Nat} (h : te σ H fun v H' => D.nx (σ.set i (some v)) H') : tAsg te (gName i) D σ H := h
theorem q_cut {M : L2.St → Hp → Prop} (h : tz { D with nx := M } σ H) (k : ∀ σ' H', M σ' H' → tw D σ' H') : Evl.tCut tz tw D σ H := ⟨M, h, k⟩
end
/-! ### defs that may be called by their names -/
structure Df (K : PySem.W.Frag) (mg : Str → Option Value) (x : Str) (st : Stmt) (ps : List Str) : Prop where
  ex : ∃ (f : Addr) (fd : FuncData), Fun K x x st f fd ∧ mg x = some (.ref f) ∧ Binds K fd ps []
structure Kal (P : Program) (w : World) (K : PySem.W.Frag) (mg : Str → Option Value) (base : Heap) (k : Nat) (x : Str) (ps : List Str) (sp : Sp) : Prop where
  ex : ∃ (f : Addr) (fd : FuncData), FnOk P w K mg base CX0 k f fd ps sp ∧ mg x = some (.ref f) ∧ PySem.W.keepIn K (.ref f) = true ∧ Binds K fd ps []
theorem kal_of {P : Program} {w : World} {K : PySem.W.Frag} {mg : Str → Option Value} {base : Heap} {k : Nat} {x : Str} {st : Stmt} {ps : List Str} {sp : Sp} (A : Df K mg x st ps)
    (ok : ∀ f fd, Fun K x x st f fd → FnOk P w K mg base CX0 k f fd ps sp) : Kal P w K mg base k x ps sp := by
  obtain ⟨f, fd, F, g, b⟩ := A.ex
  exact ⟨f, fd, ok f fd F, g, F.kp, b⟩
theorem pe_k {X : Cx} {k j : Nat} {x : Str} {ps : List Str} {sp : Sp} {p pos : Pos} {e : Expr} {es : List Expr} {t : TA} (c : Kal X.prog X.w X.K X.mg X.base k x ps sp) (hr : Room j X.A) (hk : k ≤ j) (hg : Gl X x) (ha : PA X (e :: es) t)
    (hdb : (x == ("__debug__" : Str)) = false := by decide) (he : starEach (e :: es) X.env = (false, eval e X.env) :: starEach es X.env := by rfl) (hpl : (backTo pos (starEach es X.env)).any (·.1) = false := by rfl) :
    PE X (.Call (.Name x p) (e :: es) [] pos) (tCall sp [] E0 t) := by
  obtain ⟨f, fd, F, hm, kp, b⟩ := c.ex
  exact pe_call F (hr.mono hk) hg hm kp b .nil pass0 ha hdb he hpl
/-! ### values that are not told: ints of which P holds -/
def Vi (te : TE) (σ : L2.St) (H : Hp) (P : Int → Prop) : Prop := ∀ Q : VK, (∀ r, P r → Q (.int r) H) → te σ H Q
section
variable {K : PySem.W.Frag} {σ : L2.St} {H : Hp} {i : Nat} {ta tb te : TE} {tr : TA} {D : Ends} {tz tw tu : TS} {P P1 P2 : Int → Prop}
theorem vi_of {n : Int} (h : Vl te σ H (.int n)) : Vi te σ H (fun r => r = n) := fun _ q => h _ (q n rfl)
theorem vi_I0 {g : Int → Int → Int} (ha : Vi ta σ H P1) (hb : Vi tb σ H P2) (h : ∀ p q, P1 p → P2 q → P (g p q)) : Vi (tOp (rI0 fun i j => .int (g i j)) ta tb) σ H P := fun _ k =>
  ha _ fun p hp => hb _ fun q hq => ⟨p, q, rfl, rfl, k _ (h p q hp hq)⟩
theorem vi_call {sp : Sp} {vs : List V} (h : Va tr σ H vs) (hs : ∀ Q E, (∀ r, P r → Q (.int r) H) → sp vs H Q E) : Vi (tCall sp [] E0 tr) σ H P := fun Q q => h _ (by
  show sp (vs ++ []) H Q E0
  rw [List.append_nil]
  exact hs Q E0 q)
theorem vi_mono (h : Vi te σ H P1) (hh : ∀ r, P1 r → P r) : Vi te σ H P := fun Q q => h Q fun r hr => q r (hh r hr)
theorem g_asgI {i : Nat} (h : Vi te σ H P) (k : ∀ r, P r → D.nx (σ.set i (some (.int r))) H) : tAsg te (gName i) D σ H := h _ k
theorem q_asgI {i : Nat} (h : Vi te σ H P) (k : ∀ r, P r → tw D (σ.set i (some (.int r))) H) : tSeq (tAsg te (gName i)) tw D σ H := h _ k
theorem g_retI (h : Vi te σ H P) (k : ∀ r, P r → D.rt (.int r) H) : tRet te D σ H := h _ k
end
local macro_rules
  | `(tactic| walk_at "ev") => `(tactic| repeat' (first
    | exact vl_c | exact vl_var rfl | apply vl_I0 | apply vl_I | apply vl_int1 | apply vl_abs | apply vl_min2 | apply vl_max2 | apply vl_neg | apply vl_chainI
    | apply vl_lenL | apply vl_ixL | apply vl_ixT | apply vl_isN | apply vl_notN | apply vl_eq | apply vl_ne
    | apply an_test | apply an_B | apply an_not
    | exact (show (0 : Int) < _ by decide) | exact (show (0 : Int) < _ ∧ _ < (1073741824 : Int) from ⟨by decide, by decide⟩)))
abbrev sDraws : Stmt := topS 14
theorem scDraws : FnScope ["script", "draws", "k", "rest", "turn", "mixed"] ["script"] (defScope sDraws) := ⟨rfl, rfl, rfl, by decide +kernel, rfl, by decide +kernel, by decide +kernel⟩
structure DrawsOk (m : Nat) (ds : List Int) : Prop where
  len : ds.length ≤ m
  all : ∀ d ∈ ds, 0 ≤ d ∧ d < 65536
theorem DrawsOk.app {m : Nat} {ds : List Int} {d : Int} (h : DrawsOk m ds) (h0 : 0 ≤ d) (h1 : d < 65536) : DrawsOk (m + 1) (ds ++ [d]) where
  len := by
    rw [List.length_append]
    exact Nat.succ_le_succ h.len
  all := fun e he => by
    rcases List.mem_append.mp he with h' | h'
    · exact h.all e h'
    · rw [List.mem_singleton.mp h']
      exact ⟨h0, h1⟩
theorem DrawsOk.mono {m n : Nat} {ds : List Int} (h : DrawsOk m ds) (le : m ≤ n) : DrawsOk n ds := ⟨Nat.le_trans h.len le, h.all⟩
def spDraws (K : PySem.W.Frag) : Sp := fun vs H Q _ => ∃ (a : Addr) (ns : List Int), vs = [.ref a] ∧ SqL K H a (ns.map V.int) ∧ ns.length ≤ 63 ∧
  ∀ H' p ds, Same H H' → H p = none → H' p = some (.lst (ds.map V.int)) → DrawsOk 3780 ds → Q (.ref p) H'
section
variable {P : Program} {w : World} {K : PySem.W.Frag} {mg : Str → Option Value} {base : Heap}
theorem ok_draws {f : Addr} {fd : FuncData} {k : Nat} (F : Fun K "_law_draws" "_law_draws" sDraws f fd) (mr : mg "range" = none) (mm : mg "min" = none) (ml : mg "len" = none) (ma : mg "abs" = none) (mi : mg "int" = none) :
    FnOk P w K mg base CX0 (k + 1) f fd ["script"] (spDraws K) := by
  refine F.ok scDraws (fun vs H Q E h => ?_) (fun cdv A outer s H vs Q E hr h => ?_)
  · obtain ⟨a, ns, rfl, _⟩ := h
    rfl
  · obtain ⟨a, ns, rfl, hS, hlen, q⟩ := h
    refine ⟨_, pss_cons (ps_set (i := 1) scDraws.nd rfl (.inl rfl) (pe_lst pa_nil))
      (pss_cons (ps_for PassesOwn.never rfl (pi_range1 (by rfl) mr (pa_cons (pe_callB (call_min2 rfl) (by rfl) mm (by decide +kernel) (pa_cons pe_int (pa_cons (pe_callB call_len_seq (by rfl) ml PySem.boot_len (pa_cons (pv 0) pa_nil)) pa_nil))) pa_nil)) (pg_name (i := 2) scDraws.nd rfl (.inl rfl))
        (pss_cons (ps_set (i := 3) scDraws.nd rfl (.inl rfl) (pe_callB call_abs (by rfl) ma (by decide +kernel) (pa_cons (pe_ix ix_list (pv 0) (pv 2) (fun _ _ => rfl)) pa_nil)))
        (pss_one (ps_if (pt_cmpR op_ge (pv 3) (pe_op op_pow pe_int pe_int) (nomark _))
          (pss_one (ps_for PassesOwn.never rfl (pi_range1 (by rfl) mr (pa_cons pe_int pa_nil)) (pg_name (i := 4) scDraws.nd rfl (.inl rfl))
            (pss_one (ps_if (pt_cmpR op_gt (pv 3) pe_int (nomark _))
              (pss_cons (ps_expr (pe_bm PySem.F.plainAttrs_list PySem.F.slot_list_append PySem.F.type_list_append mt_append (pv 1) (pa_cons (pe_op op_mod (pe_callTy call_int1 (by rfl) mi (by decide +kernel) (pa_cons (pv 3) pa_nil)) pe_int) pa_nil)))
              (pss_one (ps_set (i := 3) scDraws.nd rfl (.inl rfl) (pe_op op_fdiv (pv 3) pe_int)))) pss_nil))))
          (pss_cons (ps_set (i := 5) scDraws.nd rfl (.inl rfl) (pe_op op_mod (pe_callTy call_int1 (by rfl) mi (by decide +kernel) (pa_cons (pe_op op_add (pe_op op_mul (pv 3) pe_int) (pe_op op_mul (pe_op op_add (pv 2) pe_int) pe_int)) pa_nil)) pe_int))
          (pss_cons (ps_set (i := 5) scDraws.nd rfl (.inl rfl) (pe_op op_mod (pe_callTy call_int1 (by rfl) mi (by decide +kernel) (pa_cons (pe_op op_add (pe_op op_add (pe_op op_mul (pv 5) pe_int) (pe_op op_mul pe_int (pv 2))) pe_int) pa_nil)) pe_int))
          (pss_cons (ps_expr (pe_bm PySem.F.plainAttrs_list PySem.F.slot_list_append PySem.F.type_list_append mt_append (pv 1) (pa_cons (pe_op op_mod (pe_callTy call_int1 (by rfl) mi (by decide +kernel) (pa_cons (pv 5) pa_nil)) pe_int) pa_nil)))
          (pss_one (ps_expr (pe_bm PySem.F.plainAttrs_list PySem.F.slot_list_append PySem.F.type_list_append mt_append (pv 1) (pa_cons (pe_op op_mod (pe_callTy call_int1 (by rfl) mi (by decide +kernel) (pa_cons (pe_op op_fdiv (pv 5) pe_int) pa_nil)) pe_int) pa_nil)))))))))))
      (pss_one (ps_ret (pv 1)))), ?_⟩
    -- draws = []
    refine ⟨Nat.zero_le _, fun o no => ?_⟩
    have s1 : Same H (upd H o (.lst [])) := same_upd no
    have hS1 := s1.seq hS
    refine (q_forR (n := if (ns.length : Int) < 63 then (ns.length : Int) else 63) (va_cons (vl_min2 vl_c ((vl_lenL (vl_var rfl) hS1).is (by rw [List.length_map]))) va_nil) ⟨by split <;> omega, by split <;> omega⟩
      (fun i σ H3 => ∃ y2 y3 y4 y5 ds, σ = [some (.ref a), some (.ref o), y2, y3, y4, y5] ∧ Same H H3 ∧ H3 o = some (.lst (ds.map V.int)) ∧ DrawsOk (60 * i) ds)
      ⟨none, none, none, none, [], rfl, s1, upd_same, Nat.zero_le _, fun _ h => by cases h⟩ (fun i σ H3 hi hP => ?_) (fun σ H3 hP => ?_))
    · obtain ⟨y2, y3, y4, y5, ds, rfl, sm, ho, hd⟩ := hP
      have hi2 : i < ns.length := by
        split at hi <;> omega
      have hA := sm.seq hS
      have g1 : (ns.map V.int)[i]? = some (.int ns[i]) := by
        rw [List.getElem?_map, List.getElem?_eq_getElem hi2]
        rfl
      -- rest = abs(script[k])
      refine (q_asg (v := .int (if ns[i] < 0 then -ns[i] else ns[i])) (vl_abs (vl_ixL (vl_var rfl) (vl_var rfl) hA (atI_nat g1))) ?_)
      generalize hr0 : (if ns[i] < 0 then -ns[i] else ns[i]) = r
      have hr1 : 0 ≤ r := by
        rw [← hr0]
        split <;> omega
      refine g_if (b := decide ((10 : Int) ^ (18 : Int).toNat ≤ r)) (by exact an_test (vl_I0 (vl_var rfl) (vl_I vl_c vl_c ⟨by decide, by decide, by decide⟩))) (fun _ => ?_) (fun hlt => ?_)
      · refine g_forR (n := 60) (va_cons vl_c va_nil) ⟨by decide, by decide⟩
          (fun j σ H4 => ∃ y4 r ds', σ = [some (.ref a), some (.ref o), some (.int i), some (.int r), y4, y5] ∧ Same H H4 ∧ H4 o = some (.lst (ds'.map V.int)) ∧ DrawsOk (60 * i + j) ds')
          ⟨y4, r, ds, rfl, sm, ho, hd⟩ (fun j σ H4 hj hP => ?_) (fun σ H4 hP => ?_)
        · obtain ⟨z4, r', ds', rfl, sm', ho', hd'⟩ := hP
          refine g_if (by walk_at "ev") (fun _ => ?_) (fun _ => ?_)
          · have h0 : 0 ≤ r' % 65536 := Int.emod_nonneg _ (by decide)
            have h1 : r' % 65536 < 65536 := Int.emod_lt_of_pos _ (by decide)
            refine (q_app (vl_var rfl) ho' (v := .int (r' % 65536)) (by walk_at "ev") ?_ ?_)
            · rw [List.length_map]
              have := hd'.len
              exact Nat.lt_of_le_of_lt this (Nat.lt_of_le_of_lt (show 60 * i + j ≤ 10000 by omega) (by decide))
            · refine g_asg (v := .int (r' / 65536)) (by walk_at "ev") ?_
              refine ⟨_, _, ds' ++ [r' % 65536], rfl, same_upd' sm' no, ?_, hd'.app h0 h1⟩
              rw [upd_same, List.map_append]
              rfl
          · exact ⟨_, _, ds', rfl, sm', ho', hd'.mono (Nat.le_succ _)⟩
        · obtain ⟨z4, r', ds', rfl, sm', ho', hd'⟩ := hP
          exact ⟨_, _, _, _, ds', rfl, sm', ho', hd'⟩
      · have hlt : r < 1000000000000000000 := by
          have := of_decide_eq_false hlt
          have e : (10 : Int) ^ (18 : Int).toNat = 1000000000000000000 := by decide
          omega
        refine (q_asg (v := .int ((r * 48271 + ((i : Int) + 1) * 69621) % 2147483647)) (by walk_at "ev"; exact .inl ⟨by omega, by omega⟩; exact .inl ⟨by omega, by omega⟩) ?_)
        generalize hm : (r * 48271 + ((i : Int) + 1) * 69621) % 2147483647 = m
        have hm0 : 0 ≤ m := by
          rw [← hm]
          exact Int.emod_nonneg _ (by decide)
        have hm1 : m < 2147483647 := by
          rw [← hm]
          exact Int.emod_lt_of_pos _ (by decide)
        refine (q_asg (v := .int ((m * 16807 + 11 * (i : Int) + 5) % 2147483629)) (by walk_at "ev"; exact .inl ⟨by omega, by omega⟩; exact .inl ⟨by decide, by decide⟩) ?_)
        generalize (m * 16807 + 11 * (i : Int) + 5) % 2147483629 = m2
        have h0 : 0 ≤ m2 % 65536 := Int.emod_nonneg _ (by decide)
        have h1 : m2 % 65536 < 65536 := Int.emod_lt_of_pos _ (by decide)
        have h2 : 0 ≤ (m2 / 65536) % 32768 := Int.emod_nonneg _ (by decide)
        have h3 : (m2 / 65536) % 32768 < 65536 := Int.lt_trans (Int.emod_lt_of_pos _ (by decide)) (by decide)
        have hl := hd.len
        refine (q_app (vl_var rfl) ho (v := .int (m2 % 65536)) (by walk_at "ev") ?_ ?_)
        · rw [List.length_map]
          exact Nat.lt_of_le_of_lt (show ds.length ≤ 10000 by omega) (by decide)
        · refine g_app (vl_var rfl) upd_same (v := .int ((m2 / 65536) % 32768)) (by walk_at "ev") ?_ ?_
          · rw [List.length_append, List.length_map]
            exact Nat.lt_of_le_of_lt (show ds.length + 1 ≤ 10000 by omega) (by decide)
          · refine ⟨_, _, _, _, (ds ++ [m2 % 65536]) ++ [(m2 / 65536) % 32768], rfl, same_upd' (same_upd' sm no) no, ?_, ((hd.app h0 h1).app h2 h3).mono (by omega)⟩
            rw [upd_same, List.map_append, List.map_append]
            rfl
    · obtain ⟨y2, y3, y4, y5, ds, rfl, sm, ho, hd⟩ := hP
      refine g_ret (vl_var rfl) (q H3 o ds sm no ho (hd.mono ?_))
      split <;> omega
end
abbrev sAt : Stmt := topS 15
abbrev sIsI : Stmt := topS 16
abbrev sMix : Stmt := topS 17
abbrev sPrice : Stmt := topS 18
theorem scAt : FnScope ["draws", "k", "many"] ["draws", "k", "many"] (defScope sAt) := ⟨rfl, rfl, rfl, by decide +kernel, rfl, by decide +kernel, by decide +kernel⟩
theorem scIsI : FnScope ["actual"] ["actual"] (defScope sIsI) := ⟨rfl, rfl, rfl, by decide +kernel, rfl, by decide +kernel, by decide +kernel⟩
theorem scMix : FnScope ["draws", "k", "many", "value"] ["draws", "k", "many"] (defScope sMix) := ⟨rfl, rfl, rfl, by decide +kernel, rfl, by decide +kernel, by decide +kernel⟩
theorem scPrice : FnScope ["draws", "k", "word"] ["draws", "k"] (defScope sPrice) := ⟨rfl, rfl, rfl, by decide +kernel, rfl, by decide +kernel, by decide +kernel⟩
local macro_rules
  | `(tactic| walk_at "ev") => `(tactic| repeat' (first
    | exact vl_c | exact vl_var rfl | apply vl_I0 | apply vl_I | apply vl_int1 | apply vl_abs | apply vl_min2 | apply vl_max2 | apply vl_neg | apply vl_chainI
    | apply vl_lenL | apply vl_ixL | apply vl_ixT | apply vl_isN | apply vl_notN | apply vl_eq | apply vl_ne
    | apply an_test | apply an_B | apply an_not
    | exact (show (0 : Int) < _ by decide) | exact (show (0 : Int) < _ ∧ _ < (1073741824 : Int) from ⟨by decide, by decide⟩)))
/-- an int in [0, m) for draws, k, m -/
def spAt (K : PySem.W.Frag) : Sp := fun vs H Q _ => ∃ (a : Addr) (ds : List Int) (k m : Int), vs = [.ref a, .int k, .int m] ∧ SqL K H a (ds.map V.int) ∧ 0 ≤ k ∧ 0 < m ∧ ∀ r, 0 ≤ r ∧ r < m → Q (.int r) H
def spIsI : Sp := fun vs H Q _ => ∃ i : Int, vs = [.int i] ∧ Q (.bl true) H
section
variable {P : Program} {w : World} {K : PySem.W.Frag} {mg : Str → Option Value} {base : Heap}
theorem ok_isI {f : Addr} {fd : FuncData} {k : Nat} (F : Fun K "_law_is_integer" "_law_is_integer" sIsI f fd) (ms : mg "isinstance" = none) (mi : mg "int" = none) (mb : mg "bool" = none) :
    FnOk P w K mg base CX0 (k + 1) f fd ["actual"] spIsI := by
  refine F.ok scIsI (fun vs H Q E h => ?_) (fun cdv A outer s H vs Q E hr h => ?_)
  · obtain ⟨i, rfl, _⟩ := h
    rfl
  · obtain ⟨i, rfl, q⟩ := h
    refine ⟨_, pss_one (ps_ret (pe_and (pe_callB call_isi (by rfl) ms (by decide +kernel) (pa_cons (pv 0) (pa_cons (pe_bltn (v := .ty "int") (by rfl) mi (by decide +kernel) rfl) pa_nil)))
      (pe_one (pe_not (pe_callB call_isi (by rfl) ms (by decide +kernel) (pa_cons (pv 0) (pa_cons (pe_bltn (v := .ty "bool") (by rfl) mb (by decide +kernel) rfl) pa_nil))))))), ?_⟩
    refine ⟨.int i, rfl, .int i, .ty "int", .type "int", .type "int", true, rfl, .ty _, .base (.int _), kit_ty (by decide +kernel), true, rfl, iteT ?_⟩
    exact ⟨.int i, rfl, .int i, .ty "bool", .type "int", .type "bool", false, rfl, .ty _, .base (.int _), kit_ty (by decide +kernel), false, rfl, q⟩
theorem ok_at {f : Addr} {fd : FuncData} {k : Nat} (F : Fun K "_law_at" "_law_at" sAt f fd) (ml : mg "len" = none) (mi : mg "int" = none) :
    FnOk P w K mg base CX0 (k + 1) f fd ["draws", "k", "many"] (spAt K) := by
  refine F.ok scAt (fun vs H Q E h => ?_) (fun cdv A outer s H vs Q E hr h => ?_)
  · obtain ⟨a, ds, k, m, rfl, _⟩ := h
    rfl
  · obtain ⟨a, ds, k, m, rfl, hS, hk, hm, q⟩ := h
    refine ⟨_, pss_cons (ps_if (pt_cmpR op_lt (pv 1) (pe_callB call_len_seq (by rfl) ml PySem.boot_len (pa_cons (pv 0) pa_nil)) (nomark _))
        (pss_one (ps_ret (pe_op op_mod (pe_callTy call_int1 (by rfl) mi (by decide +kernel) (pa_cons (pe_ix ix_list (pv 0) (pv 1) (fun _ _ => rfl)) pa_nil)) (pv 2)))) pss_nil)
      (pss_one (ps_ret pe_int)), ?_⟩
    refine q_when (b := decide (k < (ds.length : Int))) (by exact an_test (vl_I0 (vl_var rfl) ((vl_lenL (vl_var rfl) hS).is (by rw [List.length_map])))) (fun hb => ?_) (fun _ => ?_)
    · have hb := of_decide_eq_true hb
      obtain ⟨d, g', _⟩ := at_int hk hb
      refine g_ret (v := .int (d % m)) ?_ (q _ ⟨Int.emod_nonneg _ (by omega), Int.emod_lt_of_pos _ hm⟩)
      exact vl_I (vl_int1 (vl_ixL (vl_var rfl) (vl_var rfl) hS g')) (vl_var rfl) hm
    · exact g_ret vl_c (q 0 ⟨by omega, by omega⟩)
theorem ok_mix {f : Addr} {fd : FuncData} {k : Nat} (F : Fun K "_law_mix" "_law_mix" sMix f fd) (ml : mg "len" = none) (mi : mg "int" = none) :
    FnOk P w K mg base CX0 (k + 1) f fd ["draws", "k", "many"] (spAt K) := by
  refine F.ok scMix (fun vs H Q E h => ?_) (fun cdv A outer s H vs Q E hr h => ?_)
  · obtain ⟨a, ds, k, m, rfl, _⟩ := h
    rfl
  · obtain ⟨a, ds, k, m, rfl, hS, hk, hm, q⟩ := h
    refine ⟨_, pss_cons (ps_set (i := 3) scMix.nd rfl (.inl rfl) pe_int)
      (Evl.pss_cut (ps_if (pt_cmpR op_gt (pe_callB call_len_seq (by rfl) ml PySem.boot_len (pa_cons (pv 0) pa_nil)) pe_int (nomark _))
        (pss_one (ps_set (i := 3) scMix.nd rfl (.inl rfl) (pe_ix ix_list (pv 0) (pe_op op_mod (pe_callTy call_int1 (by rfl) mi (by decide +kernel) (pa_cons (pv 1) pa_nil)) (pe_callB call_len_seq (by rfl) ml PySem.boot_len (pa_cons (pv 0) pa_nil))) (fun _ _ => rfl)))) pss_nil)
      (pss_cons (ps_if (pt_cmpR op_lt (pv 1) (pe_callB call_len_seq (by rfl) ml PySem.boot_len (pa_cons (pv 0) pa_nil)) (nomark _))
        (pss_one (ps_ret (pe_op op_mod (pe_callTy call_int1 (by rfl) mi (by decide +kernel) (pa_cons (pv 3) pa_nil)) (pv 2)))) pss_nil)
      (pss_one (ps_ret (pe_op op_mod (pe_callTy call_int1 (by rfl) mi (by decide +kernel) (pa_cons (pe_op op_fdiv (pe_callTy call_int1 (by rfl) mi (by decide +kernel) (pa_cons (pe_op op_add (pe_op op_mul (pv 3) pe_int) (pe_op op_mul (pv 1) pe_int)) pa_nil)) pe_int) pa_nil)) (pv 2)))))), ?_⟩
    refine q_asg vl_c ?_
    refine q_cut (M := fun σ' H' => ∃ v : Int, σ' = [some (.ref a), some (.int k), some (.int m), some (.int v)] ∧ H' = H) ?_ ?_
    · refine g_when (b := decide ((0 : Int) < (ds.length : Int))) (by exact an_test (vl_I0 ((vl_lenL (vl_var rfl) hS).is (by rw [List.length_map])) vl_c)) (fun hb => ?_) (fun _ => ⟨0, rfl, rfl⟩)
      have hb := of_decide_eq_true hb
      have h0 : 0 ≤ k % (ds.length : Int) := Int.emod_nonneg _ (by omega)
      have h1 : k % (ds.length : Int) < (ds.length : Int) := Int.emod_lt_of_pos _ hb
      obtain ⟨d, g', _⟩ := at_int h0 h1
      exact g_asg (vl_ixL (vl_var rfl) (vl_I (vl_int1 (vl_var rfl)) ((vl_lenL (vl_var rfl) hS).is (by rw [List.length_map])) hb) hS g') ⟨_, rfl, rfl⟩
    · rintro σ' H' ⟨v, rfl, rfl⟩
      refine q_when (b := decide (k < (ds.length : Int))) (by exact an_test (vl_I0 (vl_var rfl) ((vl_lenL (vl_var rfl) hS).is (by rw [List.length_map])))) (fun hb => ?_) (fun _ => ?_)
      · exact g_ret (v := .int (v % m)) (vl_I (vl_int1 (vl_var rfl)) (vl_var rfl) hm) (q _ ⟨Int.emod_nonneg _ (by omega), Int.emod_lt_of_pos _ hm⟩)
      · refine g_ret (v := .int ((v * 7919 + k * 104729) / 3 % m)) (vl_I (vl_int1 (vl_I (vl_int1 (vl_I0 (vl_I (vl_var rfl) vl_c (.inr ⟨by decide, by decide⟩)) (vl_I (vl_var rfl) vl_c (.inr ⟨by decide, by decide⟩)))) vl_c ⟨by decide, by decide⟩)) (vl_var rfl) hm) (q _ ⟨Int.emod_nonneg _ (by omega), Int.emod_lt_of_pos _ hm⟩)
end
def PriceOk (o : Option Int) : Prop := ∀ x, o = some x → 1 ≤ x ∧ x ≤ 1000000
structure LnkOk (n : Int) (l : Lnk) : Prop where
  a0 : 0 ≤ l.a
  ab : l.a < l.b
  bn : l.b < n
  t : PriceOk l.t
  k : PriceOk l.k
def LnkLt (x y : Lnk) : Prop := x.a < y.a ∨ (x.a = y.a ∧ x.b < y.b)
structure NetOk (N : Net) : Prop where
  n1 : 1 ≤ N.n
  n40 : N.n ≤ 40
  ok : ∀ l ∈ N.ls, LnkOk N.n l
  lt : N.ls.Pairwise LnkLt
  len : N.ls.length ≤ 1600
/-- a net that stands in H by itself -/
def NetAt (K : PySem.W.Frag) (H : Hp) (v : V) (N : Net) : Prop := ∃ p q xs, v = .ref p ∧ H p = some (.tup [.int N.n, .ref q]) ∧ H q = some (.lst xs) ∧ DpAll K H xs (N.ls.map lnkD)
theorem NetAt.dp {K : PySem.W.Frag} {H : Hp} {v : V} {N : Net} (h : NetAt K H v N) : Dp K H v (netD N) := by
  obtain ⟨p, q, xs, rfl, hp, hq, hx⟩ := h
  exact Dp.net (.of hp) (.of hq) hx
theorem NetAt.to {K : PySem.W.Frag} {H H' : Hp} {v : V} {N : Net} (h : NetAt K H v N) (s : Same H H') : NetAt K H' v N := by
  obtain ⟨p, q, xs, rfl, hp, hq, hx⟩ := h
  exact ⟨p, q, xs, rfl, s _ _ hp, s _ _ hq, DpAll.to hx s⟩
def spPrice (K : PySem.W.Frag) : Sp := fun vs H Q _ => ∃ (a : Addr) (ds : List Int) (k : Int), vs = [.ref a, .int k] ∧ SqL K H a (ds.map V.int) ∧ 0 ≤ k ∧ ∀ H' o, Same H H' → PriceOk o → Q (oV o) H'
def spNet (K : PySem.W.Frag) : Sp := fun vs H Q _ => ∃ (a : Addr) (ds : List Int) (k m : Int), vs = [.ref a, .int k, .int m] ∧ SqL K H a (ds.map V.int) ∧ 0 ≤ k ∧ 1 ≤ m ∧ m ≤ 40 ∧
  ∀ H' v N, Same H H' → NetAt K H' v N → NetOk N → N.n ≤ m → Q v H'
section
variable {P : Program} {w : World} {K : PySem.W.Frag} {mg : Str → Option Value} {base : Heap}
theorem ok_price {f : Addr} {fd : FuncData} (F : Fun K "_law_price" "_law_price" sPrice f fd) (M : Kal P w K mg base 1 "_law_mix" ["draws", "k", "many"] (spAt K)) (mi : mg "int" = none) :
    FnOk P w K mg base CX0 2 f fd ["draws", "k"] (spPrice K) := by
  refine F.ok scPrice (fun vs H Q E h => ?_) (fun cdv A outer s H vs Q E hr h => ?_)
  · obtain ⟨a, ds, k, rfl, _⟩ := h
    rfl
  · obtain ⟨a, ds, k, rfl, hS, hk, q⟩ := h
    refine ⟨_, pss_cons (ps_set (i := 2) scPrice.nd rfl (.inl rfl) (pe_k M hr (by decide) (by rfl) (pa_cons (pv 0) (pa_cons (pv 1) (pa_cons pe_int pa_nil)))))
      (pss_cons (ps_if (pt_cmpR op_eq (pv 2) pe_int (nomark _)) (pss_one (ps_ret pe_non)) pss_nil)
      (pss_cons (ps_if (pt_cmpR op_eq (pv 2) pe_int (nomark _))
        (pss_one (ps_ret (pe_op op_sub pe_int (pe_k M hr (by decide) (by rfl) (pa_cons (pv 0) (pa_cons (pe_op op_add (pv 1) pe_int) (pa_cons pe_int pa_nil))))))) pss_nil)
      (pss_one (ps_ret (pe_op op_add pe_int (pe_k M hr (by decide) (by rfl) (pa_cons (pv 0) (pa_cons (pe_op op_add (pv 1) pe_int)
        (pa_cons (pe_ix ix_list (pe_lst (pa_cons pe_int (pa_cons pe_int (pa_cons pe_int pa_nil)))) (pe_op op_mod (pe_callTy call_int1 (by rfl) mi (by decide +kernel) (pa_cons (pv 2) pa_nil)) pe_int) (fun _ _ => rfl)) pa_nil))))))))), ?_⟩
    refine q_asgI (vi_call (P := fun r => 0 ≤ r ∧ r < 7) (va_cons (vl_var rfl) (va_cons (vl_var rfl) (va_cons vl_c va_nil))) fun Q E q => ⟨a, ds, k, 7, rfl, hS, hk, by decide, q⟩) (fun wd hw => ?_)
    refine q_when (b := decide (V.int wd = V.int 0)) (by exact an_test (vl_eq (vl_var rfl) vl_c rfl)) (fun _ => ?_) (fun _ => ?_)
    · exact g_ret vl_c (q H none (Same.refl H) (fun x e => by cases e))
    · refine q_when (b := decide (V.int wd = V.int 1)) (by exact an_test (vl_eq (vl_var rfl) vl_c rfl)) (fun _ => ?_) (fun _ => ?_)
      · refine g_retI (P := fun r => 1 ≤ r ∧ r ≤ 1000000) (vi_I0 (vi_of vl_c) (vi_call (P := fun r => 0 ≤ r ∧ r < 3) (va_cons (vl_var rfl) (va_cons (vl_I0 (vl_var rfl) vl_c) (va_cons vl_c va_nil))) fun Q E q => ⟨a, ds, k + 1, 3, rfl, hS, by omega, by decide, q⟩) (fun p r hp hr => ?_)) (fun r hr => ?_)
        · omega
        · exact q H (some r) (Same.refl H) (fun x e => by
            cases e
            exact hr)
      · refine ⟨.ref a, rfl, .int k, rfl, k, 1, rfl, rfl, by show 3 ≤ sizeLine; decide, fun p np => ?_⟩
        refine (vl_I (vl_int1 (vl_var rfl)) vl_c (by decide)) _ ?_
        obtain ⟨d, g', hd⟩ := at_int (ds := [4, 30, 1000000]) (k := wd % 3) (by omega) (by show wd % 3 < 3; omega)
        have hd1 : 1 ≤ d ∧ d ≤ 1000000 := by
          have := List.mem_of_getElem? hd
          simp only [List.mem_cons, List.not_mem_nil, or_false] at this
          omega
        refine ⟨p, _, _, _, rfl, rfl, .inl (.inl upd_same), g', ?_⟩
        refine ⟨a, ds, k + 1, d, rfl, (same_upd np).seq hS, by omega, by omega, fun r hr => ?_⟩
        exact ⟨1, r, rfl, rfl, q _ (some (1 + r)) (same_upd np) (fun x e => by
          cases e
          omega)⟩
end
abbrev sNet : Stmt := topS 19
theorem scNet : FnScope ["draws", "k", "most", "size", "dense", "links", "a", "b", "at"] ["draws", "k", "most"] (defScope sNet) := ⟨rfl, rfl, rfl, by decide +kernel, rfl, by decide +kernel, by decide +kernel⟩
/-- the links made so far: all of them before (i, c) -/
structure LsAt (n i c : Int) (ls : List Lnk) : Prop where
  ok : ∀ l ∈ ls, LnkOk n l
  to : ∀ l ∈ ls, l.a < i ∨ (l.a = i ∧ l.b < c)
  lt : ls.Pairwise LnkLt
theorem LsAt.nil {n i c : Int} : LsAt n i c [] := ⟨fun _ h => (nomatch h), fun _ h => (nomatch h), .nil⟩
theorem LsAt.mono {n i c i' c' : Int} {ls : List Lnk} (h : LsAt n i c ls) (e : i < i' ∨ (i = i' ∧ c ≤ c')) : LsAt n i' c' ls :=
  ⟨h.ok, fun l hl => by
    have := h.to l hl
    omega, h.lt⟩
theorem LsAt.app {n i c : Int} {ls : List Lnk} {t k : Option Int} (h : LsAt n i c ls) (h0 : 0 ≤ i) (h1 : i < c) (h2 : c < n) (ht : PriceOk t) (hk : PriceOk k) : LsAt n i (c + 1) (ls ++ [⟨i, c, t, k⟩]) where
  ok := fun l hl => by
    rcases List.mem_append.mp hl with h' | h'
    · exact h.ok l h'
    · rw [List.mem_singleton.mp h']
      exact ⟨h0, h1, h2, ht, hk⟩
  to := fun l hl => by
    rcases List.mem_append.mp hl with h' | h'
    · have := h.to l h'
      omega
    · rw [List.mem_singleton.mp h']
      exact .inr ⟨rfl, Int.lt_succ c⟩
  lt := List.pairwise_append.mpr ⟨h.lt, List.pairwise_singleton _ _, fun x hx y hy => by
    rw [List.mem_singleton.mp hy]
    exact h.to x hx⟩
section
variable {P : Program} {w : World} {K : PySem.W.Frag} {mg : Str → Option Value} {base : Heap}
theorem ok_net {f : Addr} {fd : FuncData} (F : Fun K "_law_net" "_law_net" sNet f fd) (M : Kal P w K mg base 1 "_law_mix" ["draws", "k", "many"] (spAt K)) (C : Kal P w K mg base 2 "_law_price" ["draws", "k"] (spPrice K)) (mr : mg "range" = none) :
    FnOk P w K mg base CX0 3 f fd ["draws", "k", "most"] (spNet K) := by
  refine F.ok scNet (fun vs H Q E h => ?_) (fun cdv A outer s H vs Q E hr h => ?_)
  · obtain ⟨a, ds, k, m, rfl, _⟩ := h
    rfl
  · obtain ⟨a, ds, k, m, rfl, hS, hk, hm1, hm2, q⟩ := h
    refine ⟨_, pss_cons (ps_set (i := 3) scNet.nd rfl (.inl rfl) (pe_op op_add pe_int (pe_k M hr (by decide) (by rfl) (pa_cons (pv 0) (pa_cons (pv 1) (pa_cons (pv 2) pa_nil))))))
      (pss_cons (ps_set (i := 4) scNet.nd rfl (.inl rfl) (pe_op op_add pe_int (pe_k M hr (by decide) (by rfl) (pa_cons (pv 0) (pa_cons (pe_op op_add (pv 1) pe_int) (pa_cons pe_int pa_nil))))))
      (pss_cons (ps_set (i := 5) scNet.nd rfl (.inl rfl) (pe_lst pa_nil))
      (pss_cons (ps_for PassesOwn.never rfl (pi_range1 (by rfl) mr (pa_cons (pv 3) pa_nil)) (pg_name (i := 6) scNet.nd rfl (.inl rfl))
        (pss_one (ps_for PassesOwn.never rfl (pi_range2 (by rfl) mr (pa_cons (pe_op op_add (pv 6) pe_int) (pa_cons (pv 3) pa_nil))) (pg_name (i := 7) scNet.nd rfl (.inl rfl))
          (pss_cons (ps_set (i := 8) scNet.nd rfl (.inl rfl) (pe_op op_add (pe_op op_add (pv 1) pe_int) (pe_op op_mul pe_int (pe_op op_add (pe_op op_mul (pv 6) (pv 3)) (pv 7)))))
          (pss_one (ps_if (pt_cmpR op_eq (pe_k M hr (by decide) (by rfl) (pa_cons (pv 0) (pa_cons (pv 8)
              (pa_cons (pe_ix ix_list (pe_lst (pa_cons pe_int (pa_cons pe_int (pa_cons pe_int (pa_cons (pv 3) (pa_cons (pv 3) pa_nil)))))) (pe_op op_sub (pv 4) pe_int) (fun _ _ => rfl)) pa_nil)))) pe_int (nomark _))
            (pss_one (ps_expr (pe_bm PySem.F.plainAttrs_list PySem.F.slot_list_append PySem.F.type_list_append mt_append (pv 5)
              (pa_cons (pe_tup (pa_cons (pv 6) (pa_cons (pv 7) (pa_cons (pe_k C hr (by decide) (by rfl) (pa_cons (pv 0) (pa_cons (pe_op op_add (pv 8) pe_int) pa_nil)))
                (pa_cons (pe_k C hr (by decide) (by rfl) (pa_cons (pv 0) (pa_cons (pe_op op_add (pv 8) pe_int) pa_nil))) pa_nil))))) pa_nil)))) pss_nil))))))
      (pss_one (ps_ret (pe_tup (pa_cons (pv 3) (pa_cons (pv 5) pa_nil)))))))), ?_⟩
    refine q_asgI (P := fun r => 1 ≤ r ∧ r ≤ m) (vi_I0 (vi_of vl_c) (vi_call (P := fun r => 0 ≤ r ∧ r < m) (va_cons (vl_var rfl) (va_cons (vl_var rfl) (va_cons (vl_var rfl) va_nil))) fun Q E q => ⟨a, ds, k, m, rfl, hS, hk, by omega, q⟩) (fun p r hp hr => by omega)) (fun n hn => ?_)
    refine q_asgI (P := fun r => 1 ≤ r ∧ r ≤ 5) (vi_I0 (vi_of vl_c) (vi_call (P := fun r => 0 ≤ r ∧ r < 5) (va_cons (vl_var rfl) (va_cons (vl_I0 (vl_var rfl) vl_c) (va_cons vl_c va_nil))) fun Q E q => ⟨a, ds, k + 1, 5, rfl, hS, by omega, by decide, q⟩) (fun p r hp hr => by omega)) (fun dn hdn => ?_)
    refine ⟨Nat.zero_le _, fun o no => ?_⟩
    refine q_forR (n := n) (va_cons (vl_var rfl) va_nil) ⟨by omega, by omega⟩
      (fun i σ H3 => ∃ y6 y7 y8 xs ls, σ = [some (.ref a), some (.int k), some (.int m), some (.int n), some (.int dn), some (.ref o), y6, y7, y8] ∧ H3 o = some (.lst xs) ∧ Same H (but H3 o) ∧ DpAll K (but H3 o) xs (ls.map lnkD) ∧ LsAt n i 0 ls ∧ ls.length ≤ i * 40)
      ⟨none, none, none, [], [], rfl, upd_same, same_but (same_upd no) no, .nil, .nil, by simp⟩ (fun i σ H3 hi hP => ?_) (fun σ H3 hP => ?_)
    · obtain ⟨y6, y7, y8, xs, ls, rfl, ho, sm, hx, hl, hlen⟩ := hP
      refine g_forR2 (lo := (i : Int) + 1) (n := n) (va_cons (vl_I0 (vl_var rfl) vl_c) (va_cons (vl_var rfl) va_nil)) ⟨by omega, by omega, by omega, by omega⟩
        (fun j σ H3 => ∃ y7 y8 xs ls, σ = [some (.ref a), some (.int k), some (.int m), some (.int n), some (.int dn), some (.ref o), some (.int i), y7, y8] ∧ H3 o = some (.lst xs) ∧ Same H (but H3 o) ∧ DpAll K (but H3 o) xs (ls.map lnkD) ∧ LsAt n i ((i : Int) + 1 + j) ls ∧ ls.length ≤ i * 40 + j)
        ⟨y7, y8, xs, ls, rfl, ho, sm, hx, hl.mono (.inr ⟨rfl, by omega⟩), hlen⟩ (fun j σ H3 hj hP => ?_) (fun σ H3 hP => ?_)
      · obtain ⟨y7, y8, xs, ls, rfl, ho, sm, hx, hl, hlen⟩ := hP
        refine q_asg (v := .int (k + 3 + 2 * (i * n + ((i : Int) + 1 + j)))) (vl_I0 (vl_I0 (vl_var rfl) vl_c) (vl_I vl_c (vl_I0 (vl_I (vl_var rfl) (vl_var rfl) (.inl ⟨by omega, by omega⟩)) (vl_var rfl)) (.inl ⟨by decide, by decide⟩))) ?_
        have hin : 0 ≤ (i : Int) * n := Int.mul_nonneg (by omega) (by omega)
        generalize hat : k + 3 + 2 * ((i : Int) * n + ((i : Int) + 1 + j)) = at_
        have hat0 : 0 ≤ at_ := by omega
        refine ⟨.ref a, rfl, .int at_, rfl, .int n, rfl, .int n, rfl, by show 5 ≤ sizeLine; decide, fun p np => ?_⟩
        refine (vl_I0 (vl_var rfl) vl_c) _ ?_
        have npo : o ≠ p := ne_of_none ho np
        obtain ⟨d, g', hd⟩ := at_int (ds := [2, 3, 4, n, n]) (k := dn - 1) (by omega) (by show dn - 1 < 5; omega)
        have hd1 : 1 ≤ d := by
          have := List.mem_of_getElem? hd
          simp only [List.mem_cons, List.not_mem_nil, or_false] at this
          omega
        have s3 : Same H3 (upd H3 p (.lst [.int 2, .int 3, .int 4, .int n, .int n])) := same_upd np
        have sH : Same H H3 := sm.trans but_same
        refine ⟨p, _, _, _, rfl, rfl, .inl (.inl upd_same), g', ?_⟩
        refine ⟨a, ds, at_, d, rfl, (sH.trans s3).seq hS, hat0, by omega, fun r hr => ?_⟩
        refine ⟨rfl, _, rfl, ite2 (fun _ => ?_) (fun _ => ?_)⟩
        · -- links.append
          have ho4 := s3 _ _ ho
          refine ⟨.ref o, rfl, .inl ⟨rfl, _, .inl (.inl ho4)⟩, .int i, rfl, .int ((i : Int) + 1 + j), rfl, ?_⟩
          refine ⟨.ref a, rfl, .int at_, rfl, at_, 1, rfl, rfl, a, ds, at_ + 1, rfl, (sH.trans s3).seq hS, by omega, fun H5 t s5 ht => ?_⟩
          refine ⟨.ref a, rfl, .int at_, rfl, at_, 2, rfl, rfl, a, ds, at_ + 2, rfl, ((sH.trans s3).trans s5).seq hS, by omega, fun H6 u s6 hu => ?_⟩
          refine ⟨by show 4 ≤ sizeLine; decide, fun T nT => ?_⟩
          have s36 : Same H3 H6 := (s3.trans s5).trans s6
          have ho6 := s36 _ _ ho
          have nTo : o ≠ T := ne_of_none ho6 nT
          have s7 : Same H6 (upd H6 T (.tup [.int i, .int ((i : Int) + 1 + j), oV t, oV u])) := same_upd nT
          refine ⟨o, xs, .ref T, rfl, rfl, s7 _ _ ho6, ?_, ?_⟩
          · rw [DpAll.len hx, List.length_map]
            exact Nat.lt_of_le_of_lt (show ls.length ≤ 10000 by omega) (by decide)
          · have sb : Same (but H3 o) (but (upd (upd H6 T (.tup [.int i, .int ((i : Int) + 1 + j), oV t, oV u])) o (.lst (xs ++ [.ref T]))) o) := by
              rw [but_upd]
              exact but_mono (s36.trans s7)
            refine ⟨_, _, xs ++ [.ref T], ls ++ [⟨i, (i : Int) + 1 + j, t, u⟩], rfl, upd_same, sm.trans sb, ?_, ?_, ?_⟩
            · rw [List.map_append]
              refine DpAll.app (DpAll.to hx sb) (DpAll.one (Dp.lnk (l := ⟨i, (i : Int) + 1 + j, t, u⟩) (.of ?_)))
              rw [but_upd, but_ne nTo.symm, upd_same]
              rfl
            · rw [show (i : Int) + 1 + ((j + 1 : Nat) : Int) = (i : Int) + 1 + j + 1 by omega]
              exact hl.app (by omega) (by omega) (by omega) ht hu
            · rw [List.length_append]
              show ls.length + 1 ≤ i * 40 + (j + 1)
              omega
        · have sb : Same (but H3 o) (but (upd H3 p (.lst [.int 2, .int 3, .int 4, .int n, .int n])) o) := but_mono s3
          exact ⟨_, _, xs, ls, rfl, s3 _ _ ho, sm.trans sb, DpAll.to hx sb, hl.mono (.inr ⟨rfl, by omega⟩), by omega⟩
      · obtain ⟨y7, y8, xs, ls, rfl, ho, sm, hx, hl, hlen⟩ := hP
        exact ⟨_, _, _, xs, ls, rfl, ho, sm, hx, hl.mono (.inl (by omega)), by omega⟩
    · obtain ⟨y6, y7, y8, xs, ls, rfl, ho, sm, hx, hl, hlen⟩ := hP
      refine ⟨.int n, rfl, .ref o, rfl, by show 2 ≤ sizeLine; decide, fun T nT => ?_⟩
      have s3 : Same H3 (upd H3 T (.tup [.int n, .ref o])) := same_upd nT
      exact q _ _ ⟨n, ls⟩ ((sm.trans but_same).trans s3) ⟨T, o, xs, rfl, upd_same, s3 _ _ ho, DpAll.to hx (but_same.trans s3)⟩ ⟨by show 1 ≤ n; omega, by show n ≤ 40; omega, hl.ok, hl.lt, by show ls.length ≤ 1600; omega⟩ (by show n ≤ m; omega)
end
/-! ### data that is the same is equal -/
theorem lay_o : ∀ o : Option Int, (oD o).canLay0 = true ∧ (oD o).depth = 0
  | none => ⟨rfl, rfl⟩
  | some _ => ⟨rfl, rfl⟩
theorem lay_lnks : ∀ ls : List Lnk, PyData.canLayAll0 (ls.map lnkD) = true ∧ PyData.depthAll (ls.map lnkD) ≤ 1
  | [] => ⟨rfl, Nat.zero_le _⟩
  | l :: ls => by
    have h1 := lay_o l.t
    have h2 := lay_o l.k
    have ih := lay_lnks ls
    constructor
    · show (((true && (true && ((oD l.t).canLay0 && ((oD l.k).canLay0 && true)))) && PyData.canLayAll0 (ls.map lnkD)) = true)
      rw [h1.1, h2.1, ih.1]
      rfl
    · show max (max 0 (max 0 (max (oD l.t).depth (max (oD l.k).depth 0))) + 1) (PyData.depthAll (ls.map lnkD)) ≤ 1
      rw [h1.2, h2.2]
      have := ih.2
      simp only [Nat.max_self, Nat.zero_add]
      omega
theorem shaped_net (N : Net) : SeqAt.shaped (netD N) = true := by
  have h := lay_lnks N.ls
  show ((true && (PyData.canLayAll0 (N.ls.map lnkD) && true)) && decide (max 0 (max (PyData.depthAll (N.ls.map lnkD) + 1) 0) + 1 ≤ 64)) = true
  rw [h.1, decide_eq_true (show max 0 (max (PyData.depthAll (N.ls.map lnkD) + 1) 0) + 1 ≤ 64 by
    have := h.2
    omega)]
  rfl
theorem eqv_net (N : Net) : PyData.eqv (netD N) (netD N) = true := SeqAt.eqv_refl _ (Bool.and_eq_true_iff.mp (shaped_net N)).1
/-! ### new lists -/
def Vn (te : TE) (σ : L2.St) (H : Hp) (xs : List V) : Prop := ∀ Q : VK, (∀ p H', Same H H' → H p = none → H' p = some (.lst xs) → Q (.ref p) H') → te σ H Q
section
variable {K : PySem.W.Frag} {σ : L2.St} {H : Hp} {ta tb te : TE} {tr : TA} {xs ys : List V} {a : Addr} {D : Ends} {tw : TS}
theorem vn_lst (h : Va tr σ H xs) (hz : xs.length ≤ sizeLine) : Vn (tLst tr) σ H xs := fun Q q => h _ ⟨hz, fun p np => q p _ (same_upd np) np upd_same⟩
theorem vn_slice {tl th : TO} {lo hi : Option Int} (h : Vl te σ H (.ref a)) (hl : ∀ Q : Option Int → Hp → Prop, Q lo H → tl σ H Q) (hh : ∀ Q : Option Int → Hp → Prop, Q hi H → th σ H Q) (hx : SqL K H a xs) : Vn (tSl (rSlL K) te tl th) σ H (cutV xs lo hi) := fun Q q =>
  h _ (hl _ (hh _ ⟨a, xs, rfl, hx, fun p np => q p _ (same_upd np) np upd_same⟩))
theorem vn_rev (h : Vl te σ H (.ref a)) (hx : SqL K H a xs) : Vn (tRevL K te) σ H xs.reverse := fun Q q => h _ ⟨a, xs, rfl, hx, fun p np => q p _ (same_upd np) np upd_same⟩
theorem vn_cat (ha : Vn ta σ H xs) (hb : ∀ H', Same H H' → Vn tb σ H' ys) (hz : xs.length + ys.length ≤ sizeLine) : Vn (tOp rCat ta tb) σ H (xs ++ ys) := fun Q q => ha _ fun p H1 s1 np hp => hb H1 s1 _ fun r H2 s2 nr hr =>
  ⟨p, r, xs, ys, rfl, rfl, s2 _ _ hp, hr, hz, fun t nt => q t _ ((s1.trans s2).trans (same_upd nt)) (Same.free (s1.trans s2) nt) upd_same⟩
theorem vn_listOf (h : Vl te σ H (.ref a)) (hx : SqL K H a xs) : Vn (tCB (fun xs H Q => ∃ p ys, xs = [V.ref p] ∧ (SqL K H p ys ∨ SqT K H p ys) ∧ ∀ l, H l = none → Q (V.ref l) (upd H l (.lst ys))) (tCons te tNil)) σ H xs := fun Q q =>
  h _ ⟨a, xs, rfl, .inl hx, fun p np => q p _ (same_upd np) np upd_same⟩
theorem q_asgN {i : Nat} (h : Vn te σ H xs) (k : ∀ p H', Same H H' → H p = none → H' p = some (.lst xs) → tw D (σ.set i (some (.ref p))) H') : tSeq (tAsg te (gName i)) tw D σ H := h _ k
end
theorem cut_to {xs : List V} {n : Nat} (h : n ≤ xs.length) : cutV xs none (some (n : Int)) = xs.take n := by
  unfold cutV
  rw [HT.sIx_none, HT.sIx_nat, Nat.min_eq_left h, Nat.sub_zero, List.drop_zero]
theorem cut_from {xs : List V} {n : Nat} (h : n ≤ xs.length) : cutV xs (some (n : Int)) none = xs.drop n := by
  unfold cutV
  rw [HT.sIx_none, HT.sIx_nat, Nat.min_eq_left h]
  exact List.take_of_length_le (by rw [List.length_drop]; exact Nat.le_refl _)
/-- lists of lists of ints -/
theorem Dp.ints {K : PySem.W.Frag} {H : Hp} {p : Addr} {ns : List Int} (h : SqL K H p (ns.map V.int)) : Dp K H (.ref p) (.list (ns.map PyData.int)) := .lst h (DpAll.ints ns)
theorem Dp.ints_inv {K : PySem.W.Frag} {H : Hp} {v : V} {ns : List Int} (h : Dp K H v (.list (ns.map PyData.int))) : ∃ p, v = .ref p ∧ SqL K H p (ns.map V.int) := by
  obtain ⟨a, xs, rfl, hs, ha⟩ := Dp.lst_inv h
  rw [DpAll.ints_inv ha] at hs
  exact ⟨a, rfl, hs⟩
end Ovc
namespace PySem
namespace LowX
open PySem.W PySem.Calls PyProof.Rows PySem.HandSPX
/-! ### the text of __init__ -/
def iA (p1 p2 : Pos) : Arguments := { posonlyargs := [], args := [{ arg := "self", annotation := none, pos := p1 }, { arg := "at", annotation := none, pos := p2 }], vararg := none, kwonlyargs := [], kw_defaults := [], kwarg := none, defaults := [] }
def iB (q1 q2 q3 q4 : Pos) : List Stmt := [.Assign [.Attribute (.Name "self" q1) "at" q2] (.Name "at" q3) q4]
def iS : Scope := { kind := .function, names := [(PySem.Str.ofString "self", .local), (PySem.Str.ofString "at", .local)], isGenerator := false, isCoroutine := false, more := [] }
/-- what the written part says of Low, at C, and of its __init__, at fI -/
structure LowTxt (K : Frag) (mg : Str → Option Value) (xN : Str) (C fI : Addr) : Prop where
  gC : mg xN = some (.ref C)
  cls : ∃ nm q N bs bm sn sub ab col dd k0 k1 k2 k3 k5, K.lookup C = some (excClassObj nm q C N bs bm true sn sub ab col dd k0 k1 k2 k3 k5 "ValueError.__new__") ∧ refsVE bm = true
  sa : findIn K (.ref C) "__setattr__" = some (some (.builtin "object.__setattr__"))
  ga : findIn K (.ref C) "__getattribute__" = some (some (.builtin "BaseException.__getattribute__"))
  gg : findIn K (.ref C) "__getattr__" = some none
  noN : findIn K (.ref C) "at" = some none
  iC : findIn K (.ref C) "__init__" = some (some (.ref fI))
  tC : typeIn K (.ref fI) = some (.type "function")
  kC : keepIn K (.ref C) = true
  exC : subIn K (.ref C) (.type "BaseException") = some true
  tyC : typeIn K (.ref C) = some (.type "type")
  hdC : hasDictIn K C = true
  te : exmOne K (.ref C) (.ref C) = some true
  fn : ∃ (oc : Value) (od : Option Addr) (doc pm : Value) (an : Option Addr) (cdv ct : Value) (osl : Array (Option Value)) (p1 p2 q1 q2 q3 q4 : Pos),
    K.lookup fI = some ⟨oc, od, .func (fnOf "__init__" "OverpassesError.__init__" (iA p1 p2) (iB q1 q2 q3 q4) iS .none .none doc pm an cdv ct), osl⟩ ∧ codeIn K cdv "OverpassesError.__init__" = true
theorem one_size (v : Value) : [v].length ≤ sizeLine := by
  rw [sizeLine_eq]
  exact (by decide : 1 ≤ 16777216)
theorem kept_but {K : Frag} {h h' : Heap} {x : Addr} (X : K.In h) (hx : K.lookup x = none) (k : ∀ b o, b ≠ x → h.get? b = some o → h'.get? b = some o) : K.In h' := fun a o e =>
  k a o (fun z => by rw [z, hx] at e; cases e) (X a o e)
theorem ldC {M : Model} {s : Shared} {name : Str} {scope : Scope} {L a : Addr} {cd : Value} {m : Str → Option Value} {x : Str} {pos : Pos} {v : Value} {Q : Value → Shared → Prop} {A : Around} {E : Value → Shared → Prop} (hn : s.heap.Ns L m) (hv : m x = some v) (h : Q v s)
    (hk : scope.kind = .function := by rfl) (hl : (envOfC name scope L a cd).kindOf x = some .local := by rfl) (hd : (x == ("__debug__" : Str)) = false := by decide) :
    wpAny M A (eval (.Name x pos) (envOfC name scope L a cd)) Q E s := wpAny_Name (wpAny_loadName_local hk hl hn hv h) hd
/-- what __init__ leaves of a fresh exception at x -/
structure InitEnd (h h' : Heap) (x C dx t1 : Addr) (v : Value) : Prop where
  keep : ∀ b o, b ≠ x → h.get? b = some o → h'.get? b = some o
  obj : h'.get? x = some { cls := .ref C, dict := some dx, data := .fields #[.ref t1, .none, .none, .none, .bool false, .none] }
  dbig : h.objs.size ≤ dx
  dne : dx ≠ x
  ns : h'.Ns1 dx (fun y => if y = "at" then some v else none)
/-- a made Low -/
structure OwnMade (h h' : Heap) (e C d : Addr) (v : Value) : Prop where
  keep : ∀ b o, h.get? b = some o → h'.get? b = some o
  new : h.objs.size ≤ e
  obj : ∃ oe vs, h'.get? e = some oe ∧ oe.cls = .ref C ∧ oe.dict = some d ∧ oe.data = .fields vs ∧ vs[1]? = some .none
  dbig : h.objs.size ≤ d
  dne : d ≠ e
  ns : h'.Ns1 d (fun y => if y = "at" then some v else none)
section
variable {prog : Program} {w : World} {A : Around} {E : Value → Shared → Prop} {R : Result → Shared → Prop} {s : Shared} {K : Frag} {mg : Str → Option Value} {xN : Str} {C fI : Addr}
theorem low_init (T : LowTxt K mg xN C fI) {x t0 : Addr} {v : Value} (X : K.In s.heap) (hlim : s.heap.NoLimit) (hx : s.heap.get? x = some (excO C t0)) (hnx : K.lookup x = none) (hroom : A.depth < recursionLimit)
    (hq : ∀ h' tk dx, InitEnd s.heap h' x C dx t0 v → R (.ok (.ret .none)) { s with heap := h', toks := tk }) :
    codeAny (model prog w) A (.call (.ref fI) ⟨[.ref x, v], []⟩) R s := by
  obtain ⟨oc, od, doc, pm, an, cdv, ct, osl, p1, p2, q1, q2, q3, q4, ho, hcd⟩ := T.fn
  obtain ⟨nm, q, N, bs, bm, sn, sub, ab, col, dd, k0, k1, k2, k3, k5, hC, hbm⟩ := T.cls
  have hcl : clsIn K C = some { name := nm, bases := bs, mro := .ref C :: bm, ns := N, qualname := q, hasDict := true, slotNames := sn, subclasses := sub, abstract := ab, collection := col, hasDel := false } := by unfold clsIn; rw [hC] <;> rfl
  refine Att.call_fn (binds := [("self", .ref x), ("at", v)]) X hlim ho hcd hroom (BindsTo.of_eq (by first | rfl | with_unfolding_all rfl)) (by first | rfl | decide | with_unfolding_all rfl) (fun s₁ IC => ?_) rfl rfl rfl
  obtain ⟨h₁, tk₁, rfl⟩ := IC.toInCall.same
  have k : ∀ b o, s.heap.get? b = some o → h₁.get? b = some o := IC.toInCall.keep
  have hn := IC.toInCall.ns
  have hxL : s.heap.objs.size ≠ x := Nat.ne_of_gt (Heap.lt_size hx)
  have X₁ : K.In h₁ := X.keeps k
  have hx₁ := k _ _ hx
  -- self.by = by
  show wpAny _ _ (execs _ _) _ _ _
  refine wpAny_execs_cons (plainObj_wpAny_Assign_Attribute ?_)
  refine ldC (v := v) hn (by first | rfl | with_unfolding_all rfl | kernel_rfl) (ldC (v := .ref x) hn (by first | rfl | with_unfolding_all rfl | kernel_rfl) ?_)
  refine set_plain X₁ (ox := excO C t0) (od := none) ⟨hx₁, rfl, rfl, trivial⟩ T.sa ?_
  refine exc_osa X₁ hx₁ hcl (show refsVE (.ref C :: bm) = true from hbm) rfl T.noN (fun h₃ tk₃ dx k₃ dn dne hx₃ hn₃ => ?_)
  show wpAny _ _ (execs _ _) _ _ _
  have z : s.heap.objs.size < h₁.objs.size := hn.lt
  exact wpAny_execs_nil (hq h₃ tk₃ dx ⟨fun b o hb e => k₃ b o hb (k b o e), hx₃, Nat.le_of_lt (Nat.lt_of_lt_of_le z dn), dne, hn₃⟩)
theorem low_made (T : LowTxt K mg xN C fI) {v : Value} (X : K.In s.heap) (hlim : s.heap.NoLimit) (hroom : A.depth + 1 < recursionLimit)
    (hq : ∀ h' tk e d, OwnMade s.heap h' e C d v → R (.ok (.ret (.ref e))) { s with heap := h', toks := tk }) :
    codeAny (model prog w) A (.call (.ref C) ⟨[v], []⟩) R s := by
  obtain ⟨nm, q, N, bs, bm, sn, sub, ab, col, dd, k0, k1, k2, k3, k5, hC, hbm⟩ := T.cls
  obtain ⟨hp, g, dr, tk, os⟩ := s
  have k : ∀ b o, hp.get? b = some o → ((hp.push (kdv_tup [v])).push (excO C hp.objs.size)).get? b = some o := fun b o e => Heap.get?_push_of_some _ (Heap.get?_push_of_some _ e)
  have hget : ((hp.push (kdv_tup [v])).push (excO C hp.objs.size)).get? (hp.objs.size + 1) = some (excO C hp.objs.size) := by heap_get
  have hnx : K.lookup (hp.objs.size + 1) = none := by
    cases e : K.lookup (hp.objs.size + 1) with
    | none => rfl
    | some o =>
      have z : hp.get? (hp.objs.size + 1) = some o := X _ _ e
      exact absurd (Nat.lt_of_succ_lt (Heap.lt_size z)) (Nat.lt_irrefl _)
  refine call_own F.excBase_ValueError (fun X => refsVE_contains X bm hbm) (X _ _ hC) (looks_findIn X T.iC) (fun self => bind_fn X self T.tC) (one_size v) ?_
  refine low_init (s := ⟨(hp.push (kdv_tup [v])).push (excO C hp.objs.size), g, dr, tk, os⟩) T (X.keeps k) (hlim.keeps k) hget hnx ?_ fun h' tk' dx ⟨k', hx, dn, dne, hns⟩ => ?_
  · show A.depth + 1 < recursionLimit
    exact hroom
  · have old : ∀ b o, hp.get? b = some o → h'.get? b = some o := fun b o e => k' b o (Nat.ne_of_lt (Nat.lt_succ_of_lt (Heap.lt_size e))) (k b o e)
    have z : hp.objs.size + 1 + 1 ≤ dx := by
      first
        | (simpa only [Heap.size_push] using dn)
        | exact dn
        | (have q := dn; rw [Heap.size_push, Heap.size_push] at q; exact q)
    exact ⟨rfl, hq h' tk' (hp.objs.size + 1) dx ⟨old, Nat.le_succ _, ⟨_, _, hx, rfl, rfl, rfl, rfl⟩, Nat.le_trans (Nat.le_trans (Nat.le_succ _) (Nat.le_succ _)) z, dne, hns⟩⟩
end
end LowX
end PySem
namespace L2
open PySem PySem.Spec PyProof.Rows
theorem relO_low {v : V} {v' : Value} (r : RelV v v') (f : Str) : RelO (List.lookup f [(("at" : Str), v)]) (if f = "at" then some v' else none) := by
  by_cases hw : f = "at"
  · subst hw
    rw [if_pos rfl]
    have q : List.lookup ("at" : Str) [(("at" : Str), v)] = some v := by simp [List.lookup]
    rw [q]
    exact r
  · rw [if_neg hw]
    have qw : (f == ("at" : Str)) = false := by simpa using hw
    have q2 : List.lookup f [(("at" : Str), v)] = none := by simp [List.lookup, qw]
    rw [q2]
    trivial
section
variable {X : Cx} {xN : Str} {C fI : Addr}
/-- Low(e) -/
def tMkLow (C : Addr) (ta : TA) : St → Hp → XK → Prop := fun σ H Q => ta σ H fun vs H1 => ∃ v, vs = [v] ∧ ∀ d, H1 d = none → Q (.ref C) (some d) (upd H1 d (.xd [(("at" : Str), v)]))
theorem pmk_low {a : Expr} {ta : TA} {p pos : Pos} {k : Nat} (T : PySem.LowX.LowTxt X.K X.mg xN C fI) (hr : Room k X.A) (ha : PA X [a] ta) (hg : Gl X xN := by rfl) (hdb : (xN == ("__debug__" : Str)) = false := by decide)
    (he : starEach (a :: []) X.env = (false, eval a X.env) :: starEach [] X.env := by rfl) (hpl : (backTo pos (starEach [] X.env)).any (·.1) = false := by rfl) :
    PMk X (.Call (.Name xN p) [a] [] pos) (tMkLow C ta) := by
  intro pins s σ H Q I h
  refine wpAny_Call_Name_kw (ld_glob I hg T.gC ?_ hdb)
  refine PySem.W.callWith_K (h₀ := X.base) I.ok.mod.kin T.kC (thn (ha.run pos pins s σ H _ I h) fun us s1 hh => ?_) he hpl
  obtain ⟨vs, H1, I1, r1, v, ev, q1⟩ := hh
  subst ev
  refine ⟨I1.kIn, ?_⟩
  cases r1 with
  | cons rv rn =>
    rename_i v' us'
    cases rn
    show wpAny _ _ (call (.ref C) [v']) _ _ _
    have hlim := I1.nolimit
    obtain ⟨hp, g, dr, tk, os⟩ := s1
    refine wpAny_call (PySem.LowX.low_made T I1.kIn hlim (by have := hr.dp; omega) fun h' tk' e d M => ?_)
    show MkP X pins σ Q (.ref e) ⟨h', g, dr, tk', os⟩
    obtain ⟨oe, fv, hoe, hc, hd, hdat, h1⟩ := M.obj
    have hns := M.ns
    obtain ⟨G', g1, g2⟩ := restrict h' fun b => decide (b ≠ e)
    have gk : ∀ b, b ≠ e → G'.get? b = h'.get? b := fun b hb => g1 b (decide_eq_true hb)
    have ge : G'.get? e = none := g2 e (by simp)
    have old : ∀ b o, hp.get? b = some o → G'.get? b = some o := fun b o q => (gk b (Nat.ne_of_lt (Nat.lt_of_lt_of_le (Heap.lt_size q) M.new))).trans (M.keep b o q)
    have ob : ObjOk X.prog X.w (upd H1 d (.xd [(("at" : Str), v)])) G' d (.xd [(("at" : Str), v)]) :=
      ⟨_, hns.at (fun o q => (gk d M.dne).trans q), fun f => relO_low rv f⟩
    have J : Inv X pins σ (upd H1 d (.xd [(("at" : Str), v)])) ⟨G', g, dr, tk', os⟩ := I1.laid (t' := tk') old M.dbig ob
    refine ⟨e, oe, fv, ⟨G', g, dr, tk', os⟩, _, .ref C, some d, rfl, J, fun b o q => ?_, ge, hoe, ⟨hc, hd⟩, hdat, h1, ?_, rfl, I1.bare, raises_own T.exC T.tyC, q1 d (I1.hok.fresh M.dbig)⟩
    · by_cases hb : b = e
      · have q' : G'.get? b = some o := q
        rw [hb, ge] at q'; cases q'
      · exact (gk b hb).symm.trans q
    · rw [upd_ne (Ne.symm M.dne)]
      exact I1.hok.fresh M.new
/-- raise Low(e) -/
def tRaiseLow (C : Addr) (W : WX) (ta : TA) : TS := fun _ σ H => tMkLow C ta σ H fun cls d H' => W cls d σ H'
theorem ps_raiseLow {a : Expr} {ta : TA} {W : WX} {p pos pos2 : Pos} {k : Nat} (hc : X.calm = true) (T : PySem.LowX.LowTxt X.K X.mg xN C fI) (hr : Room k X.A) (tk : Takes X W) (ha : PA X [a] ta) (hg : Gl X xN := by rfl) (hdb : (xN == ("__debug__" : Str)) = false := by decide)
    (he : starEach (a :: []) X.env = (false, eval a X.env) :: starEach [] X.env := by rfl) (hpl : (backTo pos (starEach [] X.env)).any (·.1) = false := by rfl) :
    PS X (.Raise (some (.Call (.Name xN p) [a] [] pos)) none pos2) (tRaiseLow C W ta) := ps_raise hc tk (pmk_low T hr ha hg hdb he hpl)
/-- low.by, low the exception that the suite holds (at a; its class cls, its dict d) -/
def tByLow (C : Addr) (a : Addr) (cls : Value) (d : Option Addr) (te : TE) : TE := fun σ H Q => te σ H fun x H1 => x = .ref a ∧ cls = .ref C ∧ ∃ (dd : Addr) (v : V), d = some dd ∧ H1 dd = some (.xd [(("at" : Str), v)]) ∧ Q v H1
theorem pe_byLow {a : Addr} {oe : Obj} {cls : Value} {d : Option Addr} {pn : List (Addr × Obj)} {e : Expr} {te : TE} {pos : Pos} (T : PySem.LowX.LowTxt X.K X.mg xN C fI) (hz : Zc cls d oe) (hf : ∃ vs, oe.data = .fields vs) (he : PE (X.suite a ((a, oe) :: pn)) e te)
    (hb : attributeBase e "at" X.env (eval e X.env) = eval e X.env := by rfl) :
    PE (X.suite a ((a, oe) :: pn)) (.Attribute e "at" pos) (tByLow C a cls d te) := by
  refine ⟨fun pins s σ H Q I h => ?_⟩
  refine attr_of hb (thn (he.run pins s σ H _ I h) fun u s1 hh => ?_)
  obtain ⟨x, H1, I1, rx, ex, ec, dd, v, ed, ea, q⟩ := hh
  subst ex
  obtain rfl : u = Value.ref a := rx
  subst ec
  subst ed
  obtain ⟨ha, _⟩ := I1.pin (a, oe) (List.mem_append_left _ List.mem_cons_self)
  obtain ⟨vs, hd⟩ := hf
  have hx : ObjOk X.prog X.w H1 s1.heap dd (.xd [(("at" : Str), v)]) := I1.hok dd _ ea
  obtain ⟨mA, hns, hr⟩ := hx
  obtain ⟨od, ho, hl⟩ := lookIn_ns hns
  have l : List.lookup ("at" : Str) [(("at" : Str), v)] = some v := by simp [List.lookup]
  obtain ⟨u, hu, ru⟩ := RelO.some_of (v := v) (o := mA "at") (by rw [← l]; exact hr "at")
  have J : PySem.W.InstAt s1.heap a oe C (some od) := ⟨ha, hz.1, by unfold PySem.W.notCls; rw [hd] <;> rfl, by rw [hz.2]; exact ho⟩
  exact HandSPX.exc_get I1.kIn J T.ga T.gg T.exC (PySem.W.findObj_own T.hdC T.noN rfl (by rw [hl, hu])) (handed_of ru) ⟨v, H1, I1.tok _, ru, q⟩
end
end L2

namespace L2
open PySem PySem.Spec PyProof.Rows
/-- an if whose test is known -/
theorem if_true_of {c : Bool} {A B : Prop} (hc : c = true) (h : A) : if c = true then A else B := by
  rw [if_pos hc]
  exact h
theorem if_false_of {c : Bool} {A B : Prop} (hc : c = false) (h : B) : if c = true then A else B := by
  rw [hc, if_neg Bool.false_ne_true]
  exact h
end L2
namespace Ovc
open PySem PySem.Spec PyProof.Rows L2
/-! ### try with several clauses, each with a name or without one -/
/-- the ends of a suite whose name's slot is emptied behind it -/
def endsAs (i : Nat) (D : Ends) : Ends := { nx := fun σ H => D.nx (σ.set i none) H, rt := D.rt, bk := fun σ H => D.bk (σ.set i none) H, ct := fun σ H => D.ct (σ.set i none) H }
abbrev Clause := Value × Option Nat × (Addr → Value → Option Addr → TS)
def runClause (q : Clause) (a : Addr) (cls : Value) (d : Option Addr) (D : Ends) (σ : L2.St) (H : Hp) : Prop :=
  match q.2.1 with
  | none => q.2.2 a cls d D σ H
  | some i => q.2.2 a cls d (endsAs i D) (σ.set i (some (.ref a))) H
def wClauses (K : PySem.W.Frag) (Wout : WX) (D : Ends) : List Clause → WX
  | [] => Wout
  | q :: r => fun cls d σ H => ∃ b, PySem.W.exmOne K cls q.1 = some b ∧ (b = true → ∀ a, H a = none → runClause q a cls d D σ H) ∧ (b = false → wClauses K Wout D r cls d σ H)
inductive ClOk (X : Cx) : List ExceptHandler → List Clause → Prop
  | nil : ClOk X [] []
  | bare {x : Str} {c : Value} {ts : Addr → Value → Option Addr → TS} {st₀ : Stmt} {sts : List Stmt} {p1 p2 : Pos} {hds : List ExceptHandler} {l : List Clause} (hc : Names X x c)
      (suite : ∀ (a : Addr) (ob : Obj) (cls : Value) (d : Option Addr) (pn : List (Addr × Obj)), Zc cls d ob → (∃ fv, ob.data = .fields fv) → PSs (X.suite a ((a, ob) :: pn)) (st₀ :: sts) (ts a cls d)) (more : ClOk X hds l) :
      ClOk X (.ExceptHandler (some (.Name x p1)) none (st₀ :: sts) p2 :: hds) ((c, none, ts) :: l)
  | named {x n : Str} {c : Value} {i : Nat} {ts : Addr → Value → Option Addr → TS} {st₀ : Stmt} {sts : List Stmt} {p1 p2 : Pos} {hds : List ExceptHandler} {l : List Clause} (hN : X.N.Nodup) (hi : X.N[i]? = some n) (hln : X.env.kindOf n = some .local) (hc : Names X x c)
      (suite : ∀ (a : Addr) (ob : Obj) (cls : Value) (d : Option Addr) (pn : List (Addr × Obj)), Zc cls d ob → (∃ fv, ob.data = .fields fv) → PSs (X.suite a ((a, ob) :: pn)) (st₀ :: sts) (ts a cls d)) (more : ClOk X hds l) :
      ClOk X (.ExceptHandler (some (.Name x p1)) (some n) (st₀ :: sts) p2 :: hds) ((c, some i, ts) :: l)
section
variable {X : Cx} {body : List Stmt} {hd₀ : ExceptHandler} {hds : List ExceptHandler} {l : List Clause} {pos : Pos} {tb : WX → TS} {Wout : WX}
theorem ps_try_cl (hsk : X.stack = X.env :: X.outer) (hfm : X.env.frame = some X.env.locals) (tk : Takes X Wout)
    (hb : ∀ (W : WX) (pn : List (Addr × Obj)) (xe : Value → Shared → Prop), Takes (X.tr pn xe) W → PassesOwn (model X.prog X.w) X.A X.env xe → PSs (X.tr pn xe) body (tb W))
    (hcl : ClOk X (hd₀ :: hds) l) : PS X (.Try body (hd₀ :: hds) [] [] pos) (fun D σ H => tb (wClauses X.K Wout D l) D σ H) := by
  refine ⟨fun pins s σ H D I0 hr => ?_⟩
  have okX := I0.ok
  have frA : X.A.frames = some (X.env :: X.outer) := by rw [okX.frames, hsk]
  refine wpAny_Try_except (wpAny_mono ((hb (wClauses X.K Wout D l) (X.pn ++ pins) (fun e t₁ => wpAny (model X.prog X.w) X.A (noteFrame e X.env) (fun _ t₂ => wpAny (model X.prog X.w) X.A (setFlight e none) (fun _ t₃ =>
    wpAny (model X.prog X.w) X.A (handleBy e X.env (hd₀ :: hds)) (SP X pins D) X.xe t₃) X.xe t₂) X.xe t₁) (fun u t xx => ?caught) PassesOwn.looking).run [] s σ H D (I0.toTry _) hr) (fun fl t hsp => ?after) (fun e t he => he))
  case after =>
    cases fl with
    | next => exact let ⟨σ1, H1, I1, z⟩ := hsp; wpAny_execs_nil ⟨σ1, H1, I1.ofTry okX, z⟩
    | brk => exact let ⟨σ1, H1, I1, z⟩ := hsp; ⟨σ1, H1, I1.ofTry okX, z⟩
    | cont => exact let ⟨σ1, H1, I1, z⟩ := hsp; ⟨σ1, H1, I1.ofTry okX, z⟩
    | ret u => exact let ⟨v, σ1, H1, I1, r, z⟩ := hsp; ⟨v, σ1, H1, I1.ofTry okX, r, z⟩
  case caught =>
    obtain ⟨a, B, sI, pins1, σ1, H1, cls, d, rfl, I1', nb, up, sky, na, os, ag, wish⟩ := xx
    have I1 : Inv X pins σ1 H1 sI := I1'.ofTry okX
    have skyF : Sky B (X.env :: X.outer) a (Zc cls d) X.env.locals t.heap := by rw [← hsk]; exact sky
    refine Sky.land Zc.steady frA hfm skyF fun h3 fl3 up3 => ?_
    have I3 : Inv X pins σ1 H1 { t with heap := h3 } := I1.landed nb fl3.1 (up.trans up3) os ag
    obtain ⟨ob3, fv3, at3, z3, dat3⟩ := fl3.there
    have off : a ∉ frs (X.env :: X.outer) := fun hm => by
      obtain ⟨_, o', e', hnf⟩ := fl3.2.2.1.mem hm
      rw [at3] at e'
      cases e'
      exact hnf _ dat3
    have offL : a ≠ X.env.locals := fun z => off (List.mem_filterMap.mpr ⟨X.env, List.mem_cons_self, by rw [hfm, z]⟩)
    have offF : a ∉ X.fs := fun hm => let ⟨en, hen, z⟩ := List.mem_filterMap.mp hm; off (List.mem_filterMap.mpr ⟨en, List.mem_cons_of_mem _ hen, z⟩)
    have SU3 := I3.suite at3 dat3 na offL offF
    have test : ∀ {x : Str} {c : Value} {p1 : Pos} {Q : Value → Shared → Prop} {E : Value → Shared → Prop}, Names X x c → Q c { t with heap := h3 } →
        wpAny (model X.prog X.w) (X.A.mark (some (.ref a))) (eval (.Name x p1) X.env) Q E { t with heap := h3 } := fun {x c p1 Q E} hc z => by
      obtain ⟨hg, hdb, hm | ⟨hm, hv, hne⟩⟩ := hc
      · exact ld_glob (X := X.suite a ((a, ob3) :: (X.pn ++ pins))) SU3 hg hm z hdb
      · exact ld_blt (X := X.suite a ((a, ob3) :: (X.pn ++ pins))) SU3 hg hm hv z hne hdb
    have looks : PySem.W.Looks (model X.prog X.w) h3 (typeOf (.ref a)) cls := fun A Q E s1 keep z => wpAny_typeOf_ref (keep _ _ at3) (by rw [z3.1]; exact z)
    suffices go : ∀ {hs1 : List ExceptHandler} {l1 : List Clause}, ClOk X hs1 l1 → wClauses X.K Wout D l1 cls d σ1 H1 → wpAny (model X.prog X.w) X.A (handleBy (.ref a) X.env hs1) (SP X pins D) X.xe { t with heap := h3 } from go hcl wish
    intro hs1 l1 hk
    induction hk with
    | nil =>
      intro wo
      refine wpAny_handleBy_nil ?_
      obtain ⟨k1, k2, k3, ob, fv, T, oT, tv, heT, hzT, hdT, hT1, hTr⟩ := id fl3
      unfold PySem.passOn
      refine wpAny_bind (wpAny_field heT hdT hT1 ?_)
      rw [if_neg (show ¬ (Value.ref T == Value.none) = true from by simp)]
      have fin : wpAny (model X.prog X.w) X.A (setFlight (.ref a) X.env.frame) (fun _ t4 => wpAny (model X.prog X.w) X.A (throw (.ref a) : Sem Flow) (SP X pins D) X.xe t4) X.xe { t with heap := h3 } := by
        rw [hfm]
        exact HandSPX.setFlight_upZ fl3 fun h4 held4 up4 => wpAny_throw (tk _ _ ⟨a, B, sI, pins, σ1, H1, cls, d, rfl, I1, nb, (up.trans up3).trans up4, .inr (.inr (by rw [hsk]; exact held4)), na, os, ag, wo⟩)
      first | exact wpAny_bind (wpAny_pure (wpAny_bind fin)) | exact wpAny_bind fin
    | @bare x c ts st₀ sts p1 p2 hs2 l2 hc suite more ih =>
      rintro ⟨b, hb1, yes, no⟩
      refine wpAny_handleBy_cons (codeAny_handlers_test (test hc ((PySem.W.exm_one (M := model X.prog X.w) I3.kIn looks hb1).here ?_))) (by intro q; cases q)
      cases b with
      | false => exact ih (no rfl)
      | true =>
        refine codeAny_handlers_suite (HandSPX.lands_againZ fl3 fun h4 fl4 up4 => ?_)
        have I4 : Inv X pins σ1 H1 { t with heap := h4 } := I1.landed nb fl4.1 ((up.trans up3).trans up4) os ag
        obtain ⟨ob4, fv4, at4, z4, dat4⟩ := fl4.there
        refine wpAny_mono ((suite a ob4 cls d (X.pn ++ pins) z4 ⟨_, dat4⟩).run [] _ _ H1 _ (I4.suite at4 dat4 na offL offF) (yes rfl a na)) (fun f t6 hsp => ?_) (fun _ _ z => False.elim z)
        cases f with
        | next => exact let ⟨σ6, H6, S6, z6⟩ := hsp; ⟨_, _, S6.unsuite okX, z6⟩
        | brk => exact let ⟨σ6, H6, S6, z6⟩ := hsp; ⟨_, _, S6.unsuite okX, z6⟩
        | cont => exact let ⟨σ6, H6, S6, z6⟩ := hsp; ⟨_, _, S6.unsuite okX, z6⟩
        | ret u => exact let ⟨v6, σ6, H6, S6, r6, z6⟩ := hsp; ⟨_, _, _, S6.unsuite okX, r6, z6⟩
    | @named x n c i ts st₀ sts p1 p2 hs2 l2 hN hi hln hc suite more ih =>
      rintro ⟨b, hb1, yes, no⟩
      refine wpAny_handleBy_cons (codeAny_handlers_test (test hc ((PySem.W.exm_one (M := model X.prog X.w) I3.kIn looks hb1).here ?_))) (by intro q; cases q)
      cases b with
      | false => exact ih (no rfl)
      | true =>
        refine codeAny_handlers_suite_as (HandSPX.lands_againZ fl3 fun h4 fl4 up4 => ?_)
        have I4 : Inv X pins σ1 H1 { t with heap := h4 } := I1.landed nb fl4.1 ((up.trans up3).trans up4) os ag
        obtain ⟨ob4, fv4, at4, z4, dat4⟩ := fl4.there
        refine store_ok (X := X.suite a ((a, ob4) :: (X.pn ++ pins))) (v := .ref a) (I4.suite at4 dat4 na offL offF) hN hi (.inl hln) rfl (fun t5 S5 => ?_) (.inr hln)
        refine wpAny_mono ((suite a ob4 cls d (X.pn ++ pins) z4 ⟨_, dat4⟩).run [] t5 _ H1 _ S5 (yes rfl a na)) (fun f t6 hsp => ?_) (fun _ _ z => False.elim z)
        have off6 : ∀ {σ6 : L2.St} {H6 : Hp} {Q : Shared → Prop}, Inv (X.suite a ((a, ob4) :: (X.pn ++ pins))) [] σ6 H6 t6 → (∀ t7, Inv X pins (σ6.set i none) H6 t7 → Q t7) →
            wpAny (model X.prog X.w) X.A (do bindName X.env n .none; unbindBehindTheSuite X.env n p2) (fun _ t7 => Q t7) X.xe t6 := fun {σ6 H6 Q} S6 hq => gone_ok (S6.unsuite okX) hN hi hln hq
        cases f with
        | next => exact let ⟨σ6, H6, S6, z6⟩ := hsp; off6 S6 fun t7 I7 => ⟨_, _, I7, z6⟩
        | brk => exact let ⟨σ6, H6, S6, z6⟩ := hsp; off6 S6 fun t7 I7 => ⟨_, _, I7, z6⟩
        | cont => exact let ⟨σ6, H6, S6, z6⟩ := hsp; off6 S6 fun t7 I7 => ⟨_, _, I7, z6⟩
        | ret u => exact let ⟨v6, σ6, H6, S6, r6, z6⟩ := hsp; off6 S6 fun t7 I7 => ⟨_, _, _, I7, r6, z6⟩
end
/-! ### a < b < c < d as a test -/
def tTest3 (r1 r2 r3 : R2) (ta tb tc td : TE) : TT := fun σ H Q => ta σ H fun x H1 => tb σ H1 fun y H2 => r1 x y H2 fun z H3 => ∃ k, z = .bl k ∧
  (if k = true then tc σ H3 fun u H4 => r2 y u H4 fun z2 H5 => ∃ k2, z2 = .bl k2 ∧ (if k2 = true then td σ H5 fun v H6 => r3 u v H6 fun z3 H7 => ∃ k3, z3 = .bl k3 ∧ Q k3 H7 else Q false H5) else Q false H3)
theorem pt_chain3 {X : Cx} {a b c d : Expr} {ta tb tc td : TE} {o1 o2 o3 : CmpOp} {r1 r2 r3 : R2} {pos : Pos} (h1 : OpR X (compareOp o1) r1) (h2 : OpR X (compareOp o2) r2) (h3 : OpR X (compareOp o3) r3) (ha : PE X a ta) (hb : PE X b tb) (hc : PE X c tc) (hd : PE X d td)
    (hm : lastMarks [o1, o2, o3] [b, c, d] = false := by with_unfolding_all rfl) : PT X (.Compare a [o1, o2, o3] [b, c, d] pos) (tTest3 r1 r2 r3 ta tb tc td) := by
  refine ⟨fun pins s σ H Q I0 hr => isTrue_chain (thn (ha.run pins s σ H _ I0 hr) fun v1 s1 ⟨x, H1, I1, e1, q1⟩ => test_link (thn (hb.run pins s1 σ H1 _ I1 q1) fun v2 s2 ⟨y, H2, I2, e2, q2⟩ =>
    thn (h1 pins s2 σ H2 x y v1 v2 _ I2 e1 e2 q2) fun v3 s3 ⟨z, H3, I3, e3, k, ez, q3⟩ => ?_)) hm⟩
  subst ez
  cases e3
  refine wpAny_truthy_bool ?_
  cases k with
  | false => exact ite_ff ⟨H3, I3, q3⟩
  | true =>
    refine ite_tt (test_link (thn (hc.run pins s3 σ H3 _ I3 q3) fun v4 s4 ⟨u, H4, I4, e4, q4⟩ => thn (h2 pins s4 σ H4 y u v2 v4 _ I4 e2 e4 q4) fun v5 s5 ⟨z2, H5, I5, e5, k2, ez2, q5⟩ => ?_))
    subst ez2
    cases e5
    refine wpAny_truthy_bool ?_
    cases k2 with
    | false => exact ite_ff ⟨H5, I5, q5⟩
    | true =>
      refine ite_tt (test_last (thn (hd.run pins s5 σ H5 _ I5 q5) fun v6 s6 ⟨v, H6, I6, e6, q6⟩ => thn (h3 pins s6 σ H6 u v v4 v6 _ I6 e4 e6 q6) fun v7 s7 ⟨z3, H7, I7, e7, k3, ez3, q7⟩ => ?_))
      subst ez3
      cases e7
      exact wpAny_truthy_bool ⟨H7, I7, q7⟩
theorem an_chain3 {σ : L2.St} {H : Hp} {g1 g2 g3 : Int → Int → Bool} {ta tb tc td : TE} {p q r s : Int} (ha : Vl ta σ H (.int p)) (hb : Vl tb σ H (.int q)) (hc : Vl tc σ H (.int r)) (hd : Vl td σ H (.int s)) :
    An (tTest3 (rI0 fun i j => .bl (g1 i j)) (rI0 fun i j => .bl (g2 i j)) (rI0 fun i j => .bl (g3 i j)) ta tb tc td) σ H (g1 p q && (g2 q r && g3 r s)) := fun Q k =>
  ha _ (hb _ ⟨p, q, rfl, rfl, _, rfl, by
    show if g1 p q = true then _ else _
    revert k
    cases g1 p q with
    | false => exact fun k => iteF k
    | true => exact fun k => iteT (hc _ ⟨q, r, rfl, rfl, _, rfl, by
        show if g2 q r = true then _ else _
        revert k
        cases g2 q r with
        | false => exact fun k => iteF k
        | true => exact fun k => iteT (hd _ ⟨r, s, rfl, rfl, _, rfl, k⟩)⟩)⟩)
/-! ### tests that make objects on their way -/
def Ax (t : TT) (σ : L2.St) (H : Hp) (b : Bool) : Prop := ∀ Q : Bool → Hp → Prop, (∀ H', Same H H' → Q b H') → t σ H Q
section
variable {K : PySem.W.Frag} {σ : L2.St} {H : Hp} {t u : TT} {D : Ends} {tz tu tw : TS} {ta tb tc : TE}
theorem ax_of {b : Bool} (h : An t σ H b) : Ax t σ H b := fun Q q => h Q (q H (Same.refl H))
theorem ax_not {b : Bool} (h : Ax t σ H b) : Ax (tNot t) σ H (!b) := fun Q q => h _ fun H' s => q H' s
theorem ax_and {k m : Bool} (h1 : Ax t σ H k) (h2 : k = true → ∀ H', Same H H' → Ax u σ H' m) : Ax (tAnd t u) σ H (k && m) := fun Q q => h1 _ fun H1 s1 => by
  cases k with
  | true => exact iteT (h2 rfl H1 s1 _ fun H2 s2 => q H2 (s1.trans s2))
  | false => exact iteF (q H1 s1)
theorem ax_or {k m : Bool} (h1 : Ax t σ H k) (h2 : k = false → ∀ H', Same H H' → Ax u σ H' m) : Ax (tOr t u) σ H (k || m) := fun Q q => h1 _ fun H1 s1 => by
  cases k with
  | true => exact iteT (q H1 s1)
  | false => exact iteF (h2 rfl H1 s1 _ fun H2 s2 => q H2 (s1.trans s2))
theorem Ax.is {k m : Bool} (h : Ax t σ H k) (e : k = m) : Ax t σ H m := e ▸ h
theorem g_ifx {b : Bool} (h : Ax t σ H b) (h1 : b = true → ∀ H', Same H H' → tz D σ H') (h2 : b = false → ∀ H', Same H H' → tu D σ H') : tIfS t tz tu D σ H := h _ fun H' s => by
  cases b with
  | true => exact iteT (h1 rfl H' s)
  | false => exact iteF (h2 rfl H' s)
theorem q_ifx {b : Bool} (h : Ax t σ H b) (h1 : b = true → ∀ H', Same H H' → tz { D with nx := tw D } σ H') (h2 : b = false → ∀ H', Same H H' → tu { D with nx := tw D } σ H') : tSeq (tIfS t tz tu) tw D σ H := g_ifx (D := { D with nx := tw D }) h h1 h2
theorem q_whenx {b : Bool} (h : Ax t σ H b) (h1 : b = true → ∀ H', Same H H' → tz { D with nx := tw D } σ H') (h2 : b = false → ∀ H', Same H H' → tw D σ H') : tSeq (tIfS t tz tNext) tw D σ H := g_ifx (D := { D with nx := tw D }) h h1 h2
theorem g_whenx {b : Bool} (h : Ax t σ H b) (h1 : b = true → ∀ H', Same H H' → tz D σ H') (h2 : b = false → ∀ H', Same H H' → D.nx σ H') : tIfS t tz tNext D σ H := g_ifx h h1 h2
theorem lexAt2 {a b c d : Int} : Ob.lexAt (fun j => decide ([a, b].getD j 0 = [c, d].getD j 0)) (fun j => decide ([a, b].getD j 0 ≤ [c, d].getD j 0)) (decide ([a, b].length ≤ [c, d].length)) 0 (min [a, b].length [c, d].length) = decide (a < c ∨ (a = c ∧ b ≤ d)) := by
  show (if decide (a = c) = true then (if decide (b = d) = true then decide (2 ≤ 2) else decide (b ≤ d)) else decide (a ≤ c)) = _
  by_cases h1 : a = c
  · rw [if_pos (decide_eq_true h1)]
    by_cases h2 : b = d
    · rw [if_pos (decide_eq_true h2), decide_eq_true (Nat.le_refl 2), decide_eq_true (.inr ⟨h1, by omega⟩)]
    · rw [if_neg (fun h => h2 (of_decide_eq_true h)), Bool.eq_iff_iff]
      simp only [decide_eq_true_eq]
      omega
  · rw [if_neg (fun h => h1 (of_decide_eq_true h)), Bool.eq_iff_iff]
    simp only [decide_eq_true_eq]
    omega
/-- (a, b) <= t, t a tuple of two ints -/
theorem ax_leT {a b c d : Int} {T : Addr} (ha : Vl ta σ H (.int a)) (hb : Vl tb σ H (.int b)) (hc : ∀ H', Same H H' → Vl tc σ H' (.ref T)) (hT : SqT K H T [.int c, .int d]) : Ax (tTest (tOp (rLeT K) (tTup (tCons ta (tCons tb tNil))) tc)) σ H (decide (a < c ∨ (a = c ∧ b ≤ d))) := fun Q q =>
  ha _ (hb _ ⟨by show 2 ≤ sizeLine; decide, fun S nS => hc _ (same_upd nS) _ ⟨S, T, [a, b], [c, d], rfl, rfl, .of upd_same, seqT (same_upd nS) hT, _, rfl, by
    rw [lexAt2]
    exact q _ (same_upd nS)⟩⟩)
/-- (a, b) == (c, d), the tuples made on the way -/
theorem ax_eqTT {td : TE} {p q r s : Int} (ha : ∀ H', Same H H' → Vl ta σ H' (.int p)) (hb : ∀ H', Same H H' → Vl tb σ H' (.int q)) (hc : ∀ H', Same H H' → Vl tc σ H' (.int r)) (hd : ∀ H', Same H H' → Vl td σ H' (.int s)) :
    Ax (tTest (tOp (rEqD K) (tTup (tCons ta (tCons tb tNil))) (tTup (tCons tc (tCons td tNil))))) σ H (decide (p = r ∧ q = s)) := fun Q k =>
  ha H (Same.refl H) _ (hb H (Same.refl H) _ ⟨by show 2 ≤ sizeLine; decide, fun T nT => by
    have s1 : Same H (upd H T (.tup [.int p, .int q])) := same_upd nT
    refine hc _ s1 _ (hd _ s1 _ ⟨by show 2 ≤ sizeLine; decide, fun S nS => ?_⟩)
    have s2 : Same (upd H T (.tup [.int p, .int q])) (upd (upd H T (.tup [.int p, .int q])) S (.tup [.int r, .int s])) := same_upd nS
    refine ⟨.tuple [.int p, .int q], .tuple [.int r, .int s], .tup (.of (s2 _ _ upd_same)) (.cons (.int _) (.cons (.int _) .nil)), .tup (.of upd_same) (.cons (.int _) (.cons (.int _) .nil)), by rfl, by rfl, _, rfl, ?_⟩
    rw [show PyData.eqv (.tuple [.int p, .int q]) (.tuple [.int r, .int s]) = decide (p = r ∧ q = s) by
      show (p == r && (q == s && true)) = _
      rw [Bool.and_true, Bool.eq_iff_iff]
      simp]
    exact k _ (s1.trans s2)⟩)
/-- t == (c, d), t a tuple of two ints -/
theorem ax_eqRT {p q r s : Int} {T : Addr} (ha : Vl ta σ H (.ref T)) (hT : SqT K H T [.int p, .int q]) (hb : Vl tb σ H (.int r)) (hc : Vl tc σ H (.int s)) :
    Ax (tTest (tOp (rEqD K) ta (tTup (tCons tb (tCons tc tNil))))) σ H (decide (p = r ∧ q = s)) := fun Q k =>
  ha _ (hb _ (hc _ ⟨by show 2 ≤ sizeLine; decide, fun S nS => by
    have s2 : Same H (upd H S (.tup [.int r, .int s])) := same_upd nS
    refine ⟨.tuple [.int p, .int q], .tuple [.int r, .int s], .tup (seqT s2 hT) (.cons (.int _) (.cons (.int _) .nil)), .tup (.of upd_same) (.cons (.int _) (.cons (.int _) .nil)), by rfl, by rfl, _, rfl, ?_⟩
    rw [show PyData.eqv (.tuple [.int p, .int q]) (.tuple [.int r, .int s]) = decide (p = r ∧ q = s) by
      show (p == r && (q == s && true)) = _
      rw [Bool.and_true, Bool.eq_iff_iff]
      simp]
    exact k _ s2⟩))
/-- (a, b) == t, t a tuple of two ints -/
theorem ax_eqTR {p q r s : Int} {T : Addr} (ha : Vl ta σ H (.int p)) (hb : Vl tb σ H (.int q)) (hc : ∀ H', Same H H' → Vl tc σ H' (.ref T)) (hT : SqT K H T [.int r, .int s]) :
    Ax (tTest (tOp (rEqD K) (tTup (tCons ta (tCons tb tNil))) tc)) σ H (decide (p = r ∧ q = s)) := fun Q k =>
  ha _ (hb _ ⟨by show 2 ≤ sizeLine; decide, fun S nS => by
    have s2 : Same H (upd H S (.tup [.int p, .int q])) := same_upd nS
    refine hc _ s2 _ ⟨.tuple [.int p, .int q], .tuple [.int r, .int s], .tup (.of upd_same) (.cons (.int _) (.cons (.int _) .nil)), .tup (seqT s2 hT) (.cons (.int _) (.cons (.int _) .nil)), by rfl, by rfl, _, rfl, ?_⟩
    rw [show PyData.eqv (.tuple [.int p, .int q]) (.tuple [.int r, .int s]) = decide (p = r ∧ q = s) by
      show (p == r && (q == s && true)) = _
      rw [Bool.and_true, Bool.eq_iff_iff]
      simp]
    exact k _ s2⟩)
/-- assignments of a new tuple -/
theorem q_asgTup {i : Nat} {tr : TA} {xs : List V} (h : Va tr σ H xs) (hz : xs.length ≤ sizeLine) (k : ∀ T, H T = none → tw D (σ.set i (some (.ref T))) (upd H T (.tup xs))) : tSeq (tAsg (tTup tr) (gName i)) tw D σ H := h _ ⟨hz, k⟩
theorem g_asgTup {i : Nat} {tr : TA} {xs : List V} (h : Va tr σ H xs) (hz : xs.length ≤ sizeLine) (k : ∀ T, H T = none → D.nx (σ.set i (some (.ref T))) (upd H T (.tup xs))) : tAsg (tTup tr) (gName i) D σ H := h _ ⟨hz, k⟩
end
/-! ### defs that may raise, by their names -/
structure KalX (P : Program) (w : World) (K : PySem.W.Frag) (mg : Str → Option Value) (base : Heap) (k : Nat) (x : Str) (ps : List Str) (sp : Sp) : Prop where
  ex : ∃ (f : Addr) (fd : FuncData), FnOk P w K mg base (L2.CX P w) k f fd ps sp ∧ mg x = some (.ref f) ∧ PySem.W.keepIn K (.ref f) = true ∧ Binds K fd ps []
theorem kalx_of {P : Program} {w : World} {K : PySem.W.Frag} {mg : Str → Option Value} {base : Heap} {k : Nat} {x : Str} {st : Stmt} {ps : List Str} {sp : Sp} (A : Df K mg x st ps)
    (ok : ∀ f fd, Fun K x x st f fd → FnOk P w K mg base (L2.CX P w) k f fd ps sp) : KalX P w K mg base k x ps sp := by
  obtain ⟨f, fd, F, g, b⟩ := A.ex
  exact ⟨f, fd, ok f fd F, g, F.kp, b⟩
/-- called in a def that may raise -/
theorem pe_kx {X : Cx} {k j : Nat} {x : Str} {ps : List Str} {sp : Sp} {p pos : Pos} {e : Expr} {es : List Expr} {t : TA} {E : XK} (c : KalX X.prog X.w X.K X.mg X.base k x ps sp) (hr : Room j X.A) (hk : k ≤ j) (hg : Gl X x) (tk : Takes X (fun cls d _ H => E cls d H)) (ha : PA X (e :: es) t)
    (hdb : (x == ("__debug__" : Str)) = false := by decide) (he : starEach (e :: es) X.env = (false, eval e X.env) :: starEach es X.env := by rfl) (hpl : (backTo pos (starEach es X.env)).any (·.1) = false := by rfl) :
    PE X (.Call (.Name x p) (e :: es) [] pos) (tCall sp [] E t) := by
  obtain ⟨f, fd, F, hm, kp, b⟩ := c.ex
  exact pe_call F (hr.mono hk) hg hm kp b .nil (passes_call tk fun _ _ _ _ h => h) ha hdb he hpl
/-- called within a try -/
theorem pe_ks {X : Cx} {k j : Nat} {x : Str} {ps : List Str} {sp : Sp} {p pos : Pos} {e : Expr} {es : List Expr} {t : TA} {W : WX} (c : KalX X.prog X.w X.K X.mg X.base k x ps sp) (hr : Room j X.A) (hk : k ≤ j) (hg : Gl X x) (tk : Takes X W) (ha : PA X (e :: es) t)
    (hdb : (x == ("__debug__" : Str)) = false := by decide) (he : starEach (e :: es) X.env = (false, eval e X.env) :: starEach es X.env := by rfl) (hpl : (backTo pos (starEach es X.env)).any (·.1) = false := by rfl) :
    PE X (.Call (.Name x p) (e :: es) [] pos) (tCallS sp (WE W) t) := by
  obtain ⟨f, fd, F, hm, kp, b⟩ := c.ex
  exact pe_callS F (hr.mono hk) hg hm kp b (fun σ => passAt tk σ) ha hdb he hpl
/-! ### for link in links -/
section
variable {K : PySem.W.Frag} {σ : L2.St} {H : Hp} {a : Addr} {D : Ends} {tz tw : TS}
theorem g_forLk {j : Nat} {Hb : Hp} {xs : List V} {ls : List Lnk} {tl : TE} (h : Vl tl σ H (.ref a)) (hx : SqL K Hb a xs) (hL : DpAll K Hb xs (ls.map lnkD)) (hb : Same Hb H) (Pv : Nat → L2.St → Hp → Prop) (h0 : Pv 0 σ H) (hl : ∀ i σ' H', Pv i σ' H' → Same Hb H')
    (hs : ∀ (i : Nat) l t σ H, ls[i]? = some l → SqT K Hb t (lnkV l) → Pv i σ H → tz { D with nx := Pv (i + 1), ct := Pv (i + 1), bk := D.nx } (σ.set j (some (.ref t))) H) (hd : ∀ σ H, Pv ls.length σ H → D.nx σ H) :
    tFor (iList K tl) (gName j) tz D σ H := h _ ⟨a, rfl, ⟨_, hb.seq hx⟩, for_list (xs := xs) Pv h0 (fun i σ H _ p => (hl i σ H p).seq hx) (fun i x σ H hi p => by
      have e := DpAll.len hL
      rw [List.length_map] at e
      have hlt := (List.getElem?_eq_some_iff.mp hi).1
      have hg : ls[i]? = some ls[i] := List.getElem?_eq_getElem (by omega)
      obtain ⟨v, hv, dv⟩ := DpAll.get (i := i) (d := lnkD ls[i]) hL (by
        rw [List.getElem?_map, hg]
        rfl)
      cases hi.symm.trans hv
      obtain ⟨t, rfl, ht⟩ := Dp.lnk_inv dv
      exact hs i _ t σ H hg ht p) (fun σ H p => by
      have e := DpAll.len hL
      rw [List.length_map] at e
      rw [e] at p
      exact hd σ H p)⟩
theorem q_forLk {j : Nat} {Hb : Hp} {xs : List V} {ls : List Lnk} {tl : TE} (h : Vl tl σ H (.ref a)) (hx : SqL K Hb a xs) (hL : DpAll K Hb xs (ls.map lnkD)) (hb : Same Hb H) (Pv : Nat → L2.St → Hp → Prop) (h0 : Pv 0 σ H) (hl : ∀ i σ' H', Pv i σ' H' → Same Hb H')
    (hs : ∀ (i : Nat) l t σ H, ls[i]? = some l → SqT K Hb t (lnkV l) → Pv i σ H → tz { D with nx := Pv (i + 1), ct := Pv (i + 1), bk := tw D } (σ.set j (some (.ref t))) H) (hd : ∀ σ H, Pv ls.length σ H → tw D σ H) :
    tSeq (tFor (iList K tl) (gName j) tz) tw D σ H := g_forLk (D := { D with nx := tw D }) h hx hL hb Pv h0 hl hs hd
/-- a, b, c, d = e, a link -/
theorem q_asgLnk {j1 j2 j3 j4 : Nat} {te : TE} {t : Addr} {l : Lnk} (h : Vl te σ H (.ref t)) (ht : SqT K H t (lnkV l)) (k : tw D ((((σ.set j1 (some (.int l.a))).set j2 (some (.int l.b))).set j3 (some (oV l.t))).set j4 (some (oV l.k))) H) :
    tSeq (tAsg te (gTup K 4 (gCons (gName j1) (gCons (gName j2) (gCons (gName j3) (gCons (gName j4) gNil)))))) tw D σ H := h _ ⟨t, _, rfl, ht, rfl, _, _, rfl, _, _, rfl, _, _, rfl, _, _, rfl, rfl, k⟩
/-- a tuple made in one of two ways -/
theorem if_tup {t : TT} {r1 r2 : TA} {b : Bool} {x1 x2 zs : List V} {Q : VK} (h : An t σ H b) (h1 : Va r1 σ H x1) (h2 : Va r2 σ H x2) (e1 : b = true → x1 = zs) (e2 : b = false → x2 = zs) (hz : zs.length ≤ sizeLine)
    (k : ∀ T, H T = none → Q (.ref T) (upd H T (.tup zs))) : tIf t (tTup r1) (tTup r2) σ H Q := h _ (by
  cases b with
  | true =>
    cases e1 rfl
    exact iteT (h1 _ ⟨hz, k⟩)
  | false =>
    cases e2 rfl
    exact iteF (h2 _ ⟨hz, k⟩))
end
/-! ### errors that leave a def -/
def RaiseTo (E : XK) (H : Hp) (C : Addr) (i : Int) : Prop := ∀ H' d, Same H H' → H' d = some (.xd [("at", .int i)]) → E (.ref C) (some d) H'
theorem RaiseTo.to {E : XK} {H H' : Hp} {C : Addr} {i : Int} (h : RaiseTo E H C i) (s : Same H H') : RaiseTo E H' C i := fun H2 d s2 hd => h H2 d (s.trans s2) hd
theorem raise_now {E : XK} {C : Addr} {i : Int} {ta : TA} {σ : L2.St} {H : Hp} {D : Ends} (h : Va ta σ H [.int i]) (r : RaiseTo E H C i) : tRaiseLow C (fun cls d _ H => E cls d H) ta D σ H := h _ ⟨_, rfl, fun d nd => r _ d (same_upd nd) upd_same⟩
/-- for i, x in enumerate(xs) -/
theorem for_en {K : PySem.W.Frag} {a : Addr} {xs : List V} {g : TG} {tb : TS} {D : Ends} {σ : L2.St} {H : Hp} (Pv : Nat → L2.St → Hp → Prop) (h0 : Pv 0 σ H) (hq : ∀ i σ H, Pv i σ H → SqL K H a xs)
    (hs : ∀ (i : Nat) x T σ H, xs[i]? = some x → Pv i σ H → H T = none → g (.ref T) σ (upd H T (.tup [.int (i : Nat), x])) fun σ2 H2 => tb { D with nx := Pv (i + 1), ct := Pv (i + 1), bk := D.nx } σ2 H2) (hd : ∀ σ H, Pv xs.length σ H → D.nx σ H) :
    ∃ W : Nat → Nat → L2.St → Hp → Prop, (∃ m, W 0 m σ H) ∧ ∀ i m σ H, W i m σ H → ((Ite K a).stop i H ∧ D.nx σ H) ∨
      ((Ite K a).go i H ∧ ∃ N : L2.St → Hp → Prop, (∀ σ' H', N σ' H' → ∃ m', m' < m ∧ W (i + 1) m' σ' H') ∧ ∀ v H', (Ite K a).yld i H v H' → g v σ H' fun σ2 H2 => tb { D with nx := N, ct := N, bk := D.nx } σ2 H2) := by
  refine ⟨fun i m σ H => m + i = xs.length ∧ Pv i σ H, ⟨xs.length, rfl, h0⟩, fun i m σ H hW => ?_⟩
  obtain ⟨em, p⟩ := hW
  have qx := hq i σ H p
  by_cases hlt : i < xs.length
  · refine .inr ⟨⟨xs, xs[i], qx, List.getElem?_eq_getElem hlt⟩, Pv (i + 1), fun σ' H' p' => ⟨m - 1, by omega, by omega, p'⟩, fun v H' yy => ?_⟩
    obtain ⟨T, x', rfl, hT, rfl, f1⟩ := yy
    exact hs i x' T σ H (f1 xs qx) p hT
  · have e : i = xs.length := by omega
    rw [e] at p
    exact .inl ⟨⟨xs, qx, by omega⟩, hd σ H p⟩
theorem take_snoc {α : Type} {xs : List α} {i : Nat} {x : α} (h : xs[i]? = some x) : xs.take (i + 1) = xs.take i ++ [x] := by
  rw [List.take_add_one, h]
  rfl
theorem vl_orV {K : PySem.W.Frag} {σ : L2.St} {H : Hp} {ta tb : TE} {k m : Bool} (h1 : Vl ta σ H (.bl k)) (h2 : k = false → Vl tb σ H (.bl m)) : Vl (tOrV ta tb) σ H (.bl (k || m)) := fun Q q => h1 _ ⟨k, rfl, by
  cases k with
  | true => exact iteT q
  | false => exact iteF (h2 rfl _ q)⟩
/-! ### values with a heap that grows on the way -/
def Ve (te : TE) (σ : L2.St) (H : Hp) (v : V) : Prop := ∀ Q : VK, (∀ H', Same H H' → Q v H') → te σ H Q
section
variable {K : PySem.W.Frag} {σ : L2.St} {H : Hp} {ta tb te tl t0 t1 t2 t3 : TE} {D : Ends} {tw : TS} {v x y z : V} {tt : TT}
theorem ve_of (h : Vl te σ H v) : Ve te σ H v := fun Q q => h Q (q H (Same.refl H))
theorem Ve.is {w : V} (h : Ve te σ H v) (e : v = w) : Ve te σ H w := e ▸ h
theorem q_asgV {i : Nat} (h : Ve te σ H v) (k : ∀ H', Same H H' → tw D (σ.set i (some v)) H') : tSeq (tAsg te (gName i)) tw D σ H := h _ k
theorem g_asgV {i : Nat} (h : Ve te σ H v) (k : ∀ H', Same H H' → D.nx (σ.set i (some v)) H') : tAsg te (gName i) D σ H := h _ k
theorem g_retV (h : Ve te σ H v) (k : ∀ H', Same H H' → D.rt v H') : tRet te D σ H := h _ k
theorem ve_ixNew {xs : List V} {p : Int} (ha : Vn ta σ H xs) (hb : ∀ H', Same H H' → Vl tb σ H' (.int p)) (hg : atI xs p = some z) : Ve (tOp (rIxL K) ta tb) σ H z := fun Q k =>
  ha _ fun a H1 s1 np e => hb H1 s1 _ ⟨a, xs, p, z, rfl, rfl, .of e, hg, k H1 s1⟩
theorem vn_lc {j : Nat} {xs ys : List V} (hl : ∀ Q : VK, (∀ a H1, Same H H1 → SqL K H1 a xs → Q (.ref a) H1) → tl σ H Q) (hxy : xs.length = ys.length) (hz : ys.length ≤ 1000000)
    (he : ∀ (i : Nat) x y H', Same H H' → xs[i]? = some x → ys[i]? = some y → Ve te ((σ.set j none).set j (some x)) H' y) : Vn (tLc (iList K tl) (gName j) tYes te [j]) σ H ys := fun Q q => by
  refine hl _ fun a H1 s1 hx => ⟨a, rfl, ⟨xs, hx⟩, fun D nD => lc_list (xs := xs) (fun i H' => H' D = some (.lst (ys.take i)) ∧ Same H1 H') ⟨upd_same, same_upd nD⟩ (fun i H' _ hP => hP.2.seq hx) (fun i x H2 hi hP => ?_) (fun H2 hP => ?_)⟩
  · obtain ⟨hD, s2⟩ := hP
    have hi2 := (List.getElem?_eq_some_iff.mp hi).1
    have hy : ys[i]? = some ys[i] := List.getElem?_eq_getElem (by omega)
    refine ⟨?_, ?_⟩
    · show ((σ.set j none).set j (some x)).set j none = σ.set j none
      rw [List.set_set, List.set_set]
    · refine iteT (B := H2 D = some (.lst (ys.take (i + 1))) ∧ Same H1 H2) (he i x _ H2 (s1.trans s2) hi hy _ fun H3 s3 => ⟨_, s3 _ _ hD, ?_, ?_, ?_⟩)
      · exact Nat.lt_of_le_of_lt (m := 1000000) (Nat.le_trans (by rw [List.length_take]; exact Nat.min_le_right _ _) hz) (by decide)
      · rw [upd_same, take_snoc hy]
      · exact same_upd' (s2.trans s3) nD
  · obtain ⟨hD, s2⟩ := hP
    rw [hxy, List.take_length] at hD
    exact q D H2 (s1.trans s2) (Same.free s1 nD) hD
theorem vx_list {a : Addr} {xs : List V} (h : Vl tl σ H (.ref a)) (hx : SqL K H a xs) : ∀ Q : VK, (∀ a H1, Same H H1 → SqL K H1 a xs → Q (.ref a) H1) → tl σ H Q := fun Q q => h _ (q a H (Same.refl H) hx)
theorem vx_new {xs : List V} (h : Vn tl σ H xs) : ∀ Q : VK, (∀ a H1, Same H H1 → SqL K H1 a xs → Q (.ref a) H1) → tl σ H Q := fun Q q => h _ fun a H1 s1 _ e => q a H1 s1 (.of e)
end
section
variable {K : PySem.W.Frag} {σ : L2.St} {H : Hp} {te : TE} {D : Ends} {tz tw : TS} {P : Int → Prop}
theorem q_forRI {j : Nat} (h : Vi te σ H P) (hb : ∀ n, P n → -(2 ^ 62) ≤ n ∧ n < 2 ^ 62) (Pv : Nat → L2.St → Hp → Prop) (h0 : Pv 0 σ H)
    (hs : ∀ n, P n → ∀ (i : Nat) σ H, (i : Int) < n → Pv i σ H → tz { D with nx := Pv (i + 1), ct := Pv (i + 1), bk := tw D } (σ.set j (some (.int i))) H) (hd : ∀ n, P n → ∀ σ H, Pv n.toNat σ H → tw D σ H) :
    tSeq (tFor (iRng1 (tCons te tNil)) (gName j) tz) tw D σ H := h _ fun n hn => ⟨n, rfl, (hb n hn).1, (hb n hn).2, for_range (lo := 0) (n := n.toNat) Pv h0 (fun i σ H hi p => by
      show tz _ (σ.set j (some (.int (0 + i)))) H
      rw [Int.zero_add]
      exact hs n hn i σ H (by omega) p) (hd n hn)⟩
end
section
variable {K : PySem.W.Frag} {σ : L2.St} {H : Hp} {ta tb te tl t0 t1 t2 t3 : TE} {D : Ends} {tw : TS} {v x y z : V} {tt : TT}
theorem g_appV {l : Addr} {xs : List V} (ho : Vl ta σ H (.ref l)) (hl : H l = some (.lst xs)) (h : Ve te σ H v) (hz : xs.length < sizeLine) (k : ∀ H', Same H H' → D.nx σ (upd H' l (.lst (xs ++ [v])))) :
    tDrop (tBM K "list" rAppend ta (tCons te tNil)) D σ H := ho _ ⟨.inl ⟨rfl, _, .inl (.inl hl)⟩, h _ fun H' s' => ⟨l, xs, v, rfl, rfl, s' _ _ hl, hz, k H' s'⟩⟩
theorem lc_filter {j : Nat} {xs : List V} {pb : V → Bool} (hj : j < σ.length) (hl : ∀ Q : VK, (∀ a H1, Same H H1 → SqL K H1 a xs → Q (.ref a) H1) → tl σ H Q) (hz : xs.length ≤ 1000000)
    (ht : ∀ x ∈ xs, ∀ H', An tt ((σ.set j none).set j (some x)) H' (pb x)) (Q : VK) (q : ∀ D H' acc, Same H H' → H' D = some (.lst acc) → acc.length = (xs.filter pb).length → Q (.ref D) H') : tLc (iList K tl) (gName j) tt (tVar j) [j] σ H Q := by
  refine hl _ fun a H1 s1 hx => ⟨a, rfl, ⟨xs, hx⟩, fun D nD => lc_list (xs := xs) (fun i H' => ∃ acc, H' D = some (.lst acc) ∧ Same H1 H' ∧ acc.length = ((xs.take i).filter pb).length) ⟨[], upd_same, same_upd nD, rfl⟩ (fun i H' _ hP => hP.choose_spec.2.1.seq hx) (fun i x H2 hi hP => ?_) (fun H2 hP => ?_)⟩
  · obtain ⟨acc, hD, s2, ha⟩ := hP
    have e : (xs.take (i + 1)).filter pb = (xs.take i).filter pb ++ [x].filter pb := by
      rw [take_snoc hi]
      exact List.filter_append ..
    refine ⟨?_, ht x (List.mem_of_getElem? hi) H2 _ ?_⟩
    · show ((σ.set j none).set j (some x)).set j none = σ.set j none
      rw [List.set_set, List.set_set]
    · cases hp : pb x with
      | true =>
        have e2 : [x].filter pb = [x] := by
          rw [List.filter_cons, hp]
          rfl
        refine iteT ⟨x, ?_, acc, hD, ?_, _, upd_same, same_upd' s2 nD, ?_⟩
        · exact List.getElem?_set_self (by
            show j < (σ.set j none).length
            rw [List.length_set]
            exact hj)
        · have h1 : ((xs.take i).filter pb).length ≤ xs.length := Nat.le_trans (List.length_filter_le _ _) (by rw [List.length_take]; exact Nat.min_le_right _ _)
          exact Nat.lt_of_le_of_lt (m := 1000000) (by omega) (by decide)
        · rw [e, e2, List.length_append, List.length_append, ha]
      | false =>
        have e2 : [x].filter pb = [] := by
          rw [List.filter_cons, hp]
          rfl
        refine iteF ⟨acc, hD, s2, ?_⟩
        rw [e, e2, List.append_nil]
        exact ha
  · obtain ⟨acc, hD, s2, ha⟩ := hP
    rw [List.take_length] at ha
    exact q D H2 acc (s1.trans s2) hD ha
theorem vl_inL {a : Addr} {xs : List V} (h : Vl te σ H (.ref a)) (hx : SqL K H a xs) (f1 : flatV x = true) (f2 : xs.all flatV = true) : Vl (tOp (rIn K false) (tC x) te) σ H (.bl (inV x xs)) := vl_op vl_c h fun _ k => ⟨a, xs, rfl, .inl hx, f1, f2, k⟩
theorem flat_o (o : Option Int) : flatV (oV o) = true := by cases o <;> rfl
theorem ax_leLT {a T : Addr} {p q r s : Int} (h : Vl te σ H (.ref a)) (hx : SqL K H a [.int p, .int q]) (hb : ∀ H', Same H H' → Vl tb σ H' (.ref T)) (hT : SqT K H T [.int r, .int s]) :
    Ax (tTest (tOp (rLeT K) (tCB (fun xs H Q => ∃ p ys, xs = [V.ref p] ∧ ((SqL K H p ys ∧ ∀ l, H l = none → Q (.ref l) (upd H l (.tup ys))) ∨ (SqT K H p ys ∧ Q (.ref p) H))) (tCons te tNil)) tb)) σ H (decide (p < r ∨ (p = r ∧ q ≤ s))) := fun Q k =>
  h _ ⟨a, _, rfl, .inl ⟨hx, fun S nS => hb _ (same_upd nS) _ ⟨S, T, [p, q], [r, s], rfl, rfl, .of upd_same, seqT (same_upd nS) hT, _, rfl, by
    rw [lexAt2]
    exact k _ (same_upd nS)⟩⟩⟩
theorem ve_tup4 {v0 v1 v2 v3 : V} (h0 : Ve t0 σ H v0) (h1 : ∀ H', Same H H' → Ve t1 σ H' v1) (h2 : ∀ H', Same H H' → Ve t2 σ H' v2) (h3 : ∀ H', Same H H' → Ve t3 σ H' v3) (Q : VK) (q : ∀ R H', Same H H' → H' R = some (.tup [v0, v1, v2, v3]) → Q (.ref R) H') :
    tTup (tCons t0 (tCons t1 (tCons t2 (tCons t3 tNil)))) σ H Q := h0 _ fun H1 s1 => h1 H1 s1 _ fun H2 s2 => h2 H2 (s1.trans s2) _ fun H3 s3 => h3 H3 ((s1.trans s2).trans s3) _ fun H4 s4 => ⟨by show 4 ≤ sizeLine; decide, fun R nR => q R _ ((((s1.trans s2).trans s3).trans s4).trans (same_upd nR)) upd_same⟩
end
theorem ret_pairE {te : TE} {x : Str} {D : Ends} {σ : L2.St} {H : Hp} (h : te σ H fun v H1 => [V.str x, v].length ≤ sizeLine ∧ ∀ p, H1 p = none → D.rt (.ref p) (upd H1 p (.tup [.str x, v]))) : tRet (tTup (tCons (tC (.str x)) (tCons te tNil))) D σ H := h
theorem nx_of {f : L2.St → Hp → Prop} {a b c} {σ : L2.St} {H : Hp} (h : f σ H) : (Ends.mk f a b c).nx σ H := h
theorem ax_isNV {σ : L2.St} {H : Hp} {te : TE} {v : V} (h : Ve te σ H v) : Ax (tTest (tOp (fun x y H Q => y = V.non ∧ Q (V.bl (decide (x = V.non))) H) te (tC .non))) σ H (decide (v = .non)) := fun Q k => h _ fun H' s' => ⟨rfl, _, rfl, k H' s'⟩
theorem last_get {α : Type} {l : List α} {d : α} (h : l ≠ []) : l[l.length - 1]? = some (l.getLast?.getD d) := by
  rw [List.getLast?_eq_getElem?]
  have : l.length - 1 < l.length := by
    have := List.length_pos_iff.mpr h
    omega
  rw [List.getElem?_eq_getElem this]
  rfl
theorem seqT_but {K : PySem.W.Frag} {H : Hp} {o R : Addr} {ys zs : List V} (h : SqT K H R zs) (ho : H o = some (.lst ys)) : SqT K (but H o) R zs := by
  rcases h with (h | ⟨u, h⟩) | h
  · have ne : R ≠ o := fun z => by
      rw [z, ho] at h
      cases h
    exact .inl (.inl (by rw [but_ne ne]; exact h))
  · have ne : R ≠ o := fun z => by
      rw [z, ho] at h
      cases h
    exact .inl (.inr ⟨u, by rw [but_ne ne]; exact h⟩)
  · exact .inr h
theorem vl_byLow {C a d : Addr} {te : TE} {σ : L2.St} {H : Hp} {v : V} (h : Vl te σ H (.ref a)) (hd : H d = some (.xd [("at", v)])) : Vl (tByLow C a (.ref C) (some d) te) σ H v := fun Q q => h _ ⟨rfl, rfl, d, v, rfl, hd, q⟩
def pairD (x : Str) (d : PyData) : PyData := .tuple [.str x, d]
theorem ret_pair {K : PySem.W.Frag} {σ : L2.St} {H : Hp} {D : Ends} {te : TE} {x : Str} {v : V} {d : PyData} (h : Vl te σ H v) (hd : Dp K H v d) (k : ∀ p H', Same H H' → Dp K H' (.ref p) (pairD x d) → D.rt (.ref p) H') :
    tRet (tTup (tCons (tC (.str x)) (tCons te tNil))) D σ H := h _ ⟨by show 2 ≤ sizeLine; decide, fun p np => k p _ (same_upd np) (.tup (.of upd_same) (.cons (.str x) (.cons (Dp.to hd (same_upd np)) .nil)))⟩
structure Apart (K : PySem.W.Frag) (C C' : Addr) : Prop where
  no : PySem.W.exmOne K (.ref C) (.ref C') = some false
structure NmAt (mg : Str → Option Value) (x : Str) (C : Addr) : Prop where
  gC : mg x = some (.ref C)
theorem lay_net (N : Net) : (netD N).canLay0 = true ∧ (netD N).depth ≤ 3 := by
  have h := lay_lnks N.ls
  constructor
  · show (true && (PyData.canLayAll0 (N.ls.map lnkD) && true)) = true
    rw [h.1]
    rfl
  · show max 0 (max (PyData.depthAll (N.ls.map lnkD) + 1) 0) + 1 ≤ 3
    have := h.2
    omega
theorem shaped_pair {x : Str} {d : PyData} (hx : PyData.canLay0 (.str x) = true) (h : d.canLay0 = true) (h2 : d.depth ≤ 3) : SeqAt.shaped (pairD x d) = true := by
  show ((PyData.canLay0 (.str x) && (d.canLay0 && true)) && decide (max 0 (max d.depth 0) + 1 ≤ 64)) = true
  rw [hx, h, decide_eq_true (by omega)]
  rfl
theorem refl_of {d : PyData} (h : SeqAt.shaped d = true) : PyData.eqv d d = true := SeqAt.eqv_refl _ (Bool.and_eq_true_iff.mp h).1
theorem ax_ne {K : PySem.W.Frag} {σ : L2.St} {H : Hp} {te te2 : TE} {d : PyData} (hd : SeqAt.shaped d = true) (h1 : ∀ Q : VK, (∀ v H', Same H H' → Dp K H' v d → Q v H') → te σ H Q) (h2 : ∀ H', Same H H' → ∀ Q : VK, (∀ v H2, Same H' H2 → Dp K H2 v d → Q v H2) → te2 σ H' Q) :
    Ax (tTest (tOp (rNeD K) te te2)) σ H false := fun Q k => h1 _ fun v H1 s1 d1 => h2 H1 s1 _ fun u H2 s2 d2 => ⟨d, d, Dp.to d1 s2, d2, hd, hd, _, rfl, by
  rw [refl_of hd]
  exact k H2 (s1.trans s2)⟩
theorem ax_neV {σ : L2.St} {H : Hp} {ta tb : TE} {x y : V} (ha : Vl ta σ H x) (hb : Ve tb σ H y) (hs : scal x y = true) : Ax (tTest (tOp rNe ta tb)) σ H (!decide (x = y)) := fun Q k => ha _ (hb _ fun H' s' => ⟨hs, _, rfl, k H' s'⟩)
theorem lay_ints : ∀ ns : List Int, PyData.canLayAll0 (ns.map PyData.int) = true ∧ PyData.depthAll (ns.map PyData.int) = 0
  | [] => ⟨rfl, rfl⟩
  | n :: ns => by
    have h := lay_ints ns
    constructor
    · show (true && PyData.canLayAll0 (ns.map PyData.int)) = true
      rw [h.1]
      rfl
    · show max 0 (PyData.depthAll (ns.map PyData.int)) = 0
      rw [h.2]
      rfl
theorem shaped_ints (ns : List Int) : SeqAt.shaped (.list (ns.map PyData.int)) = true := by
  have h := lay_ints ns
  show (PyData.canLayAll0 (ns.map PyData.int) && decide (PyData.depthAll (ns.map PyData.int) + 1 ≤ 64)) = true
  rw [h.1, h.2]
  rfl
/-! ### heaps with two objects that change -/
def B2 (H : Hp) (o q : Addr) : Hp := but (but H o) q
theorem b2_same {H : Hp} {o q : Addr} : Same (B2 H o q) H := but_same.trans but_same
theorem same_b2 {G H : Hp} {o q : Addr} (s : Same G H) (n : G o = none) (m : G q = none) : Same G (B2 H o q) := same_but (same_but s n) m
theorem b2_mono {H H' : Hp} {o q : Addr} (s : Same H H') : Same (B2 H o q) (B2 H' o q) := but_mono (but_mono s)
theorem b2_upd1 {H : Hp} {o q : Addr} {u : HO} : B2 (upd H o u) o q = B2 H o q := by
  unfold B2
  rw [but_upd]
theorem b2_upd2 {H : Hp} {o q : Addr} {u : HO} : B2 (upd H q u) o q = B2 H o q := by
  funext b
  unfold B2
  by_cases h : b = q
  · rw [h, but_at, but_at]
  · rw [but_ne h, but_ne h]
    by_cases h2 : b = o
    · rw [h2, but_at, but_at]
    · rw [but_ne h2, but_ne h2, upd_ne h]
theorem b2_get {H : Hp} {o q a : Addr} {u : HO} (h : H a = some u) (h1 : a ≠ o) (h2 : a ≠ q) : B2 H o q a = some u := by
  unfold B2
  rw [but_ne h2, but_ne h1]
  exact h
/-! ### comprehensions over ints -/
section
variable {K : PySem.W.Frag} {σ : L2.St} {H : Hp} {ta tb te tl td ty tv : TE} {tr : TA} {D : Ends} {tw : TS} {tt : TT} {v : V}
theorem an_yes : An tYes σ H true := fun _ q => q
theorem vn_lcI {j : Nat} {ns : List Int} {pb : Int → Bool} {f : Int → V} (hl : ∀ Q : VK, (∀ a H1, Same H H1 → SqL K H1 a (ns.map V.int) → Q (.ref a) H1) → tl σ H Q) (hz : ns.length ≤ 1000000)
    (ht : ∀ x ∈ ns, ∀ H', Same H H' → An tt ((σ.set j none).set j (some (.int x))) H' (pb x)) (he : ∀ x ∈ ns, ∀ H', Same H H' → Vl te ((σ.set j none).set j (some (.int x))) H' (f x)) :
    Vn (tLc (iList K tl) (gName j) tt te [j]) σ H ((ns.filter pb).map f) := fun Q q => by
  refine hl _ fun a H1 s1 hx => ⟨a, rfl, ⟨_, hx⟩, fun D nD => lc_list (xs := ns.map V.int) (fun i H' => H' D = some (.lst (((ns.take i).filter pb).map f)) ∧ Same H1 H') ⟨upd_same, same_upd nD⟩ (fun i H' _ hP => hP.2.seq hx) (fun i x H2 hi hP => ?_) (fun H2 hP => ?_)⟩
  · obtain ⟨hD, s2⟩ := hP
    rw [List.getElem?_map] at hi
    cases hg : ns[i]? with
    | none =>
      rw [hg] at hi
      cases hi
    | some n =>
      rw [hg] at hi
      cases hi
      have hm := List.mem_of_getElem? hg
      have e : (ns.take (i + 1)).filter pb = (ns.take i).filter pb ++ [n].filter pb := by
        rw [take_snoc hg]
        exact List.filter_append ..
      refine ⟨?_, ht n hm H2 (s1.trans s2) _ ?_⟩
      · show ((σ.set j none).set j (some (V.int n))).set j none = σ.set j none
        rw [List.set_set, List.set_set]
      · cases hp : pb n with
        | true =>
          have e2 : [n].filter pb = [n] := by
            rw [List.filter_cons, hp]
            rfl
          refine iteT (B := H2 D = some (.lst (((ns.take (i + 1)).filter pb).map f)) ∧ Same H1 H2) (he n hm H2 (s1.trans s2) _ ⟨_, hD, ?_, ?_, same_upd' s2 nD⟩)
          · rw [List.length_map]
            have h1 : ((ns.take i).filter pb).length ≤ ns.length := Nat.le_trans (List.length_filter_le _ _) (by rw [List.length_take]; exact Nat.min_le_right _ _)
            exact Nat.lt_of_le_of_lt (m := 1000000) (by omega) (by decide)
          · rw [upd_same, e, e2, List.map_append]
            rfl
        | false =>
          have e2 : [n].filter pb = [] := by
            rw [List.filter_cons, hp]
            rfl
          refine iteF ⟨?_, s2⟩
          rw [e, e2, List.append_nil]
          exact hD
  · obtain ⟨hD, s2⟩ := hP
    rw [List.length_map, List.take_length] at hD
    exact q D H2 (s1.trans s2) (Same.free s1 nD) hD
theorem vn_lcR {j : Nat} {n : Int} {pb : Int → Bool} {f : Int → V} (hl : Va tr σ H [.int n]) (h0 : 0 ≤ n) (hz : n ≤ 1000000)
    (ht : ∀ x : Int, 0 ≤ x → x < n → ∀ H', Same H H' → An tt ((σ.set j none).set j (some (.int x))) H' (pb x)) (he : ∀ x : Int, 0 ≤ x → x < n → ∀ H', Same H H' → Vl te ((σ.set j none).set j (some (.int x))) H' (f x)) :
    Vn (tLc (iRng1 tr) (gName j) tt te [j]) σ H (((((List.range n.toNat).map fun (i : Nat) => (i : Int))).filter pb).map f) := fun Q q => by
  refine hl _ ⟨n, rfl, by omega, by omega, fun D nD => lc_range (lo := 0) (n := n.toNat) (fun i H' => H' D = some (.lst ((((List.range i).map fun (i : Nat) => (i : Int)).filter pb).map f)) ∧ Same H H') ⟨upd_same, same_upd nD⟩ (fun i H2 hi hP => ?_) (fun H2 hP => ?_)⟩
  · obtain ⟨hD, s2⟩ := hP
    have e : (((List.range (i + 1)).map fun (i : Nat) => (i : Int)).filter pb) = ((List.range i).map fun (i : Nat) => (i : Int)).filter pb ++ [(i : Int)].filter pb := by
      rw [List.range_succ, List.map_append]
      exact List.filter_append ..
    rw [Int.zero_add]
    refine ⟨?_, ht i (by omega) (by omega) H2 s2 _ ?_⟩
    · show ((σ.set j none).set j (some (V.int i))).set j none = σ.set j none
      rw [List.set_set, List.set_set]
    · cases hp : pb (i : Int) with
      | true =>
        have e2 : [(i : Int)].filter pb = [(i : Int)] := by
          rw [List.filter_cons, hp]
          rfl
        refine iteT (B := H2 D = some (.lst ((((List.range (i + 1)).map fun (i : Nat) => (i : Int)).filter pb).map f)) ∧ Same H H2) (he i (by omega) (by omega) H2 s2 _ ⟨_, hD, ?_, ?_, same_upd' s2 nD⟩)
        · rw [List.length_map]
          have h1 : (((List.range i).map fun (i : Nat) => (i : Int)).filter pb).length ≤ i := Nat.le_trans (List.length_filter_le _ _) (by rw [List.length_map, List.length_range]; exact Nat.le_refl _)
          exact Nat.lt_of_le_of_lt (m := 1000000) (by omega) (by decide)
        · rw [upd_same, e, e2, List.map_append]
          rfl
      | false =>
        have e2 : [(i : Int)].filter pb = [] := by
          rw [List.filter_cons, hp]
          rfl
        refine iteF ⟨?_, s2⟩
        rw [e, e2, List.append_nil]
        exact hD
  · obtain ⟨hD, s2⟩ := hP
    exact q D H2 s2 nD hD
/-! ### dicts by ints -/
theorem vl_dgetI {o : Addr} {p : Int} {kvs : List (Key × V)} (ho : Vl td σ H (.ref o)) (hk : Vl ty σ H (.int p)) (hd : H o = some (.dK kvs)) (hv : valV kvs (.inl p) = some v) : Vl (tDGet td ty) σ H v := fun Q q => ho _ (hk _ ⟨o, v, rfl, by
  rw [← hv]
  exact DGet.k (k := .inl p) hd, q⟩)
theorem q_dnewK {i : Nat} (k : ∀ p, H p = none → tw D (σ.set i (some (.ref p))) (upd H p (.dK []))) : tSeq (tAsg tDNewK (gName i)) tw D σ H := k
theorem g_dputN {o : Addr} {p : Int} {kvs : List (Key × V)} {xs : List V} (hv : Vn tv σ H xs) (ho : ∀ H', Same H H' → Vl td σ H' (.ref o)) (hk : ∀ H', Same H H' → Vl ty σ H' (.int p)) (hd : H o = some (.dK kvs)) (hl : kvs.length < sizeLine)
    (k : ∀ a H', Same H H' → H a = none → H' a = some (.lst xs) → D.nx σ (upd H' o (.dK (putK kvs (.inl p) (.ref a))))) : sDPut td ty tv D σ H := hv _ fun a H' s' na ea => ho H' s' _ (hk H' s' _ ⟨o, _, rfl, DPut.k (k := .inl p) (s' _ _ hd) hl, k a H' s' na ea⟩)
theorem g_dputV {o : Addr} {p : Int} {kvs : List (Key × V)} (hv : Vl tv σ H v) (ho : Vl td σ H (.ref o)) (hk : Vl ty σ H (.int p)) (hd : H o = some (.dK kvs)) (hl : kvs.length < sizeLine)
    (k : D.nx σ (upd H o (.dK (putK kvs (.inl p) v)))) : sDPut td ty tv D σ H := hv _ (ho _ (hk _ ⟨o, _, rfl, DPut.k (k := .inl p) hd hl, k⟩))
end
theorem hu_of {k : Nat} {A : Around} (r : Room k A) : A.units + 1 < cLine := by
  have := r.units
  omega
theorem dI {i j : Int} : decide (V.int i = V.int j) = decide (i = j) := by
  rw [Bool.eq_iff_iff, decide_eq_true_eq, decide_eq_true_eq]
  exact ⟨fun z => V.int.inj z, fun z => by rw [z]⟩
theorem vn_catV {K : PySem.W.Frag} {σ : L2.St} {H : Hp} {ta tb : TE} {a : Addr} {xs ys : List V} (ha : Vn ta σ H xs) (hb : ∀ H', Same H H' → Vl tb σ H' (.ref a)) (hA : H a = some (.lst ys)) (hz : xs.length + ys.length ≤ sizeLine) : Vn (tOp rCat ta tb) σ H (xs ++ ys) := fun Q q => ha _ fun p H1 s1 np hp => hb H1 s1 _
  ⟨p, a, xs, ys, rfl, rfl, hp, s1 _ _ hA, hz, fun t nt => q t _ (s1.trans (same_upd nt)) (Same.free s1 nt) upd_same⟩
theorem putK_len {κ : Type} [DecidableEq κ] {kvs : List (κ × V)} {k : κ} {v : V} (h : (valV kvs k).isSome = true) : (putK kvs k v).length = kvs.length := by
  unfold putK
  rw [valV_any, if_pos h, List.length_map]
/-! ### a law's own def, called from without: nothing is being shown there -/
structure FnG (P : Program) (w : World) (K : PySem.W.Frag) (mg : Str → Option Value) (base : Heap) (f : Addr) (fd : FuncData) (ps : List Str) (sp : Sp) : Prop where
  go : ∀ (s : Shared) (H : Hp) (us : List Value) (vs : List V) (Q : VK) (E : XK), Env0 P w K mg base callerA [] s H → BindsTo s fd ⟨us, []⟩ (ps.zip us) → Vals vs us → sp vs H Q E → codeAny (model P w) callerA (.call (.ref f) ⟨us, []⟩) (CR CX0 [] P w H s Q E) s
section
variable {P : Program} {w : World} {K : PySem.W.Frag} {mg : Str → Option Value} {base : Heap}
theorem okG {x qual : Str} {st : Stmt} {f : Addr} {fd : FuncData} {N ps : List Str} {k : Nat} {sp : Sp} (F : Fun K x qual st f fd) (S : FnScope N ps (defScope st)) (room : Room (k + 1) callerA) (count : ∀ vs H Q E, sp vs H Q E → vs.length = ps.length)
    (body : ∀ (cdv : Value) (s : Shared) (H : Hp) (vs : List V) (Q : VK) (E : XK), Room k (callerA.deeper (envOfC qual (defScope st) s.heap.objs.size f cdv)) → sp vs H Q E →
      ∃ t, PSs (cxOf CX0 P w K mg base N qual (defScope st) f cdv callerA [] s H E).nox (defBody st) t ∧ t { nx := fun _ H' => Q .non H', rt := Q } (start N vs) H) : FnG P w K mg base f fd ps sp := by
  obtain ⟨oc, od, kV, doc, pm, an, cdv, ct, osl, efd, look, code⟩ := F.ex
  subst efd
  refine ⟨fun s H us vs Q E env bnd rel want => ?_⟩
  have old : ∀ b o, base.get? b = some o → s.heap.get? b = some o := fun b o e => (env.bs b o e).1
  have kin : K.In s.heap := env.mod.kin.keeps old
  have lims : s.heap.NoLimit := env.mod.nolimit.keeps old
  refine codeAny_call_function room.depth (kin _ _ look) rfl S.co S.gen rfl (PySem.W.codeRec_of kin code) (bnd _ _ _ _ ?_)
  refine wpAny_newFunctionEnv_cells S.kind (fun y hy => ?_) fun fresh same s1 made => ?_
  · obtain ⟨n, v⟩ := y
    cases S.par n (List.of_mem_zip hy).1 with
    | inl q => exact .inl q
    | inr q => exact .inr ⟨q, PySem.W.cellsFrom_some _ _ _ (.inl q)⟩
  cases same
  refine ⟨lims.keeps made.toInCall.keep, codeAny_func ?_⟩
  obtain ⟨t, prog, ends⟩ := body cdv s H vs Q E (room.deeper _) want
  have inv : Inv (cxOf CX0 P w K mg base N qual (defScope st) f cdv callerA [] s H E) [] (start N vs) H s1 := inv_start S room.hd env (count _ _ _ _ want) rel made
  refine wpAny_mono (prog.nox.run [] s1 (start N vs) H _ inv ends) (fun fl s2 got => ?_) fun e s2 got => got
  cases fl with
  | ret u => exact let ⟨v, _, H2, J, rv, q⟩ := got; ⟨v, H2, J.os, J.bare, J.base, J.hok, rv, q⟩
  | next => exact let ⟨_, H2, J, q⟩ := got; ⟨V.non, H2, J.os, J.bare, J.base, J.hok, rfl, q⟩
  | brk => exact let ⟨_, _, _, q⟩ := got; False.elim q
  | cont => exact let ⟨_, _, _, q⟩ := got; False.elim q
variable {mb : Str → Option Value} {fa a : Addr} {fd : FuncData} {x : Str} {sp : Sp} {s1 : Shared} {vs : List Value} {ns : List Int}
abbrev scr (vs : List Value) : Obj := { cls := .type "list", data := .seq vs.toArray }
/-- from a heap in which at most the script is told -/
theorem runG_core (kin : K.In s1.heap) (gl : s1.heap.Ns mainGlobals mg) (bl : s1.heap.Ns builtinsNs mb) (bo : ∀ x : Str, x ≠ "__name__" → mb x = bootBuiltins x) (lim : s1.heap.NoLimit) (gen : s1.gens = #[]) (ha : s1.heap.get? a = some (scr vs))
    (F : ∀ base : Heap, K.In base → base.Ns mainGlobals mg → FnG P w K mg base fa fd [x] sp) (bind : ∀ (s : Shared) (u : Value), BindsTo s fd ⟨[u], []⟩ [(x, u)]) {H : Hp} (only : Only H) (want : sp [.ref a] H (fun v _ => v = .bl true) fun _ _ _ => False) (hok : HOk P w H s1.heap)
    (alone : ∀ b, H b ≠ none → b = a) (free : H a ≠ none → K.lookup a = none) :
    codeAny (model P w) callerA (.call (.ref fa) ⟨[.ref a], []⟩) (fun r s' => r = .ok (.ret (.bool true)) ∧ OldK s1.heap s'.heap ∧ s'.os = s1.os ∧ AllBare s'.gens) s1 := by
  have none_of : ∀ {b : Addr} {o : Obj}, s1.heap.get? b = some o → (b = a → H a ≠ none → False) → (hidT s1.heap H).get? b = some o := fun {b o} e no => hidT_get e (by
    cases q : H b with
    | none => rfl
    | some u =>
      have n : H b ≠ none := by rw [q]; exact fun z => nomatch z
      have eb := alone b n
      subst eb
      exact (no rfl n).elim)
  have names : ∀ {b : Addr} {m : Str → Option Value}, s1.heap.Ns b m → (hidT s1.heap H).Ns b m := fun {b m} ⟨o, es, ep, e, d, r⟩ => ⟨o, es, ep, none_of e (fun eb _ => by
    subst eb
    rw [ha] at e
    cases e
    have d : Data.seq vs.toArray _ = Data.dict es ep := d
    cases d), d, r⟩
  have kin2 : K.In (hidT s1.heap H) := fun b o e => none_of (kin b o e) fun eb n => by
    subst eb
    rw [free n] at e
    cases e
  have mod : Mod K mg (hidT s1.heap H) := ⟨kin2, names gl, ⟨mb, names bl, bo⟩, let ⟨mc, h1, h2⟩ := lim; ⟨mc, names h1, h2⟩⟩
  have env : Env0 P w K mg (hidT s1.heap H) callerA [] s1 H := ⟨rfl, mod, fun b o e => of_hidT e, Nat.le_of_eq (hidT_size _ _), trivial, fun b hb => (nomatch (show b ∈ ([] : List Addr) from hb)), hok, .of_eq gen⟩
  refine codeAny_mono ((F _ kin2 (names gl)).go s1 H [.ref a] [.ref a] _ _ env (bind s1 (.ref a)) (.cons rfl .nil) want) fun r s2 got => ?_
  match r, got with
  | .ok (.ret u), got =>
    obtain ⟨v, H2, os, bare, un, hok2, rel, q⟩ := got
    have q : v = .bl true := q
    cases q
    have rel : u = Value.bool true := rel
    cases rel
    refine ⟨rfl, OldK.of_keep fun b o e => ?_, os, bare⟩
    rcases only b with z | ⟨ob, xs, z⟩
    · exact un.keep b o e z (fun m => (nomatch (show b ∈ ([] : List Addr) from m))) (fun m => (nomatch m))
    · obtain ⟨e1, _⟩ := hok b _ z
      obtain ⟨e2, _⟩ := hok2 b _ (un.frzs b ob _ z)
      rw [e] at e1
      cases e1
      exact e2
theorem runG (kin : K.In s1.heap) (gl : s1.heap.Ns mainGlobals mg) (bl : s1.heap.Ns builtinsNs mb) (bo : ∀ x : Str, x ≠ "__name__" → mb x = bootBuiltins x) (lim : s1.heap.NoLimit) (gen : s1.gens = #[]) (ha : s1.heap.get? a = some (scr vs)) (hin : IntsAre vs ns) (hl : ns.length ≤ sizeLine)
    (F : ∀ base : Heap, K.In base → base.Ns mainGlobals mg → FnG P w K mg base fa fd [x] sp) (bind : ∀ (s : Shared) (u : Value), BindsTo s fd ⟨[u], []⟩ [(x, u)]) (want : ∀ H : Hp, Only H → SqL K H a (ns.map V.int) → sp [.ref a] H (fun v _ => v = .bl true) fun _ _ _ => False) :
    codeAny (model P w) callerA (.call (.ref fa) ⟨[.ref a], []⟩) (fun r s' => r = .ok (.ret (.bool true)) ∧ OldK s1.heap s'.heap ∧ s'.os = s1.os ∧ AllBare s'.gens) s1 := by
  have rel := vals_ints hin
  have size : vs.toArray.size ≤ sizeLine := by
    rw [List.size_toArray, hin.length]
    exact hl
  cases hk : K.lookup a with
  | some o =>
    have e := (kin a o hk).symm.trans ha
    cases e
    have only : Only (fun _ : Addr => (none : Option HO)) := fun _ => .inl rfl
    exact runG_core kin gl bl bo lim gen ha F bind only (want _ only (.inr ⟨_, vs.toArray, _, hk, rfl, rfl, rfl, size, by simpa using rel⟩)) (fun b u z => (nomatch (show (none : Option HO) = some u from z))) (fun b z => absurd rfl z) fun z => absurd rfl z
  | none =>
    let H : Hp := fun b => if b = a then some (.frz (scr vs) (.lst (ns.map V.int))) else none
    have at_ : H a = some (.frz (scr vs) (.lst (ns.map V.int))) := if_pos rfl
    have off : ∀ b, b ≠ a → H b = none := fun b hb => if_neg hb
    have only : Only H := fun b => by
      by_cases hb : b = a
      · subst hb
        exact .inr ⟨_, _, at_⟩
      · exact .inl (off b hb)
    refine runG_core kin gl bl bo lim gen ha F bind only (want _ only (.inl (.inr ⟨scr vs, at_⟩))) (fun b u z => ?_) (fun b z => ?_) fun _ => hk
    · by_cases hb : b = a
      · subst hb
        cases at_.symm.trans z
        exact ⟨ha, by rw [List.length_map]; exact hl, vs, _, rel, ha⟩
      · cases (off b hb).symm.trans z
    · by_cases hb : b = a
      · exact hb
      · exact absurd (off b hb) z
end
/-- the head -/
theorem walkG {l : PySem.W.OpenLaw} {n : Nat} {q : Program} {loose : List Str} {XP : (Str → Option Value) → Heap → Prop} {YP : World → Heap → Prop} {d : DefRec} {K : Params → PySem.W.Frag} {sp : World → Sp} {x : Str} (hn : l.most = some n) (hn2 : n ≤ sizeLine) (hdf : d.params.defaults = []) (hY : ∀ (w : World) (h : Heap), YP w h → (K w.params).In h)
    (F : ∀ (w : World) (mg : Str → Option Value) (fa : Addr) (h : Heap), (K w.params).In h → h.Ns mainGlobals mg → mg d.name = some (.ref fa) → ∃ fd : FuncData, (∀ (s : Shared) (u : Value), BindsTo s fd ⟨[u], []⟩ [(x, u)]) ∧ ∀ base : Heap, (K w.params).In base → base.Ns mainGlobals mg → FnG l.prog w (K w.params) mg base fa fd [x] (sp w))
    (want : ∀ (w : World) (H : Hp) (a : Addr) (ns : List Int), ns.length ≤ n → Only H → SqL (K w.params) H a (ns.map V.int) → sp w [.ref a] H (fun v _ => v = .bl true) fun _ _ _ => False) : PySem.W.WalkO q loose XP YP l.row.toRowW d [] (fun f vs => PySem.call f vs) :=
  Att.attach_call hn hdf fun w s₀ s₁ mg mb fa o pm cd doc a vs ns G Y ho hd hcd hmg hobj hints hlen hg => by
    obtain ⟨fd, bnd, fn⟩ := F w mg fa _ (hY w _ Y) G.T.g hmg
    exact runG (hY w _ Y) G.T.g G.T.b G.T.builtins G.T.nolimit hg hobj hints (Nat.le_trans hlen hn2) fn bnd fun H o q => want w H a ns hlen o q
/-! ### repr of data -/
def rRepr (K : PySem.W.Frag) : List V → Hp → VK → Prop := fun xs H Q => ∃ a d, xs = [.ref a] ∧ Dp K H (.ref a) d ∧ d.showable = true ∧ d.hasDict = false ∧ d.depth ≤ 60 ∧ d.shown.length ≤ sizeLine ∧ Q (.str d.shown) H
theorem call_reprD {X : Cx} (hg : X.A.guards = some []) (hu : X.A.units + 64 < cLine) : CallR X (.builtin "repr") (rRepr X.K) := by
  intro pins s σ H xs us Q I r h
  obtain ⟨a, d, rfl, hd, sh, nd, dep, len, q⟩ := h
  obtain ⟨u, rfl, e⟩ := vals1 r
  cases e
  obtain ⟨as, rd⟩ := Dp.reads I d _ _ hd rfl
  exact repr_of_reads' rd sh (PyData.noDict_hsm nd) hg (by omega) (fun _ _ e => e) (fun h' u tk keep => ⟨.str d.shown, H, I.kept keep, ⟨u, rfl⟩, q⟩) len
theorem ve_repr {K : PySem.W.Frag} {σ : L2.St} {H : Hp} {tr : TA} {xs : List V} {d : PyData} (h : Va tr σ H xs) (hz : xs.length ≤ sizeLine) (hd : ∀ T H', Same H H' → H' T = some (.tup xs) → Dp K H' (.ref T) d) (h1 : d.showable = true) (h2 : d.hasDict = false) (h3 : d.depth ≤ 60) (h4 : d.shown.length ≤ sizeLine) :
    Ve (tCB (rRepr K) (tCons (tTup tr) tNil)) σ H (.str d.shown) := fun Q q => h _ ⟨hz, fun T nT => ⟨T, d, rfl, hd T _ (same_upd nT) upd_same, h1, h2, h3, h4, q _ (same_upd nT)⟩⟩
theorem ve_repr1 {K : PySem.W.Frag} {σ : L2.St} {H : Hp} {te : TE} {a : Addr} {d : PyData} (h : Vl te σ H (.ref a)) (hd : Dp K H (.ref a) d) (h1 : d.showable = true) (h2 : d.hasDict = false) (h3 : d.depth ≤ 60) (h4 : d.shown.length ≤ sizeLine) :
    Ve (tCB (rRepr K) (tCons te tNil)) σ H (.str d.shown) := fun Q q => h _ ⟨a, d, rfl, hd, h1, h2, h3, h4, q _ (Same.refl _)⟩
/-! ### check_places -/
def badP (n x : Int) : Bool := !(decide (0 ≤ x) && decide (x < n))
theorem badP_in {n x : Int} (h : 0 ≤ x ∧ x < n) : ¬ badP n x = true := by
  unfold badP
  rw [decide_eq_true h.1, decide_eq_true h.2]
  exact Bool.false_ne_true
theorem badP_out {n x : Int} (h : ¬ (0 ≤ x ∧ x < n)) : badP n x = true := by
  unfold badP
  rw [Bool.not_eq_true', Bool.and_eq_false_iff, decide_eq_false_iff_not, decide_eq_false_iff_not]
  omega
def badPl (n : Int) (xs : List Int) : Option Int := xs.find? (badP n)
theorem badPl_none {n : Int} {xs : List Int} (h : badPl n xs = none) : ∀ x ∈ xs, 0 ≤ x ∧ x < n := fun x hx => by
  have := List.find?_eq_none.mp h x hx
  by_cases c : 0 ≤ x ∧ x < n
  · exact c
  · exact absurd (badP_out c) this
theorem badPl_of {n : Int} {xs : List Int} (h : ∀ x ∈ xs, 0 ≤ x ∧ x < n) : badPl n xs = none := List.find?_eq_none.mpr fun x hx => badP_in (h x hx)
def spChkPl (K : PySem.W.Frag) (CP : Addr) : Sp := fun vs H Q E => ∃ (n : Int) (p : Addr) (xs : List Int), vs = [.int n, .ref p] ∧ SqL K H p (xs.map V.int) ∧
  (∀ x, badPl n xs = some x → RaiseTo E H CP x) ∧ (badPl n xs = none → ∀ H', Same H H' → Q .non H')
abbrev sChkPl : Stmt := topS 7
theorem scChkPl : FnScope ["n", "places", "place"] ["n", "places"] (defScope sChkPl) := ⟨rfl, rfl, rfl, by decide +kernel, rfl, by decide +kernel, by decide +kernel⟩
section
variable {P : Program} {w : World} {K : PySem.W.Frag} {mg : Str → Option Value} {base : Heap} {CP fI : Addr}
theorem ok_chkPl {f : Addr} {fd : FuncData} (F : Fun K "check_places" "check_places" sChkPl f fd) (hP : PySem.LowX.LowTxt K mg "NoPlace" CP fI) : FnOk P w K mg base (L2.CX P w) 2 f fd ["n", "places"] (spChkPl K CP) := by
  refine F.okX scChkPl (fun vs H Q E h => ?_) (fun cdv A outer s H vs Q E hr h => ?_)
  · obtain ⟨n, p, xs, rfl, _⟩ := h
    rfl
  · obtain ⟨n, p, xs, rfl, hS, q1, q2⟩ := h
    refine ⟨_, pss_one (ps_for (passes_of rfl) rfl (pi_list (pv 1)) (pg_name (i := 2) scChkPl.nd rfl (.inl rfl))
      (pss_one (ps_if (pt_not (pt_chain op_le op_lt pe_int (pv 2) (pv 0)))
        (pss_one (ps_raiseLow rfl hP hr (takes_of rfl rfl rfl rfl) (by exact (pa_cons (pv 2) pa_nil))))
        pss_nil))), ?_⟩
    refine g_forL (K := K) (j := 2) (xs := xs.map V.int) (vl_var rfl) hS
      (fun i σ H3 => ∃ y2, σ = [some (.int n), some (.ref p), y2] ∧ Same H H3 ∧ badPl n (xs.take i) = none)
      ⟨none, rfl, Same.refl _, rfl⟩ (fun i σ H3 hP => ?_) (fun i v σ H3 hi hP => ?_) (fun σ H3 hP => ?_)
    · obtain ⟨_, _, s3, _⟩ := hP
      exact s3.seq hS
    · obtain ⟨y2, rfl, s3, hb⟩ := hP
      rw [List.getElem?_map] at hi
      cases hg : xs[i]? with
      | none =>
        rw [hg] at hi
        cases hi
      | some z =>
        rw [hg] at hi
        cases hi
        refine g_when (b := !(decide ((0 : Int) ≤ z) && decide (z < n))) (an_not (an_test (vl_chainI vl_c (vl_var rfl) (vl_var rfl)))) (fun hz => ?_) (fun hz => ?_)
        · refine raise_now (va_cons (vl_var rfl) va_nil) ((q1 z ?_).to s3)
          have e : xs = xs.take i ++ (z :: xs.drop (i + 1)) := by
            have hil := (List.getElem?_eq_some_iff.mp hg)
            rw [← hil.2, ← List.drop_eq_getElem_cons hil.1, List.take_append_drop]
          rw [e]
          unfold badPl at hb ⊢
          rw [List.find?_append, hb, List.find?_cons_of_pos (p := badP n) hz] <;> rfl
        · refine ⟨_, rfl, s3, ?_⟩
          unfold badPl at hb ⊢
          rw [take_snoc hg, List.find?_append, hb, List.find?_cons_of_neg (p := badP n) (fun z => by rw [show badP n _ = false from hz] at z; cases z)] <;> rfl
    · obtain ⟨y2, rfl, s3, hb⟩ := hP
      rw [List.length_map, List.take_length] at hb
      exact q2 hb _ s3
end
section
variable {K : PySem.W.Frag} {σ : L2.St} {H : Hp} {t0 t1 t2 : TE} {D : Ends} {tw : TS} {E : XK} {CP : Addr} {n a b : Int}
/-- check_places(n, [a]) -/
theorem q_chk1 (h0 : Vl t0 σ H (.int n)) (h1 : Vl t1 σ H (.int a)) (qb : ¬ (0 ≤ a ∧ a < n) → RaiseTo E H CP a) (k : 0 ≤ a ∧ a < n → ∀ H', Same H H' → tw D σ H') :
    tSeq (tDrop (tCall (spChkPl K CP) [] E (tCons t0 (tCons (tLst (tCons t1 tNil)) tNil)))) tw D σ H :=
  h0 _ (h1 _ ⟨by show 1 ≤ sizeLine; decide, fun p np => ⟨n, p, [a], rfl, .of upd_same, fun x hx => by
    have s : Same H (upd H p (.lst [.int a])) := same_upd np
    refine (?_ : RaiseTo E H CP x).to s
    by_cases hin : 0 ≤ a ∧ a < n
    · rw [badPl_of (by
        intro y hy
        rw [List.mem_singleton.mp hy]
        exact hin)] at hx
      cases hx
    · have e : x = a := List.mem_singleton.mp (List.mem_of_find?_eq_some hx)
      rw [e]
      exact qb hin, fun hx H' s' => k (badPl_none hx a List.mem_cons_self) H' ((same_upd np).trans s')⟩⟩)
/-- check_places(n, [a, b]) -/
theorem q_chk2 (h0 : Vl t0 σ H (.int n)) (h1 : Vl t1 σ H (.int a)) (h2 : Vl t2 σ H (.int b)) (qa : ¬ (0 ≤ a ∧ a < n) → RaiseTo E H CP a) (qb : 0 ≤ a ∧ a < n → ¬ (0 ≤ b ∧ b < n) → RaiseTo E H CP b)
    (k : 0 ≤ a ∧ a < n → 0 ≤ b ∧ b < n → ∀ H', Same H H' → tw D σ H') :
    tSeq (tDrop (tCall (spChkPl K CP) [] E (tCons t0 (tCons (tLst (tCons t1 (tCons t2 tNil))) tNil)))) tw D σ H :=
  h0 _ (h1 _ (h2 _ ⟨by show 2 ≤ sizeLine; decide, fun p np => ⟨n, p, [a, b], rfl, .of upd_same, fun x hx => by
    have s : Same H (upd H p (.lst [.int a, .int b])) := same_upd np
    refine (?_ : RaiseTo E H CP x).to s
    unfold badPl at hx
    by_cases hin : 0 ≤ a ∧ a < n
    · by_cases hin2 : 0 ≤ b ∧ b < n
      · have := badPl_of (n := n) (xs := [a, b]) (by
          intro y hy
          rcases List.mem_cons.mp hy with rfl | hy
          · exact hin
          · rw [List.mem_singleton.mp hy]
            exact hin2)
        unfold badPl at this
        rw [this] at hx
        cases hx
      · rw [List.find?_cons_of_neg (badP_in hin)] at hx
        have e : x = b := List.mem_singleton.mp (List.mem_of_find?_eq_some hx)
        rw [e]
        exact qb hin hin2
    · rw [List.find?_cons_of_pos (badP_out hin)] at hx
      cases hx
      exact qa hin, fun hx H' s' => k (badPl_none hx a List.mem_cons_self) (badPl_none hx b (List.mem_cons_of_mem _ List.mem_cons_self)) H' ((same_upd np).trans s')⟩⟩))
end
/-! ### orders -/
def rng (n : Int) : List Int := (List.range n.toNat).map fun (i : Nat) => (i : Int)
def OrdOk (n : Int) (os : List Int) : Prop := os.Perm (rng n)
theorem mem_rng {n x : Int} : x ∈ rng n ↔ 0 ≤ x ∧ x < n := by
  unfold rng
  rw [List.mem_map]
  constructor
  · rintro ⟨i, hi, rfl⟩
    rw [List.mem_range] at hi
    omega
  · intro h
    exact ⟨x.toNat, List.mem_range.mpr (by omega), by omega⟩
theorem len_rng {n : Int} : (rng n).length = n.toNat := by
  unfold rng
  rw [List.length_map, List.length_range]
theorem nodup_rng {n : Int} : (rng n).Nodup := by
  unfold rng
  show List.Pairwise (· ≠ ·) _
  rw [List.pairwise_map]
  exact List.Pairwise.imp (fun h z => h (Int.ofNat.inj z)) List.nodup_range
theorem rng_succ (i : Nat) : rng ((i + 1 : Nat) : Int) = rng (i : Nat) ++ [(i : Int)] := by
  unfold rng
  rw [Int.toNat_natCast, Int.toNat_natCast, List.range_succ, List.map_append]
  rfl
theorem OrdOk.mem {n x : Int} {os : List Int} (h : OrdOk n os) : x ∈ os ↔ 0 ≤ x ∧ x < n := (h.mem_iff).trans mem_rng
theorem OrdOk.nodup {n : Int} {os : List Int} (h : OrdOk n os) : os.Nodup := (List.Perm.nodup_iff h).mpr nodup_rng
theorem OrdOk.len {n : Int} {os : List Int} (h : OrdOk n os) : os.length = n.toNat := (List.Perm.length_eq h).trans len_rng
theorem perm_of_sub : ∀ (xs ys : List Int), xs.Nodup → (∀ x ∈ xs, x ∈ ys) → ys.length ≤ xs.length → xs.Perm ys
  | [], ys, _, _, hl => by
    rw [List.eq_nil_of_length_eq_zero (Nat.le_zero.mp hl)]
  | x :: xs, ys, hn, hs, hl => by
    have hx := hs x List.mem_cons_self
    have hn := List.nodup_cons.mp hn
    have e := List.length_erase_of_mem hx
    have h := perm_of_sub xs (ys.erase x) hn.2 (fun y hy => (List.mem_erase_of_ne (fun z => hn.1 (by rw [← z]; exact hy))).mpr (hs y (List.mem_cons_of_mem _ hy))) (by
      rw [e]
      rw [List.length_cons] at hl
      omega)
    exact (h.cons x).trans (List.perm_cons_erase hx).symm
theorem ord_of {n : Int} {os : List Int} (hn : os.Nodup) (hm : ∀ x ∈ os, 0 ≤ x ∧ x < n) (hl : os.length = n.toNat) : OrdOk n os :=
  perm_of_sub _ _ hn (fun x hx => mem_rng.mpr (hm x hx)) (by rw [len_rng, hl]; exact Nat.le_refl _)
section
variable {K : PySem.W.Frag} {σ : L2.St} {H : Hp} {ta tb te : TE} {D : Ends} {tw : TS} {xs : List V}
theorem g_asgN {i : Nat} (h : Vn te σ H xs) (k : ∀ p H', Same H H' → H p = none → H' p = some (.lst xs) → D.nx (σ.set i (some (.ref p))) H') : tAsg te (gName i) D σ H := h _ k
/-- slices and sums of lists of ints -/
theorem vn_toI {ns : List Int} {a : Addr} {j : Nat} (h : Vl te σ H (.ref a)) (hj : Vl tb σ H (.int (j : Nat))) (hx : SqL K H a (ns.map V.int)) (hl : j ≤ ns.length) : Vn (tSl (rSlL K) te tNoPart (tPart tb)) σ H ((ns.take j).map V.int) := by
  have e : cutV (ns.map V.int) none (some ((j : Nat) : Int)) = (ns.take j).map V.int := by
    rw [cut_to (by rw [List.length_map]; exact hl), List.map_take]
  rw [← e]
  exact vn_slice h (fun _ q => q) (fun Q q => hj _ ⟨_, rfl, q⟩) hx
theorem vn_fromI {ns : List Int} {a : Addr} {j : Nat} (h : Vl te σ H (.ref a)) (hj : Vl tb σ H (.int (j : Nat))) (hx : SqL K H a (ns.map V.int)) (hl : j ≤ ns.length) : Vn (tSl (rSlL K) te (tPart tb) tNoPart) σ H ((ns.drop j).map V.int) := by
  have e : cutV (ns.map V.int) (some ((j : Nat) : Int)) none = (ns.drop j).map V.int := by
    rw [cut_from (by rw [List.length_map]; exact hl), List.map_drop]
  rw [← e]
  exact vn_slice h (fun Q q => hj _ ⟨_, rfl, q⟩) (fun _ q => q) hx
theorem vn_oneI {n : Int} (h : Vl te σ H (.int n)) : Vn (tLst (tCons te tNil)) σ H (([n] : List Int).map V.int) := vn_lst (va_cons h va_nil) (by show 1 ≤ sizeLine; decide)
theorem vn_catI {ms ns : List Int} (ha : Vn ta σ H (ms.map V.int)) (hb : ∀ H', Same H H' → Vn tb σ H' (ns.map V.int)) (hz : ms.length + ns.length ≤ 1000000) : Vn (tOp rCat ta tb) σ H ((ms ++ ns).map V.int) := by
  rw [List.map_append]
  exact vn_cat ha hb (by
    rw [List.length_map, List.length_map]
    exact Nat.le_trans hz (by decide))
theorem inV_int {x : Int} {ns : List Int} : inV (.int x) (ns.map V.int) = decide (x ∈ ns) := by
  unfold inV
  induction ns with
  | nil => rfl
  | cons n r ih =>
    rw [List.map_cons, List.any_cons, ih]
    show ((n == x) || decide (x ∈ r)) = _
    rw [Bool.eq_iff_iff, Bool.or_eq_true, beq_iff_eq, decide_eq_true_eq, decide_eq_true_eq, List.mem_cons]
    constructor
    · rintro (h | h)
      · exact .inl h.symm
      · exact .inr h
    · rintro (h | h)
      · exact .inl h.symm
      · exact .inr h
theorem flat_ints (ns : List Int) : (ns.map V.int).all flatV = true := by
  rw [List.all_map, List.all_eq_true]
  intro x _
  rfl
theorem vl_inI {a : Addr} {x : Int} {ns : List Int} (ha : Vl ta σ H (.int x)) (h : Vl te σ H (.ref a)) (hx : SqL K H a (ns.map V.int)) : Vl (tOp (rIn K false) ta te) σ H (.bl (decide (x ∈ ns))) := vl_op ha h fun _ k => ⟨a, _, rfl, .inl hx, rfl, flat_ints ns, by
  rw [inV_int]
  exact k⟩
theorem vl_notInI {a : Addr} {x : Int} {ns : List Int} (ha : Vl ta σ H (.int x)) (h : Vl te σ H (.ref a)) (hx : SqL K H a (ns.map V.int)) : Vl (tOp (rIn K true) ta te) σ H (.bl (!decide (x ∈ ns))) := vl_op ha h fun _ k => ⟨a, _, rfl, .inl hx, rfl, flat_ints ns, by
  rw [inV_int]
  exact k⟩
theorem vl_ixI {a : Addr} {ns : List Int} {j : Nat} {x : Int} (ha : Vl ta σ H (.ref a)) (hb : Vl tb σ H (.int (j : Nat))) (h : SqL K H a (ns.map V.int)) (hg : ns[j]? = some x) : Vl (tOp (rIxL K) ta tb) σ H (.int x) := vl_ixL ha hb h (atI_nat (by
  rw [List.getElem?_map, hg]
  rfl))
theorem vl_lenI {a : Addr} {ns : List Int} (ha : Vl ta σ H (.ref a)) (h : SqL K H a (ns.map V.int)) : Vl (tCB (fun xs H Q => ∃ p ys, xs = [V.ref p] ∧ (SqL K H p ys ∨ SqT K H p ys) ∧ Q (V.int ys.length) H) (tCons ta tNil)) σ H (.int ns.length) := (vl_lenL ha h).is (by rw [List.length_map])
end
section
variable {K : PySem.W.Frag} {σ : L2.St} {H : Hp} {ta tb te : TE} {b k m : Bool}
theorem vn_catL {a : Addr} {ms ns : List Int} (ha : Vl ta σ H (.ref a)) (hA : H a = some (.lst (ms.map V.int))) (hb : Vn tb σ H (ns.map V.int)) (hz : ms.length + ns.length ≤ 1000000) : Vn (tOp rCat ta tb) σ H ((ms ++ ns).map V.int) := fun Q q =>
  ha _ (hb _ fun p H1 s1 np hp => ⟨a, p, _, _, rfl, rfl, s1 _ _ hA, hp, by
    rw [List.length_map, List.length_map]
    exact Nat.le_trans hz (by decide), fun t nt => by
    rw [← List.map_append]
    exact q t _ (s1.trans (same_upd nt)) (Same.free s1 nt) upd_same⟩)
theorem vn_lstRg {n : Int} (h : Vl ta σ H (.int n)) (h0 : 0 ≤ n) (h1 : n ≤ 1000000) : Vn (tLstRg (tRg1 ta)) σ H ((rng n).map V.int) := fun Q q => h _ ⟨n, rfl, RgOk.of_le (by omega) (by omega) (by omega) h0, fun p np => by
  have e : rgV 0 n = (rng n).map V.int := by
    unfold rgV rng
    rw [List.map_map, Int.sub_zero]
    exact List.map_congr_left fun i _ => by
      rw [Int.zero_add]
      rfl
  rw [e]
  exact q p _ (same_upd np) np upd_same⟩
theorem vl_andV (h1 : Vl ta σ H (.bl k)) (h2 : k = true → Vl tb σ H (.bl m)) : Vl (tAndV ta tb) σ H (.bl (k && m)) := fun Q q => h1 _ ⟨k, rfl, by
  cases k with
  | true => exact iteT (h2 rfl _ q)
  | false => exact iteF q⟩
theorem dB {i j : Bool} : decide (V.bl i = V.bl j) = decide (i = j) := by
  rw [Bool.eq_iff_iff, decide_eq_true_eq, decide_eq_true_eq]
  exact ⟨fun z => V.bl.inj z, fun z => by rw [z]⟩
end
theorem q_dputN {σ : L2.St} {H : Hp} {td ty tv : TE} {D : Ends} {tw : TS} {o : Addr} {p : Int} {kvs : List (Key × V)} {xs : List V} (hv : Vn tv σ H xs) (ho : ∀ H', Same H H' → Vl td σ H' (.ref o)) (hk : ∀ H', Same H H' → Vl ty σ H' (.int p)) (hd : H o = some (.dK kvs)) (hl : kvs.length < sizeLine)
    (k : ∀ a H', Same H H' → H a = none → H' a = some (.lst xs) → tw D σ (upd H' o (.dK (putK kvs (.inl p) (.ref a))))) : tSeq (sDPut td ty tv) tw D σ H := g_dputN (D := { D with nx := tw D }) hv ho hk hd hl k
abbrev sOrder : Stmt := topS 20
theorem scOrder : FnScope ["draws", "k", "size", "order", "place", "at"] ["draws", "k", "size"] (defScope sOrder) := ⟨rfl, rfl, rfl, by decide +kernel, rfl, by decide +kernel, by decide +kernel⟩
def spOrder (K : PySem.W.Frag) : Sp := fun vs H Q _ => ∃ (d : Addr) (ds : List Int) (k n : Int), vs = [.ref d, .int k, .int n] ∧ SqL K H d (ds.map V.int) ∧ 0 ≤ k ∧ 0 ≤ n ∧ n ≤ 40 ∧ ∀ H' p os, Same H H' → H p = none → H' p = some (.lst (os.map V.int)) → OrdOk n os → Q (.ref p) H'
section
variable {P : Program} {w : World} {K : PySem.W.Frag} {mg : Str → Option Value} {base : Heap}
theorem ok_order {f : Addr} {fd : FuncData} (F : Fun K "_law_order" "_law_order" sOrder f fd) (c_law_mix : Kal P w K mg base 1 "_law_mix" ["draws", "k", "many"] (spAt K)) (mr : mg "range" = none) : FnOk P w K mg base CX0 2 f fd ["draws", "k", "size"] (spOrder K) := by
  refine F.ok scOrder (fun vs H Q E h => ?_) (fun cdv A outer s H vs Q E hr h => ?_)
  · obtain ⟨d, ds, k, n, rfl, _⟩ := h
    rfl
  · obtain ⟨d, ds, k, n, rfl, hS, hk, hn0, hn40, q⟩ := h
    refine ⟨_, pss_cons (ps_set (i := 3) scOrder.nd rfl (.inl rfl) (pe_lst pa_nil))
      (pss_cons (ps_for PassesOwn.never rfl (pi_range1 (by rfl) mr (pa_cons (pv 2) pa_nil)) (pg_name (i := 4) scOrder.nd rfl (.inl rfl))
      (pss_cons (ps_set (i := 5) scOrder.nd rfl (.inl rfl) (pe_k c_law_mix hr (by first | decide | omega) (by rfl) (pa_cons (pv 0) (pa_cons (pe_op op_add (pv 1) (pv 4)) (pa_cons (pe_op op_add (pv 4) pe_int) pa_nil)))))
        (pss_one (ps_set (i := 3) scOrder.nd rfl (.inl rfl) (pe_op op_cat (pe_op op_cat (pe_slice sl_list (pv 3) po_none (po_some (pv 5))) (pe_lst (pa_cons (pv 4) pa_nil))) (pe_slice sl_list (pv 3) (po_some (pv 5)) po_none))))))
      (pss_one (ps_ret (pv 3)))), ?_⟩
    refine q_lnew fun o no => ?_
    refine q_forR (n := n) (va_cons (vl_var rfl) va_nil) ⟨by omega, by omega⟩
      (fun i σ H3 => ∃ y4 y5 p os, σ = [some (.ref d), some (.int k), some (.int n), some (.ref p), y4, y5] ∧ Same H H3 ∧ H p = none ∧ H3 p = some (.lst (os.map V.int)) ∧ OrdOk i os)
      ⟨none, none, o, [], rfl, same_upd no, no, upd_same, List.Perm.refl _⟩ (fun i σ H3 hi hP => ?_) (fun σ H3 hP => ?_)
    · obtain ⟨y4, y5, p, os, rfl, s3, np, hp, hos⟩ := hP
      refine q_asgI (P := fun r => 0 ≤ r ∧ r < (i : Int) + 1) (vi_call (va_cons (vl_var rfl) (va_cons (vl_I0 (vl_var rfl) (vl_var rfl)) (va_cons (vl_I0 (vl_var rfl) vl_c) va_nil))) fun Q E q => ⟨d, ds, k + i, (i : Int) + 1, rfl, s3.seq hS, by omega, by omega, q⟩) (fun r hr => ?_)
      obtain ⟨j, rfl⟩ := Int.eq_ofNat_of_zero_le hr.1
      have hl := hos.len
      rw [Int.toNat_natCast] at hl
      have hj : j ≤ os.length := by omega
      refine g_asgN (xs := (os.take j ++ [(i : Int)] ++ os.drop j).map V.int) (vn_catI (vn_catI (vn_toI (vl_var rfl) (vl_var rfl) (.of hp) hj) (fun H' s' => vn_oneI (vl_var rfl)) ?_) (fun H' s' => vn_fromI (vl_var rfl) (vl_var rfl) (.of (s' _ _ hp)) hj) ?_) (fun p2 H4 s4 np2 hp2 => ?_)
      · rw [List.length_take]
        show min j os.length + 1 ≤ 1000000
        omega
      · rw [List.length_append, List.length_take, List.length_drop]
        show min j os.length + 1 + (os.length - j) ≤ 1000000
        omega
      · refine ⟨_, _, p2, _, rfl, s3.trans s4, Same.free s3 np2, hp2, ?_⟩
        unfold OrdOk
        rw [rng_succ]
        have h1 : (os.take j ++ [(i : Int)] ++ os.drop j).Perm ([(i : Int)] ++ (os.take j ++ os.drop j)) := by
          rw [List.append_assoc, ← List.append_assoc [(i : Int)]]
          refine (List.perm_append_comm_assoc _ _ _).trans ?_
          rw [List.append_assoc]
        rw [List.take_append_drop] at h1
        exact (h1.trans List.perm_append_comm).trans (hos.append_right _)
    · obtain ⟨y4, y5, p, os, rfl, s3, np, hp, hos⟩ := hP
      refine g_ret (vl_var rfl) (q H3 p os s3 np hp ?_)
      rw [show ((n.toNat : Nat) : Int) = n by omega] at hos
      exact hos
end
/-! ### ranks -/
def fb (m : Int) : List Int → List Int → Nat → Option Nat
  | _, [], _ => none
  | seen, x :: xs, k => if (0 ≤ x ∧ x < m) ∧ x ∉ seen then fb m (seen ++ [x]) xs (k + 1) else some k
def badAt (os : List Int) : Option Nat := fb os.length [] os 0
def posOf (x : Int) : List Int → Nat
  | [] => 0
  | y :: ys => if y = x then 0 else posOf x ys + 1
def rk (os : List Int) : List Int := (rng os.length).map fun p => (posOf p os : Int)
theorem posOf_get : ∀ {os : List Int} {i : Nat} {x : Int}, os.Nodup → os[i]? = some x → posOf x os = i
  | [], _, _, _, h => by simp at h
  | y :: ys, 0, x, _, h => if_pos (Option.some.inj h)
  | y :: ys, i + 1, x, hn, h => by
    have hn := List.nodup_cons.mp hn
    have h : ys[i]? = some x := h
    have ne : ¬ y = x := fun z => hn.1 (by rw [z]; exact List.mem_of_getElem? h)
    show (if y = x then 0 else posOf x ys + 1) = i + 1
    rw [if_neg ne, posOf_get hn.2 h]
theorem posOf_lt : ∀ {os : List Int} {x : Int}, x ∈ os → os[posOf x os]? = some x
  | y :: ys, x, h => by
    show (y :: ys)[if y = x then 0 else posOf x ys + 1]? = some x
    by_cases e : y = x
    · rw [if_pos e, e]
      rfl
    · rw [if_neg e]
      rcases List.mem_cons.mp h with h | h
      · exact absurd h.symm e
      · exact posOf_lt h
theorem fb_ok {m : Int} : ∀ {xs seen : List Int} {k : Nat}, fb m seen xs k = none → seen.Nodup → (∀ x ∈ seen, 0 ≤ x ∧ x < m) → (seen ++ xs).Nodup ∧ ∀ x ∈ seen ++ xs, 0 ≤ x ∧ x < m
  | [], seen, k, _, hn, hm => by
    rw [List.append_nil]
    exact ⟨hn, hm⟩
  | x :: xs, seen, k, h, hn, hm => by
    have h : (if (0 ≤ x ∧ x < m) ∧ x ∉ seen then fb m (seen ++ [x]) xs (k + 1) else some k) = none := h
    by_cases c : (0 ≤ x ∧ x < m) ∧ x ∉ seen
    · rw [if_pos c] at h
      have := fb_ok h (List.nodup_append.mpr ⟨hn, List.nodup_cons.mpr ⟨List.not_mem_nil, .nil⟩, fun a ha b hb e => c.2 (by
        rw [List.mem_singleton] at hb
        rw [← hb, ← e]
        exact ha)⟩) (fun y hy => by
        rcases List.mem_append.mp hy with hy | hy
        · exact hm y hy
        · rw [List.mem_singleton.mp hy]
          exact c.1)
      rw [List.append_assoc] at this
      exact this
    · rw [if_neg c] at h
      cases h
theorem bad_none {os : List Int} (h : badAt os = none) : OrdOk os.length os := by
  have := fb_ok h .nil (fun _ h => nomatch h)
  exact ord_of this.1 this.2 (Int.toNat_natCast _).symm
theorem fb_none {m : Int} : ∀ {xs seen : List Int} {k : Nat}, (seen ++ xs).Nodup → (∀ x ∈ xs, 0 ≤ x ∧ x < m) → fb m seen xs k = none
  | [], _, _, _, _ => rfl
  | x :: xs, seen, k, hn, hm => by
    have c : (0 ≤ x ∧ x < m) ∧ x ∉ seen := ⟨hm x List.mem_cons_self, fun z => (List.nodup_append.mp hn).2.2 x z x List.mem_cons_self rfl⟩
    show (if (0 ≤ x ∧ x < m) ∧ x ∉ seen then fb m (seen ++ [x]) xs (k + 1) else some k) = none
    rw [if_pos c]
    exact fb_none (by
      rw [List.append_assoc]
      exact hn) fun y hy => hm y (List.mem_cons_of_mem _ hy)
theorem bad_iff {os : List Int} : badAt os = none ↔ OrdOk os.length os := ⟨bad_none, fun h => fb_none (by
  rw [List.nil_append]
  exact h.nodup) fun x hx => h.mem.mp hx⟩
def outAt (os : List Int) (i : Nat) : List Int := (rng os.length).map fun p => if p ∈ os.take i then (posOf p os : Int) else 0
theorem rng_get {n : Int} {p : Nat} (h : p < (rng n).length) : (rng n)[p] = (p : Int) := by
  simp only [rng, List.getElem_map, List.getElem_range]
theorem out_zero {os : List Int} : outAt os 0 = os.map fun _ => (0 : Int) := by
  refine List.ext_getElem ?_ fun p h1 h2 => ?_
  · unfold outAt
    rw [List.length_map, List.length_map, len_rng, Int.toNat_natCast]
  · simp only [outAt, List.getElem_map, List.take_zero, List.not_mem_nil, if_false]
theorem out_succ {os : List Int} {i : Nat} {x : Int} (ok : OrdOk os.length os) (h : os[i]? = some x) : outAt os (i + 1) = (outAt os i).set x.toNat i := by
  have hx := ok.mem.mp (List.mem_of_getElem? h)
  refine List.ext_getElem ?_ fun p h1 h2 => ?_
  · unfold outAt
    rw [List.length_set, List.length_map, List.length_map]
  · rw [List.getElem_set]
    simp only [outAt, List.getElem_map, rng_get]
    rw [take_snoc h]
    by_cases e : x.toNat = p
    · have e2 : (p : Int) = x := by omega
      rw [if_pos e, e2, if_pos (List.mem_append.mpr (.inr (List.mem_singleton.mpr rfl))), posOf_get ok.nodup h]
    · have e2 : ¬ (p : Int) = x := fun z => e (by omega)
      rw [if_neg e]
      by_cases c : (p : Int) ∈ os.take i
      · rw [if_pos c, if_pos (List.mem_append.mpr (.inl c))]
      · rw [if_neg c, if_neg (fun z => by
          rcases List.mem_append.mp z with z | z
          · exact c z
          · exact e2 (List.mem_singleton.mp z))]
theorem out_end {os : List Int} (ok : OrdOk os.length os) : outAt os os.length = rk os := by
  unfold outAt rk
  rw [List.take_length]
  exact List.map_congr_left fun p hp => if_pos (ok.mem.mpr (mem_rng.mp hp))
def dueD (os : List Int) : PyData := match badAt os with
  | some k => .tuple [.str "bad", .int (k : Nat)]
  | none => .tuple [.str "ranks", .list ((rk os).map PyData.int)]
theorem shaped_due (os : List Int) : SeqAt.shaped (dueD os) = true := by
  unfold dueD
  split
  · exact shaped_pair (x := "bad") (by decide +kernel) rfl (Nat.zero_le _)
  · refine shaped_pair (x := "ranks") (by decide +kernel) ?_ ?_
    · exact (lay_ints _).1
    · show PyData.depthAll _ + 1 ≤ 3
      rw [(lay_ints _).2]
      decide
/-- what due's tuple holds -/
def DueAt (K : PySem.W.Frag) (H : Hp) (T : Addr) (os : List Int) : Prop := match badAt os with
  | some k => SqT K H T [.str "bad", .int (k : Nat)]
  | none => ∃ q, SqT K H T [.str "ranks", .ref q] ∧ SqL K H q ((rk os).map V.int)
theorem DueAt.dp {K : PySem.W.Frag} {H : Hp} {T : Addr} {os : List Int} (h : DueAt K H T os) : Dp K H (.ref T) (dueD os) := by
  unfold DueAt at h
  unfold dueD
  cases e : badAt os with
  | some k =>
    rw [e] at h
    exact .tup h (.cons (.str _) (.cons (.int _) .nil))
  | none =>
    rw [e] at h
    obtain ⟨q, h1, h2⟩ := h
    exact .tup h1 (.cons (.str _) (.cons (Dp.ints h2) .nil))
/-! ### neighbours -/
def nearF (a : Int) (l : Lnk) : Option Int := if l.a = a then some l.b else if l.b = a then some l.a else none
def nearOf (a : Int) (ls : List Lnk) : List Int := ls.filterMap (nearF a)
theorem nearF_sum {a : Int} {l : Lnk} : nearF a l = if (l.a = a ∨ l.b = a) then some (l.a + l.b - a) else none := by
  unfold nearF
  by_cases h1 : l.a = a
  · rw [if_pos h1, if_pos (.inl h1)]
    congr 1
    omega
  · rw [if_neg h1]
    by_cases h2 : l.b = a
    · rw [if_pos h2, if_pos (.inr h2)]
      congr 1
      omega
    · rw [if_neg h2, if_neg (by omega)]
theorem nearF_iff {a o : Int} {l : Lnk} (h : l.a < l.b) : nearF a l = some o ↔ (l.a = a ∧ l.b = o) ∨ (l.a = o ∧ l.b = a) := by
  rw [nearF_sum]
  by_cases c : l.a = a ∨ l.b = a
  · rw [if_pos c]
    constructor
    · intro e
      have := Option.some.inj e
      omega
    · intro e
      congr 1
      omega
  · rw [if_neg c]
    constructor
    · intro e
      cases e
    · intro e
      omega
def adj0 (ls : List Lnk) (x y : Int) : Bool := ls.any fun l => decide ((l.a = x ∧ l.b = y) ∨ (l.a = y ∧ l.b = x))
theorem adj0_iff {ls : List Lnk} {x y : Int} : adj0 ls x y = true ↔ ∃ l ∈ ls, (l.a = x ∧ l.b = y) ∨ (l.a = y ∧ l.b = x) := by
  unfold adj0
  rw [List.any_eq_true]
  constructor
  · rintro ⟨l, h, e⟩
    exact ⟨l, h, of_decide_eq_true e⟩
  · rintro ⟨l, h, e⟩
    exact ⟨l, h, decide_eq_true e⟩
theorem split_at {α : Type} {xs : List α} {i : Nat} {x : α} (h : xs[i]? = some x) : xs = xs.take i ++ x :: xs.drop (i + 1) := by
  have hi := (List.getElem?_eq_some_iff.mp h).1
  have e := List.take_append_drop i xs
  rw [List.drop_eq_getElem_cons hi, (List.getElem?_eq_some_iff.mp h).2] at e
  exact e.symm
theorem near_mem {N : Net} (ok : NetOk N) {a o : Int} : o ∈ nearOf a N.ls ↔ adj0 N.ls a o = true := by
  unfold nearOf
  rw [List.mem_filterMap, adj0_iff]
  constructor
  · rintro ⟨l, h, e⟩
    exact ⟨l, h, (nearF_iff (ok.ok l h).ab).mp e⟩
  · rintro ⟨l, h, e⟩
    exact ⟨l, h, (nearF_iff (ok.ok l h).ab).mpr e⟩
theorem near_lt {N : Net} (ok : NetOk N) (a : Int) : (nearOf a N.ls).Pairwise (· < ·) := by
  unfold nearOf
  rw [List.pairwise_filterMap]
  refine List.Pairwise.imp_of_mem (fun {l m} hl hm hlt x hx y hy => ?_) ok.lt
  have h1 := (ok.ok l hl).ab
  have h2 := (ok.ok m hm).ab
  have hx := (nearF_iff h1).mp hx
  have hy := (nearF_iff h2).mp hy
  unfold LnkLt at hlt
  omega
theorem near_nodup {N : Net} (ok : NetOk N) (a : Int) : (nearOf a N.ls).Nodup := (near_lt ok a).imp fun h z => by omega
theorem adj0_in {N : Net} (ok : NetOk N) {x y : Int} (h : adj0 N.ls x y = true) : (0 ≤ x ∧ x < N.n) ∧ (0 ≤ y ∧ y < N.n) ∧ x ≠ y := by
  obtain ⟨l, hl, e⟩ := adj0_iff.mp h
  have := (ok.ok l hl).a0
  have := (ok.ok l hl).ab
  have := (ok.ok l hl).bn
  omega
theorem adj0_sym {ls : List Lnk} {x y : Int} : adj0 ls x y = adj0 ls y x := by
  rw [Bool.eq_iff_iff, adj0_iff, adj0_iff]
  constructor
  · rintro ⟨l, h, e⟩
    exact ⟨l, h, e.symm⟩
  · rintro ⟨l, h, e⟩
    exact ⟨l, h, e.symm⟩
/-! ### the greedy order -/
def joinB (adj : Int → Int → Bool) (b x y : Int) : Bool := adj x y || (adj b x && (adj b y && !decide (x = y)))
def deg (L : List Int) (adj : Int → Int → Bool) (p : Int) : Nat := (L.filter (adj p)).length
def pick (f : Int → Nat) (b : Int) (xs : List Int) : Int := xs.foldl (fun b p => if f p < f b then p else b) b
def gr : Nat → List Int → (Int → Int → Bool) → List Int
  | 0, _, _ => []
  | _ + 1, [], _ => []
  | k + 1, p :: r, adj => pick (deg (p :: r) adj) p (p :: r) :: gr k ((p :: r).erase (pick (deg (p :: r) adj) p (p :: r))) (joinB adj (pick (deg (p :: r) adj) p (p :: r)))
def greedyOf (N : Net) : List Int := gr N.n.toNat (rng N.n) (adj0 N.ls)
theorem pick_or {f : Int → Nat} : ∀ {xs : List Int} {b : Int}, pick f b xs = b ∨ pick f b xs ∈ xs
  | [], b => .inl rfl
  | x :: xs, b => by
    show pick f (if f x < f b then x else b) xs = b ∨ pick f (if f x < f b then x else b) xs ∈ x :: xs
    by_cases c : f x < f b
    · rw [if_pos c]
      rcases pick_or (f := f) (xs := xs) (b := x) with h | h
      · right
        rw [h]
        exact List.mem_cons_self
      · exact .inr (List.mem_cons_of_mem _ h)
    · rw [if_neg c]
      rcases pick_or (f := f) (xs := xs) (b := b) with h | h
      · exact .inl h
      · exact .inr (List.mem_cons_of_mem _ h)
theorem pick_mem {f : Int → Nat} {p : Int} {r : List Int} : pick f p (p :: r) ∈ p :: r := by
  rcases pick_or (f := f) (xs := p :: r) (b := p) with h | h
  · rw [h]
    exact List.mem_cons_self
  · exact h
theorem pick_congr {f g : Int → Nat} : ∀ {xs : List Int} {b : Int}, (∀ x ∈ b :: xs, f x = g x) → pick f b xs = pick g b xs
  | [], _, _ => rfl
  | x :: xs, b, h => by
    show pick f (if f x < f b then x else b) xs = pick g (if g x < g b then x else b) xs
    rw [h x (List.mem_cons_of_mem _ List.mem_cons_self), h b List.mem_cons_self]
    refine pick_congr fun y hy => ?_
    rcases List.mem_cons.mp hy with e | e
    · by_cases c : g x < g b
      · rw [if_pos c] at e
        rw [e]
        exact h x (List.mem_cons_of_mem _ List.mem_cons_self)
      · rw [if_neg c] at e
        rw [e]
        exact h b List.mem_cons_self
    · exact h y (List.mem_cons_of_mem _ (List.mem_cons_of_mem _ e))
structure AdjOk (adj : Int → Int → Bool) : Prop where
  sym : ∀ x y, adj x y = adj y x
  irr : ∀ x, adj x x = false
theorem AdjOk.join {adj : Int → Int → Bool} (h : AdjOk adj) (b : Int) : AdjOk (joinB adj b) where
  sym := fun x y => by
    unfold joinB
    rw [h.sym x y, Bool.and_left_comm, show decide (x = y) = decide (y = x) by
      rw [Bool.eq_iff_iff, decide_eq_true_eq, decide_eq_true_eq]
      exact eq_comm]
  irr := fun x => by
    unfold joinB
    rw [h.irr x, decide_eq_true rfl]
    simp
theorem adj0_ok {N : Net} (ok : NetOk N) : AdjOk (adj0 N.ls) := ⟨fun _ _ => adj0_sym, fun x => by
  cases e : adj0 N.ls x x with
  | false => rfl
  | true => exact absurd rfl (adj0_in ok e).2.2⟩
/-- lists of neighbours that say what adj says of the places left -/
structure NearOk (L : List Int) (adj : Int → Int → Bool) (near : Int → List Int) : Prop where
  nd : ∀ p ∈ L, (near p).Nodup
  mem : ∀ p ∈ L, ∀ o, o ∈ near p ↔ o ∈ L ∧ adj p o = true
theorem sub_len : ∀ {xs ys : List Int}, xs.Nodup → (∀ x ∈ xs, x ∈ ys) → xs.length ≤ ys.length
  | [], _, _, _ => Nat.zero_le _
  | x :: xs, ys, hn, hs => by
    have hn := List.nodup_cons.mp hn
    have hx := hs x List.mem_cons_self
    have e := List.length_erase_of_mem hx
    have h := sub_len (ys := ys.erase x) hn.2 (fun y hy => (List.mem_erase_of_ne (fun z => hn.1 (by rw [← z]; exact hy))).mpr (hs y (List.mem_cons_of_mem _ hy)))
    have := List.length_pos_of_mem hx
    rw [List.length_cons]
    omega
theorem NearOk.deg {L : List Int} {adj : Int → Int → Bool} {near : Int → List Int} (h : NearOk L adj near) (hL : L.Nodup) {p : Int} (hp : p ∈ L) : (near p).length = Ovc.deg L adj p := by
  unfold Ovc.deg
  have hf : (L.filter (adj p)).Nodup := hL.filter _
  have m : ∀ o, o ∈ near p ↔ o ∈ L.filter (adj p) := fun o => by
    rw [h.mem p hp o, List.mem_filter]
  refine Nat.le_antisymm ?_ ?_
  · exact sub_len (h.nd p hp) fun o ho => (m o).mp ho
  · exact sub_len hf fun o ho => (m o).mpr ho
def nearTo (near : Int → List Int) (b p : Int) : List Int := (near p).filter (fun o => !decide (o = b)) ++ (near b).filter fun o => !decide (o = p) && !decide (o ∈ near p)
theorem NearOk.step {L : List Int} {adj : Int → Int → Bool} {near : Int → List Int} (h : NearOk L adj near) (ha : AdjOk adj) (hL : L.Nodup) {b : Int} (hb : b ∈ L) :
    NearOk (L.erase b) (joinB adj b) (fun p => if p ∈ near b then nearTo near b p else near p) where
  nd := fun p hp => by
    have hp2 := (hL.mem_erase_iff.mp hp).2
    show (if p ∈ near b then nearTo near b p else near p).Nodup
    by_cases c : p ∈ near b
    · rw [if_pos c]
      refine List.nodup_append.mpr ⟨(h.nd p hp2).filter _, (h.nd b hb).filter _, fun x hx y hy e => ?_⟩
      have h1 := (List.mem_filter.mp hx).1
      have h2 := (List.mem_filter.mp hy).2
      rw [Bool.and_eq_true, Bool.not_eq_true', Bool.not_eq_true', decide_eq_false_iff_not, decide_eq_false_iff_not] at h2
      exact h2.2 (by rw [← e]; exact h1)
    · rw [if_neg c]
      exact h.nd p hp2
  mem := fun p hp o => by
    have hpb := (hL.mem_erase_iff.mp hp).1
    have hp2 := (hL.mem_erase_iff.mp hp).2
    show o ∈ (if p ∈ near b then nearTo near b p else near p) ↔ o ∈ L.erase b ∧ joinB adj b p o = true
    have j : joinB adj b p o = true ↔ adj p o = true ∨ (adj b p = true ∧ adj b o = true ∧ o ≠ p) := by
      unfold joinB
      rw [Bool.or_eq_true, Bool.and_eq_true, Bool.and_eq_true, Bool.not_eq_true', decide_eq_false_iff_not]
      constructor
      · rintro (h | ⟨h1, h2, h3⟩)
        · exact .inl h
        · exact .inr ⟨h1, h2, fun z => h3 z.symm⟩
      · rintro (h | ⟨h1, h2, h3⟩)
        · exact .inl h
        · exact .inr ⟨h1, h2, fun z => h3 z.symm⟩
    rw [j, hL.mem_erase_iff]
    by_cases c : p ∈ near b
    · rw [if_pos c]
      unfold nearTo
      have hbp := ((h.mem b hb p).mp c).2
      rw [List.mem_append, List.mem_filter, List.mem_filter, Bool.and_eq_true, Bool.not_eq_true', Bool.not_eq_true', Bool.not_eq_true', decide_eq_false_iff_not, decide_eq_false_iff_not, decide_eq_false_iff_not, h.mem p hp2 o, h.mem b hb o]
      constructor
      · rintro (⟨⟨h1, h2⟩, h3⟩ | ⟨⟨h1, h2⟩, h3, h4⟩)
        · exact ⟨⟨h3, h1⟩, .inl h2⟩
        · have ne : o ≠ b := fun z => by
            rw [z, ha.irr] at h2
            cases h2
          exact ⟨⟨ne, h1⟩, .inr ⟨hbp, h2, h3⟩⟩
      · rintro ⟨⟨h1, h2⟩, h3 | ⟨h3, h4, h5⟩⟩
        · exact .inl ⟨⟨h2, h3⟩, h1⟩
        · by_cases d : adj p o = true
          · exact .inl ⟨⟨h2, d⟩, h1⟩
          · exact .inr ⟨⟨h2, h4⟩, h5, fun z => d z.2⟩
    · rw [if_neg c, h.mem p hp2 o]
      have hbp : adj b p ≠ true := fun z => c ((h.mem b hb p).mpr ⟨hp2, z⟩)
      constructor
      · rintro ⟨h1, h2⟩
        have ne : o ≠ b := fun z => by
          rw [z, ha.sym] at h2
          exact hbp h2
        exact ⟨⟨ne, h1⟩, .inl h2⟩
      · rintro ⟨⟨h1, h2⟩, h3 | ⟨h3, _⟩⟩
        · exact ⟨h2, h3⟩
        · exact absurd h3 hbp
theorem left_snoc {n b : Int} {acc : List Int} : (rng n).filter (fun p => !decide (p ∈ acc ++ [b])) = ((rng n).filter fun p => !decide (p ∈ acc)).erase b := by
  rw [List.Nodup.erase_eq_filter (show List.Nodup _ from nodup_rng.filter _) b, List.filter_filter]
  refine List.filter_congr fun p _ => ?_
  rw [Bool.eq_iff_iff]
  simp only [List.mem_append, List.mem_singleton, Bool.not_eq_true', decide_eq_false_iff_not, Bool.and_eq_true, bne_iff_ne, ne_eq, not_or]
  exact And.comm
/-! ### pairs of an order -/
inductive Rch (adj : Int → Int → Bool) (low : Int → Prop) : Int → Int → Prop
  | one {x y : Int} : adj x y = true → Rch adj low x y
  | step {x z y : Int} : Rch adj low x z → low z → adj z y = true → Rch adj low x y
section
variable {adj : Int → Int → Bool} {low low' : Int → Prop} {x y z : Int}
theorem Rch.mono (h : Rch adj low x y) (m : ∀ z, low z → low' z) : Rch adj low' x y := by
  induction h with
  | one a => exact .one a
  | step _ l a ih => exact .step ih (m _ l) a
theorem Rch.trans (h : Rch adj low x z) (l : low z) (k : Rch adj low z y) : Rch adj low x y := by
  induction k with
  | one a => exact .step h l a
  | step _ l2 a ih => exact .step ih l2 a
theorem Rch.sym (ok : AdjOk adj) (h : Rch adj low x y) : Rch adj low y x := by
  induction h with
  | one a => exact .one (by rw [ok.sym]; exact a)
  | step _ l a ih => exact Rch.trans (.one (by rw [ok.sym]; exact a)) l ih
theorem Rch.last (h : Rch adj low x y) : ∃ a, adj a y = true := by
  cases h with
  | one a => exact ⟨_, a⟩
  | step _ _ a => exact ⟨_, a⟩
theorem Rch.first (h : Rch adj low x y) : ∃ a, adj x a = true := by
  induction h with
  | one a => exact ⟨_, a⟩
  | step _ _ _ ih => exact ih
end
section
variable {adj : Int → Int → Bool} {pos : Int → Nat}
theorem floyd1 (inj : ∀ x y a b, adj a x = true → adj b y = true → pos x = pos y → x = y) {k : Nat} {x y : Int} (h : Rch adj (fun z => pos z < k + 1) x y) :
    Rch adj (fun z => pos z < k) x y ∨ ∃ w, pos w = k ∧ Rch adj (fun z => pos z < k) x w ∧ Rch adj (fun z => pos z < k) w y := by
  induction h with
  | one a => exact .inl (.one a)
  | @step z y hz l a ih =>
    by_cases e : pos z = k
    · rcases ih with h | ⟨w, hw, h1, h2⟩
      · exact .inr ⟨z, e, h, .one a⟩
      · obtain ⟨b, hb⟩ := h1.last
        obtain ⟨c, hc⟩ := hz.last
        have : w = z := inj w z b c hb hc (by omega)
        subst this
        exact .inr ⟨w, hw, h1, .one a⟩
    · rcases ih with h | ⟨w, hw, h1, h2⟩
      · exact .inl (.step h (by omega) a)
      · exact .inr ⟨w, hw, h1, .step h2 (by omega) a⟩
theorem floyd (inj : ∀ x y a b, adj a x = true → adj b y = true → pos x = pos y → x = y) : ∀ {k : Nat} {x y : Int}, Rch adj (fun z => pos z < k) x y →
    adj x y = true ∨ ∃ w, pos w < k ∧ Rch adj (fun z => pos z < pos w) x w ∧ Rch adj (fun z => pos z < pos w) w y
  | 0, x, y, h => by
    cases h with
    | one a => exact .inl a
    | step _ l _ => exact absurd l (Nat.not_lt_zero _)
  | k + 1, x, y, h => by
    rcases floyd1 inj h with h | ⟨w, hw, h1, h2⟩
    · rcases floyd inj h with h | ⟨w, hw, h1, h2⟩
      · exact .inl h
      · exact .inr ⟨w, by omega, h1, h2⟩
    · exact .inr ⟨w, by omega, by rw [hw]; exact h1, by rw [hw]; exact h2⟩
end
def PairP (ls : List Lnk) (os : List Int) (u v : Int) : Prop := posOf u os < posOf v os ∧ Rch (adj0 ls) (fun z => posOf z os < posOf u os) u v
theorem pos_inj {os : List Int} {x y : Int} (hx : x ∈ os) (hy : y ∈ os) (h : posOf x os = posOf y os) : x = y := by
  have h1 := posOf_lt hx
  rw [h, posOf_lt hy] at h1
  exact (Option.some.inj h1).symm
theorem pos_len {os : List Int} {x : Int} (hx : x ∈ os) : posOf x os < os.length := (List.getElem?_eq_some_iff.mp (posOf_lt hx)).1
section
variable {N : Net} {os : List Int} {u v w : Int}
theorem adj_inj (ok : NetOk N) (oo : OrdOk N.n os) : ∀ x y a b, adj0 N.ls a x = true → adj0 N.ls b y = true → posOf x os = posOf y os → x = y := fun x y a b h1 h2 h3 =>
  pos_inj (oo.mem.mpr (adj0_in ok h1).2.1) (oo.mem.mpr (adj0_in ok h2).2.1) h3
theorem PairP.ins (ok : NetOk N) (h : PairP N.ls os u v) : (0 ≤ u ∧ u < N.n) ∧ (0 ≤ v ∧ v < N.n) := by
  obtain ⟨a, ha⟩ := h.2.last
  obtain ⟨b, hb⟩ := h.2.first
  exact ⟨(adj0_in ok hb).1, (adj0_in ok ha).2.1⟩
theorem PairP.ne (h : PairP N.ls os u v) : u ≠ v := fun e => by
  have := h.1
  rw [e] at this
  exact Nat.lt_irrefl _ this
theorem pair_clique (ok : NetOk N) (h1 : PairP N.ls os u v) (h2 : PairP N.ls os u w) (hvw : posOf v os < posOf w os) : PairP N.ls os v w := by
  have m : ∀ z, posOf z os < posOf u os → posOf z os < posOf v os := fun z hz => Nat.lt_trans hz h1.1
  exact ⟨hvw, ((h1.2.sym (adj0_ok ok)).mono m).trans h1.1 (h2.2.mono m)⟩
theorem pair_rec (ok : NetOk N) (oo : OrdOk N.n os) : PairP N.ls os u v ↔ posOf u os < posOf v os ∧ (adj0 N.ls u v = true ∨ ∃ w, PairP N.ls os w u ∧ PairP N.ls os w v) := by
  constructor
  · intro h
    refine ⟨h.1, ?_⟩
    rcases floyd (adj_inj ok oo) h.2 with h2 | ⟨w, hw, h1, h2⟩
    · exact .inl h2
    · exact .inr ⟨w, ⟨hw, h1.sym (adj0_ok ok)⟩, ⟨Nat.lt_trans hw h.1, h2⟩⟩
  · rintro ⟨hl, h | ⟨w, h1, h2⟩⟩
    · exact ⟨hl, .one h⟩
    · have m : ∀ z, posOf z os < posOf w os → posOf z os < posOf u os := fun z hz => Nat.lt_trans hz h1.1
      exact ⟨hl, ((h1.2.sym (adj0_ok ok)).mono m).trans h1.1 (h2.2.mono m)⟩
theorem pair_link (ok : NetOk N) (oo : OrdOk N.n os) (h : adj0 N.ls u v = true) : PairP N.ls os u v ∨ PairP N.ls os v u := by
  have hi := adj0_in ok h
  have hne : posOf u os ≠ posOf v os := fun e => hi.2.2 (pos_inj (oo.mem.mpr hi.1) (oo.mem.mpr hi.2.1) e)
  rcases Nat.lt_or_gt_of_ne hne with h1 | h1
  · exact .inl ⟨h1, .one h⟩
  · exact .inr ⟨h1, .one (by rw [adj0_sym]; exact h)⟩
end
open Classical in
/-- the upper neighbours of a place, in the order of ranks -/
noncomputable def upP (ls : List Lnk) (os : List Int) (u : Int) : List Int := os.filter fun v => decide (PairP ls os u v)
section
variable {N : Net} {ls : List Lnk} {os : List Int} {u v w : Int}
open Classical in
theorem mem_up : v ∈ upP ls os u ↔ v ∈ os ∧ PairP ls os u v := by
  unfold upP
  rw [List.mem_filter, decide_eq_true_eq]
theorem mem_upP (ok : NetOk N) (oo : OrdOk N.n os) : v ∈ upP N.ls os u ↔ PairP N.ls os u v := by
  rw [mem_up]
  exact ⟨fun h => h.2, fun h => ⟨oo.mem.mpr (h.ins ok).2, h⟩⟩
open Classical in
theorem up_eq {fs : List Int} (oo : OrdOk N.n os) (h : ∀ v ∈ os, v ∈ fs ↔ PairP N.ls os u v) : os.filter (fun v => decide (v ∈ fs)) = upP N.ls os u := by
  unfold upP
  refine List.filter_congr fun v hv => ?_
  rw [Bool.eq_iff_iff, decide_eq_true_eq, decide_eq_true_eq]
  exact h v hv
theorem up_nodup (oo : OrdOk N.n os) : (upP N.ls os u).Nodup := oo.nodup.filter _
theorem up_len (ok : NetOk N) (oo : OrdOk N.n os) : (upP N.ls os u).length ≤ 40 := by
  have e := oo.len
  have := ok.n40
  have h2 : (upP N.ls os u).length ≤ os.length := List.length_filter_le _ _
  omega
theorem pos_sorted {os : List Int} (h : os.Nodup) : os.Pairwise fun a b => posOf a os < posOf b os := by
  rw [List.pairwise_iff_getElem]
  intro i j hi hj hij
  rw [posOf_get h (List.getElem?_eq_getElem hi), posOf_get h (List.getElem?_eq_getElem hj)]
  exact hij
theorem up_sorted (oo : OrdOk N.n os) : (upP N.ls os u).Pairwise fun a b => posOf a os < posOf b os := (pos_sorted oo.nodup).filter _
end
/-! ### the program's ranks -/
def spRk (K : PySem.W.Frag) (CN : Addr) : Sp := fun vs H Q E => ∃ (p : Addr) (os : List Int), vs = [.ref p] ∧ SqL K H p (os.map V.int) ∧ os.length ≤ 100 ∧
  match badAt os with
  | some k => RaiseTo E H CN (k : Nat)
  | none => ∀ H' q, Same H H' → H q = none → H' q = some (.lst ((rk os).map V.int)) → Q (.ref q) H'
theorem posOf_new : ∀ {os : List Int} {i : Nat} {x : Int}, os[i]? = some x → x ∉ os.take i → posOf x os = i
  | [], _, _, h, _ => by simp at h
  | y :: ys, 0, x, h, _ => if_pos (Option.some.inj h)
  | y :: ys, i + 1, x, h, hn => by
    have h : ys[i]? = some x := h
    rw [List.take_succ_cons, List.mem_cons, not_or] at hn
    show (if y = x then 0 else posOf x ys + 1) = i + 1
    rw [if_neg (fun z => hn.1 z.symm), posOf_new h hn.2]
def fnd (os : List Int) (i : Nat) : List V := (rng os.length).map fun p => if p ∈ os.take i then V.int (posOf p os) else V.non
theorem fnd_len {os : List Int} {i : Nat} : (fnd os i).length = os.length := by
  unfold fnd
  rw [List.length_map, len_rng, Int.toNat_natCast]
theorem fnd_zero {os : List Int} : fnd os 0 = List.replicate os.length V.non := by
  refine List.ext_getElem (by rw [fnd_len, List.length_replicate]) fun p h1 h2 => ?_
  simp only [fnd, List.getElem_map, List.take_zero, List.not_mem_nil, if_false, List.getElem_replicate]
theorem fnd_get {os : List Int} {i : Nat} {x : Int} (h0 : 0 ≤ x) (h1 : x < (os.length : Int)) : (fnd os i)[x.toNat]? = some (if x ∈ os.take i then V.int (posOf x os) else V.non) := by
  have hl : x.toNat < (rng os.length).length := by
    rw [len_rng, Int.toNat_natCast]
    omega
  unfold fnd
  rw [List.getElem?_map, List.getElem?_eq_getElem hl, rng_get hl, show ((x.toNat : Nat) : Int) = x by omega]
  rfl
theorem fnd_succ {os : List Int} {i : Nat} {x : Int} (hx : 0 ≤ x ∧ x < (os.length : Int)) (h : os[i]? = some x) (hn : x ∉ os.take i) : fnd os (i + 1) = (fnd os i).set x.toNat (V.int i) := by
  refine List.ext_getElem (by rw [List.length_set, fnd_len, fnd_len]) fun p h1 h2 => ?_
  rw [List.getElem_set]
  simp only [fnd, List.getElem_map, rng_get]
  rw [take_snoc h]
  by_cases e : x.toNat = p
  · have e2 : (p : Int) = x := by omega
    rw [if_pos e, e2, if_pos (List.mem_append.mpr (.inr (List.mem_singleton.mpr rfl))), posOf_new h hn]
  · have e2 : ¬ (p : Int) = x := fun z => e (by omega)
    rw [if_neg e]
    by_cases c : (p : Int) ∈ os.take i
    · rw [if_pos c, if_pos (List.mem_append.mpr (.inl c))]
    · rw [if_neg c, if_neg (fun z => by
        rcases List.mem_append.mp z with z | z
        · exact c z
        · exact e2 (List.mem_singleton.mp z))]
theorem fnd_end {os : List Int} (ok : OrdOk os.length os) : fnd os os.length = (rk os).map V.int := by
  unfold fnd rk
  rw [List.take_length, List.map_map]
  exact List.map_congr_left fun p hp => if_pos (ok.mem.mpr (mem_rng.mp hp))
theorem flat_rep {x : V} : ∀ n : Nat, (List.replicate n [x]).flatten = List.replicate n x
  | 0 => rfl
  | n + 1 => by
    rw [List.replicate_succ, List.flatten_cons, flat_rep n]
    rfl
theorem vn_rep {σ : L2.St} {H : Hp} {ta tb : TE} {x : V} {n : Nat} (ha : Vl ta σ H x) (hb2 : ∀ H', Same H H' → Vl tb σ H' (.int (n : Nat))) (hn : n ≤ 1000) : Vn (tOp rRep (tLst (tCons ta tNil)) tb) σ H (List.replicate n x) := fun Q q =>
  ha _ ⟨by show 1 ≤ sizeLine; decide, fun p np => hb2 _ (same_upd np) _ ⟨p, _, _, rfl, rfl, upd_same, by omega, by omega, by
    rw [Int.toNat_natCast]
    show 1 * n ≤ sizeLine
    rw [Nat.one_mul]
    exact Nat.le_trans hn (by decide), fun t nt => by
    rw [Int.toNat_natCast, flat_rep]
    exact q t _ ((same_upd np).trans (same_upd nt)) (Same.free (same_upd np) nt) upd_same⟩⟩
abbrev sRanks : Stmt := topS 9
theorem scRanks : FnScope ["order", "n", "found", "rank", "place"] ["order"] (defScope sRanks) := ⟨rfl, rfl, rfl, by decide +kernel, rfl, by decide +kernel, by decide +kernel⟩
section
variable {P : Program} {w : World} {K : PySem.W.Frag} {mg : Str → Option Value} {base : Heap} {CN fI : Addr}
theorem ok_ranks {f : Addr} {fd : FuncData} (F : Fun K "ranks" "ranks" sRanks f fd) (hN : PySem.LowX.LowTxt K mg "NotAnOrder" CN fI) (ml : mg "len" = none) (me : mg "enumerate" = none) : FnOk P w K mg base (L2.CX P w) 2 f fd ["order"] (spRk K CN) := by
  refine F.okX scRanks (fun vs H Q E h => ?_) (fun cdv A outer s H vs Q E hr h => ?_)
  · obtain ⟨p, os, rfl, _⟩ := h
    rfl
  · obtain ⟨p, os, rfl, hS, hl, q⟩ := h
    refine ⟨_, pss_cons (ps_set (i := 1) scRanks.nd rfl (.inl rfl) (pe_callB call_len_seq (by rfl) ml PySem.boot_len (pa_cons (pv 0) pa_nil)))
      (pss_cons (ps_set (i := 2) scRanks.nd rfl (.inl rfl) (pe_op op_rep (pe_lst (pa_cons pe_non pa_nil)) (pv 1)))
      (pss_cons (ps_for (passes_of rfl) rfl (pi_enum (by rfl) me (pa_cons (pv 0) pa_nil)) (pg_tup rfl (pgs_cons (pg_name (i := 3) scRanks.nd rfl (.inl rfl)) (pgs_cons (pg_name (i := 4) scRanks.nd rfl (.inl rfl)) pgs_nil)))
      (pss_cons (ps_if (PW.pt (pw_or (pt_not (pt_chain op_le op_lt pe_int (pv 4) (pv 1))) (pw_or1 (pt_cmpR op_notN (pe_ix ix_list (pv 2) (pv 4) (fun _ _ => rfl)) pe_non (nomark _)))))
        (pss_one (ps_raiseLow rfl hN hr (takes_of rfl rfl rfl rfl) (by exact (pa_cons (pv 3) pa_nil))))
        pss_nil)
        (pss_one (ps_asg (pv 3) (pg_sub (pv 2) (pv 4) set_list)))))
      (pss_one (ps_ret (pv 2))))), ?_⟩
    refine q_asg (vl_lenI (vl_var rfl) hS) ?_
    refine q_asgN (xs := fnd os 0) (by
      rw [fnd_zero]
      exact vn_rep vl_c (fun _ _ => vl_var rfl) (by omega)) fun o H2 s2 no ho => ?_
    refine ⟨.ref p, rfl, p, _, rfl, s2.seq hS, for_en (xs := os.map V.int)
      (fun i σ H4 => ∃ y3 y4, σ = [some (.ref p), some (.int os.length), some (.ref o), y3, y4] ∧ Same H (but H4 o) ∧ H4 o = some (.lst (fnd os i)) ∧ badAt os = fb os.length (os.take i) (os.drop i) i)
      ⟨none, none, rfl, same_but s2 no, ho, rfl⟩ (fun i σ H4 hP => ?_) (fun i x T2 σ H4 hi hP nT2 => ?_) (fun σ H4 hP => ?_)⟩
    · obtain ⟨_, _, _, s4, _⟩ := hP
      exact (s4.trans but_same).seq hS
    · obtain ⟨y3, y4, rfl, s4, ho4, eb⟩ := hP
      have hi2 : i < os.length := by
        have := (List.getElem?_eq_some_iff.mp hi).1
        rw [List.length_map] at this
        exact this
      have hg : os[i]? = some os[i] := List.getElem?_eq_getElem hi2
      rw [List.getElem?_map, hg] at hi
      cases hi
      have ed : os.drop i = os[i] :: os.drop (i + 1) := List.drop_eq_getElem_cons hi2
      rw [ed] at eb
      generalize os[i] = x at hg eb ⊢
      have eb : badAt os = if (0 ≤ x ∧ x < (os.length : Int)) ∧ x ∉ os.take i then fb os.length (os.take i ++ [x]) (os.drop (i + 1)) (i + 1) else some i := eb
      have sH := s4.trans but_same
      refine ⟨T2, _, rfl, .of upd_same, rfl, _, _, rfl, _, _, rfl, rfl, ?_⟩
      have s6 : Same H4 (upd H4 T2 (.tup [.int (i : Nat), .int x])) := same_upd nT2
      have ho5 := s6 _ _ ho4
      have s46 : Same (but H4 o) (but (upd H4 T2 (.tup [.int (i : Nat), .int x])) o) := but_mono s6
      generalize upd H4 T2 (.tup [.int (i : Nat), .int x]) = H5 at s6 ho5 s46 ⊢
      refine q_when (b := !(decide ((0 : Int) ≤ x) && decide (x < (os.length : Int))) || decide (x ∈ os.take i)) ?_ (fun hb => ?_) (fun hb => ?_)
      · refine an_or (an_not (an_test (vl_chainI vl_c (vl_var rfl) (vl_var rfl)))) fun hk => ?_
        rw [Bool.not_eq_false', Bool.and_eq_true, decide_eq_true_eq, decide_eq_true_eq] at hk
        have g := atI_nat (fnd_get (i := i) hk.1 hk.2)
        rw [show ((x.toNat : Nat) : Int) = x by omega] at g
        refine (an_test (vl_notN (vl_ixL (K := K) (vl_var rfl) (vl_var rfl) (.of ho5) g))).is ?_
        by_cases c : x ∈ os.take i
        · rw [if_pos c, decide_eq_true c]
          rfl
        · rw [if_neg c, decide_eq_false c]
          rfl
      · rw [if_neg (fun c => by
          rw [decide_eq_true c.1.1, decide_eq_true c.1.2, decide_eq_false c.2] at hb
          exact absurd hb (by decide))] at eb
        rw [eb] at q
        exact raise_now (va_cons (vl_var rfl) va_nil) (q.to (sH.trans s6))
      · rw [Bool.or_eq_false_iff, Bool.not_eq_false', Bool.and_eq_true, decide_eq_true_eq, decide_eq_true_eq, decide_eq_false_iff_not] at hb
        rw [if_pos hb] at eb
        refine ⟨.int i, rfl, .ref o, rfl, .int x, rfl, o, _, x, x.toNat, rfl, rfl, ho5, ?_, ?_⟩
        · unfold ixN
          rw [if_pos hb.1.1, fnd_len, if_pos (by omega)]
        · refine ⟨_, _, rfl, ?_, ?_, ?_⟩
          · rw [but_upd]
            exact s4.trans s46
          · rw [upd_same, fnd_succ hb.1 hg hb.2]
          · rw [eb, take_snoc hg]
    · obtain ⟨y3, y4, rfl, s4, ho4, eb⟩ := hP
      rw [List.length_map] at ho4 eb
      rw [List.take_length, List.drop_length] at eb
      have eb : badAt os = none := eb
      rw [eb] at q
      rw [fnd_end (bad_none eb)] at ho4
      exact g_ret (vl_var rfl) (q H4 o (s4.trans but_same) no ho4)
end
/-! ### neighbours of the program -/
abbrev sNear : Stmt := topS 6
theorem scNear : FnScope ["net", "a", "n", "links", "found", "link"] ["net", "a"] (defScope sNear) := ⟨rfl, rfl, rfl, by decide +kernel, rfl, by decide +kernel, by decide +kernel⟩
def spNb (K : PySem.W.Frag) (CP : Addr) : Sp := fun vs H Q E => ∃ (v : V) (a : Int) (N : Net), vs = [v, .int a] ∧ Dp K H v (netD N) ∧ N.ls.length ≤ 1700 ∧
  (¬ (0 ≤ a ∧ a < N.n) → RaiseTo E H CP a) ∧ (0 ≤ a ∧ a < N.n → ∀ H' p, Same H H' → H p = none → H' p = some (.lst ((nearOf a N.ls).map V.int)) → Q (.ref p) H')
section
variable {P : Program} {w : World} {K : PySem.W.Frag} {mg : Str → Option Value} {base : Heap} {CP fI : Addr}
theorem ok_near {f : Addr} {fd : FuncData} (F : Fun K "neighbours" "neighbours" sNear f fd) (cCp : KalX P w K mg base 2 "check_places" ["n", "places"] (spChkPl K CP)) : FnOk P w K mg base (L2.CX P w) 3 f fd ["net", "a"] (spNb K CP) := by
  refine F.okX scNear (fun vs H Q E h => ?_) (fun cdv A outer s H vs Q E hr h => ?_)
  · obtain ⟨v, a, N, rfl, _⟩ := h
    rfl
  · obtain ⟨v, a, N, rfl, hN, hlen, q1, q2⟩ := h
    refine ⟨_, pss_cons (ps_asg (pv 0) (pg_tup rfl (pgs_cons (pg_name (i := 2) scNear.nd rfl (.inl rfl)) (pgs_cons (pg_name (i := 3) scNear.nd rfl (.inl rfl)) pgs_nil))))
      (pss_cons (ps_expr (pe_kx (E := E) cCp hr (by decide) (by rfl) (takes_of rfl rfl rfl rfl) (pa_cons (pv 2) (pa_cons (pe_lst (pa_cons (pv 1) pa_nil)) pa_nil))))
      (pss_cons (ps_set (i := 4) scNear.nd rfl (.inl rfl) (pe_lst pa_nil))
      (pss_cons (ps_for (passes_of rfl) rfl (pi_list (pv 3)) (pg_name (i := 5) scNear.nd rfl (.inl rfl))
        (pss_one (ps_if (pt_cmpR op_eq (pe_ix ix_tup (pv 5) pe_int (fun _ _ => rfl)) (pv 1) (nomark _))
          (pss_one (ps_expr (pe_bm PySem.F.plainAttrs_list PySem.F.slot_list_append PySem.F.type_list_append mt_append (pv 4) (pa_cons (pe_ix ix_tup (pv 5) pe_int (fun _ _ => rfl)) pa_nil))))
          (pss_one (ps_if (pt_cmpR op_eq (pe_ix ix_tup (pv 5) pe_int (fun _ _ => rfl)) (pv 1) (nomark _))
            (pss_one (ps_expr (pe_bm PySem.F.plainAttrs_list PySem.F.slot_list_append PySem.F.type_list_append mt_append (pv 4) (pa_cons (pe_ix ix_tup (pv 5) pe_int (fun _ _ => rfl)) pa_nil)))) pss_nil)))))
      (pss_one (ps_ret (pv 4)))))), ?_⟩
    obtain ⟨p, c, xs, rfl, hp, hc, hx⟩ := Dp.net_inv hN
    refine q_asgT2 (vl_var rfl) hp ?_
    refine q_chk1 (n := N.n) (a := a) (vl_var rfl) (vl_var rfl) (fun h => ?_) (fun h H0 s0 => ?_)
    · exact q1 h
    · have q := q2 h
      replace hp := seqT s0 hp
      replace hc := s0.seq hc
      replace hx := DpAll.to hx s0
      refine q_lnew fun o no => ?_
      refine q_forLk (j := 5) (Hb := H0) (vl_var rfl) hc hx (same_upd no)
        (fun i σ H3 => ∃ y5, σ = [some (.ref p), some (.int a), some (.int N.n), some (.ref c), some (.ref o), y5] ∧ Same H0 H3 ∧ H3 o = some (.lst ((nearOf a (N.ls.take i)).map V.int)))
        ⟨none, rfl, same_upd no, upd_same⟩ (fun i σ H3 hP => ?_) (fun i l t σ H3 hl ht hP => ?_) (fun σ H3 hP => ?_)
      · obtain ⟨_, _, s3, _⟩ := hP
        exact s3
      · obtain ⟨y5, rfl, s3, ho⟩ := hP
        have hi := (List.getElem?_eq_some_iff.mp hl).1
        have hsz : ((nearOf a (N.ls.take i)).map V.int).length < sizeLine := by
          rw [List.length_map]
          refine Nat.lt_of_le_of_lt (List.length_filterMap_le _ _) (Nat.lt_of_le_of_lt (m := 10000) ?_ (by decide))
          rw [List.length_take]
          omega
        have en : nearOf a (N.ls.take (i + 1)) = nearOf a (N.ls.take i) ++ (nearF a l).toList := by
          unfold nearOf
          rw [take_snoc hl, List.filterMap_append]
          cases e : nearF a l <;> simp [e]
        have e0 : Vl (tOp (rIxT K) (tVar 5) (tC (.int 0))) [some (.ref p), some (.int a), some (.int N.n), some (.ref c), some (.ref o), some (.ref t)] H3 (.int l.a) := vl_ixT (vl_var rfl) vl_c (seqT s3 ht) (atI_nat (j := 0) rfl)
        have e1 : Vl (tOp (rIxT K) (tVar 5) (tC (.int 1))) [some (.ref p), some (.int a), some (.int N.n), some (.ref c), some (.ref o), some (.ref t)] H3 (.int l.b) := vl_ixT (vl_var rfl) vl_c (seqT s3 ht) (atI_nat (j := 1) rfl)
        refine g_if (b := decide (V.int l.a = V.int a)) ?_ (fun h => ?_) (fun h => ?_)
        · exact an_test (vl_eq e0 (vl_var rfl) rfl)
        · have z := V.int.inj (of_decide_eq_true h)
          have ef : nearF a l = some l.b := if_pos z
          refine g_app (vl_var rfl) ho e1 hsz ⟨_, rfl, same_upd' s3 no, ?_⟩
          rw [upd_same, en, ef, List.map_append]
          rfl
        · have z : ¬ l.a = a := fun y => of_decide_eq_false h (congrArg V.int y)
          refine g_when (b := decide (V.int l.b = V.int a)) ?_ (fun h2 => ?_) (fun h2 => ?_)
          · exact an_test (vl_eq e1 (vl_var rfl) rfl)
          · have z2 := V.int.inj (of_decide_eq_true h2)
            have ef : nearF a l = some l.a := by
              unfold nearF
              rw [if_neg z, if_pos z2]
            refine g_app (vl_var rfl) ho e0 hsz ⟨_, rfl, same_upd' s3 no, ?_⟩
            rw [upd_same, en, ef, List.map_append]
            rfl
          · have ef : nearF a l = none := by
              unfold nearF
              rw [if_neg z, if_neg (fun y => of_decide_eq_false h2 (congrArg V.int y))]
            refine ⟨_, rfl, s3, ?_⟩
            rw [ho, en, ef]
            simp
      · obtain ⟨y5, rfl, s3, ho⟩ := hP
        rw [List.take_length] at ho
        exact g_ret (vl_var rfl) (q H3 o (s0.trans s3) (Same.free s0 no) ho)
end
/-! ### the law's links, ranks -/
structure LinkAt (H : Hp) (o : Addr) (N : Net) : Prop where
  ex : ∃ kvs, H o = some (.dK kvs) ∧ kvs.length = N.n.toNat ∧ ∀ x : Int, 0 ≤ x → x < N.n → ∃ a ns, valV kvs (.inl x) = some (.ref a) ∧ H a = some (.lst ((ns : List Int).map V.int)) ∧ ns.length ≤ 4000 ∧ ∀ y, y ∈ ns ↔ adj0 N.ls x y = true
structure RankAt (H : Hp) (o : Addr) (os : List Int) : Prop where
  ex : ∃ kvs, H o = some (.dK kvs) ∧ ∀ x ∈ os, valV kvs (.inl x) = some (.int (posOf x os : Nat))
theorem LinkAt.to {H H' : Hp} {o : Addr} {N : Net} (h : LinkAt H o N) (s : Same H H') : LinkAt H' o N := by
  obtain ⟨kvs, h1, h2, h3⟩ := h.ex
  exact ⟨kvs, s _ _ h1, h2, fun x h0 h1 => let ⟨a, ns, h4, h5, h6⟩ := h3 x h0 h1; ⟨a, ns, h4, s _ _ h5, h6⟩⟩
theorem RankAt.to {H H' : Hp} {o : Addr} {os : List Int} (h : RankAt H o os) (s : Same H H') : RankAt H' o os := by
  obtain ⟨kvs, h1, h2⟩ := h.ex
  exact ⟨kvs, s _ _ h1, h2⟩
theorem adj_take {ls : List Lnk} {i : Nat} {l : Lnk} (h : ls[i]? = some l) {x y : Int} : adj0 (ls.take (i + 1)) x y = true ↔ adj0 (ls.take i) x y = true ∨ (l.a = x ∧ l.b = y) ∨ (l.a = y ∧ l.b = x) := by
  rw [take_snoc h, adj0_iff, adj0_iff]
  constructor
  · rintro ⟨m, hm, e⟩
    rcases List.mem_append.mp hm with hm | hm
    · exact .inl ⟨m, hm, e⟩
    · rw [List.mem_singleton.mp hm] at e
      exact .inr e
  · rintro (⟨m, hm, e⟩ | e)
    · exact ⟨m, List.mem_append.mpr (.inl hm), e⟩
    · exact ⟨l, List.mem_append.mpr (.inr (List.mem_singleton.mpr rfl)), e⟩
abbrev sLinked : Stmt := topS 22
abbrev sRank : Stmt := topS 24
theorem scLinked : FnScope ["net", "linked", "place", "a", "b", "there", "back"] ["net"] (defScope sLinked) := ⟨rfl, rfl, rfl, by decide +kernel, rfl, by decide +kernel, by decide +kernel⟩
theorem scRank : FnScope ["order", "rank", "k"] ["order"] (defScope sRank) := ⟨rfl, rfl, rfl, by decide +kernel, rfl, by decide +kernel, by decide +kernel⟩
def spLinked (K : PySem.W.Frag) : Sp := fun vs H Q _ => ∃ (v : V) (N : Net), vs = [v] ∧ Dp K H v (netD N) ∧ NetOk N ∧ ∀ H' o, Same H H' → LinkAt H' o N → Q (.ref o) H'
def spRank (K : PySem.W.Frag) : Sp := fun vs H Q _ => ∃ (p : Addr) (os : List Int), vs = [.ref p] ∧ SqL K H p (os.map V.int) ∧ os.Nodup ∧ os.length ≤ 100 ∧ ∀ H' o, Same H H' → RankAt H' o os → Q (.ref o) H'
section
variable {P : Program} {w : World} {K : PySem.W.Frag} {mg : Str → Option Value} {base : Heap}
theorem ok_rank {f : Addr} {fd : FuncData} {k : Nat} (F : Fun K "_law_rank" "_law_rank" sRank f fd) (ml : mg "len" = none) (mr : mg "range" = none) : FnOk P w K mg base CX0 (k + 1) f fd ["order"] (spRank K) := by
  refine F.ok scRank (fun vs H Q E h => ?_) (fun cdv A outer s H vs Q E hr h => ?_)
  · obtain ⟨p, os, rfl, _⟩ := h
    rfl
  · obtain ⟨p, os, rfl, hS, hn, hl, q⟩ := h
    have hu := hu_of hr
    refine ⟨_, pss_cons (ps_set (i := 1) scRank.nd rfl (.inl rfl) pe_dnewK)
      (pss_cons (ps_for PassesOwn.never rfl (pi_range1 (by rfl) mr (pa_cons (pe_callB call_len_seq (by rfl) ml PySem.boot_len (pa_cons (pv 0) pa_nil)) pa_nil)) (pg_name (i := 2) scRank.nd rfl (.inl rfl))
      (pss_one (ps_dput hu (pv 1) (pe_ix ix_list (pv 0) (pv 2) (fun _ _ => rfl)) (pv 2) rfl)))
      (pss_one (ps_ret (pv 1)))), ?_⟩
    refine q_dnewK fun o no => ?_
    have so : Same H (upd H o (.dK [])) := same_upd no
    refine q_forR (n := (os.length : Int)) (va_cons (vl_lenI (vl_var rfl) (so.seq hS)) va_nil) ⟨by omega, by omega⟩
      (fun i σ H3 => ∃ y2 kvs, σ = [some (.ref p), some (.ref o), y2] ∧ H3 o = some (.dK kvs) ∧ Same H (but H3 o) ∧ kvs.length ≤ i ∧ ∀ x ∈ os.take i, valV kvs (.inl x) = some (.int (posOf x os : Nat)))
      ⟨none, [], rfl, upd_same, same_but so no, Nat.le_refl _, fun x hx => by
        rw [List.take_zero] at hx
        cases hx⟩ (fun i σ H3 hi hP => ?_) (fun σ H3 hP => ?_)
    · obtain ⟨y2, kvs, rfl, ho, s3, hk, hA⟩ := hP
      have hg : os[i]? = some os[i] := List.getElem?_eq_getElem (by omega)
      generalize os[i] = x at hg
      refine g_dputV (v := .int i) (vl_var rfl) (vl_var rfl) (vl_ixI (vl_var rfl) (vl_var rfl) ((s3.trans but_same).seq hS) hg) ho ?_ ?_
      · exact Nat.lt_of_le_of_lt (m := 10000) (by omega) (by decide)
      · refine ⟨_, _, rfl, upd_same, ?_, Nat.le_trans (length_putK _ _ _) (Nat.succ_le_succ hk), fun z hz => ?_⟩
        · rw [but_upd]
          exact s3
        · rw [valV_put]
          by_cases e : z = x
          · subst e
            rw [if_pos rfl, posOf_get hn hg]
          · rw [if_neg (fun h => e (Sum.inl.inj h))]
            rw [take_snoc hg] at hz
            rcases List.mem_append.mp hz with hz | hz
            · exact hA z hz
            · exact absurd (List.mem_singleton.mp hz) e
    · obtain ⟨y2, kvs, rfl, ho, s3, hk, hA⟩ := hP
      rw [Int.toNat_natCast, List.take_length] at hA
      exact g_ret (vl_var rfl) (q H3 o (s3.trans but_same) ⟨kvs, ho, hA⟩)
theorem ok_linked {f : Addr} {fd : FuncData} {k : Nat} (F : Fun K "_law_linked" "_law_linked" sLinked f fd) (mr : mg "range" = none) : FnOk P w K mg base CX0 (k + 1) f fd ["net"] (spLinked K) := by
  refine F.ok scLinked (fun vs H Q E h => ?_) (fun cdv A outer s H vs Q E hr h => ?_)
  · obtain ⟨v, N, rfl, _⟩ := h
    rfl
  · obtain ⟨v, N, rfl, hN, okN, q⟩ := h
    have hu := hu_of hr
    refine ⟨_, pss_cons (ps_set (i := 1) scLinked.nd rfl (.inl rfl) pe_dnewK)
      (pss_cons (ps_for PassesOwn.never rfl (pi_range1 (by rfl) mr (pa_cons (pe_ix ix_tup (pv 0) pe_int (fun _ _ => rfl)) pa_nil)) (pg_name (i := 2) scLinked.nd rfl (.inl rfl))
      (pss_one (ps_dput hu (pv 1) (pv 2) (pe_lst pa_nil) rfl)))
      (pss_cons (ps_for PassesOwn.never rfl (pi_list (pe_ix ix_tup (pv 0) pe_int (fun _ _ => rfl))) (pg_tup rfl (pgs_cons (pg_name (i := 3) scLinked.nd rfl (.inl rfl)) (pgs_cons (pg_name (i := 4) scLinked.nd rfl (.inl rfl)) (pgs_cons (pg_name (i := 5) scLinked.nd rfl (.inl rfl)) (pgs_cons (pg_name (i := 6) scLinked.nd rfl (.inl rfl)) pgs_nil)))))
      (pss_cons (ps_dput hu (pv 1) (pv 3) (pe_op op_cat (pe_dget hu (pv 1) (pv 3) (fun _ _ => rfl)) (pe_lst (pa_cons (pv 4) pa_nil))) rfl)
        (pss_one (ps_dput hu (pv 1) (pv 4) (pe_op op_cat (pe_dget hu (pv 1) (pv 4) (fun _ _ => rfl)) (pe_lst (pa_cons (pv 3) pa_nil))) rfl))))
      (pss_one (ps_ret (pv 1))))), ?_⟩
    obtain ⟨p, c, xs, rfl, hp, hc, hx⟩ := Dp.net_inv hN
    have n1 := okN.n1
    have n40 := okN.n40
    have l16 := okN.len
    refine q_dnewK fun o no => ?_
    have so : Same H (upd H o (.dK [])) := same_upd no
    refine q_forR (n := N.n) (va_cons (vl_ixT (vl_var rfl) vl_c (seqT so hp) (atI_nat (j := 0) rfl)) va_nil) ⟨by omega, by omega⟩
      (fun i σ H3 => ∃ y2 kvs, σ = [some (.ref p), some (.ref o), y2, none, none, none, none] ∧ H3 o = some (.dK kvs) ∧ Same H (but H3 o) ∧ kvs.length = i ∧ (∀ x : Int, (i : Int) ≤ x → valV kvs (.inl x) = none) ∧ ∀ x : Int, 0 ≤ x → x < i → ∃ a, valV kvs (.inl x) = some (.ref a) ∧ but H3 o a = some (.lst (([] : List Int).map V.int)))
      ⟨none, [], rfl, upd_same, same_but so no, rfl, fun _ _ => rfl, fun x h0 h1 => by omega⟩ (fun i σ H3 hi hP => ?_) (fun σ H3 hP => ?_)
    · obtain ⟨y2, kvs, rfl, ho, s3, hk, hN, hA⟩ := hP
      refine g_dputN (xs := ([] : List Int).map V.int) (vn_lst va_nil (Nat.zero_le _)) (fun _ _ => vl_var rfl) (fun _ _ => vl_var rfl) ho ?_ (fun a H4 s4 na ea => ?_)
      · exact Nat.lt_of_le_of_lt (m := 10000) (by omega) (by decide)
      · have oa : o ≠ a := ne_of_none ho na
        refine ⟨_, _, rfl, upd_same, ?_, ?_, fun x hx => ?_, fun x h0 h1 => ?_⟩
        · rw [but_upd]
          exact s3.trans (but_mono s4)
        · rw [putK_new _ (hN i (Int.le_refl _)), List.length_append, hk]
          rfl
        · rw [valV_put, if_neg (fun z => by
            have := Sum.inl.inj z
            omega)]
          exact hN x (by omega)
        · rw [valV_put, but_upd]
          by_cases e : x = (i : Int)
          · rw [if_pos (by rw [e])]
            exact ⟨a, rfl, by rw [but_ne oa.symm, ea]⟩
          · rw [if_neg (fun z => e (Sum.inl.inj z))]
            obtain ⟨b, hb1, hb2⟩ := hA x h0 (by omega)
            exact ⟨b, hb1, but_mono s4 _ _ hb2⟩
    · obtain ⟨y2, kvs, rfl, ho, s3, hk, hN, hA⟩ := hP
      rw [show ((N.n.toNat : Nat) : Int) = N.n by omega] at hA
      have sH := s3.trans but_same
      refine q_forLnk (j1 := 3) (j2 := 4) (j3 := 5) (j4 := 6) (Hb := H) (vl_ixT (vl_var rfl) vl_c (seqT sH hp) (atI_nat (j := 1) rfl)) hc hx sH
        (fun i σ H3 => ∃ y2 y3 y4 y5 y6 kvs near, σ = [some (.ref p), some (.ref o), y2, y3, y4, y5, y6] ∧ H3 o = some (.dK kvs) ∧ Same H (but H3 o) ∧ kvs.length = N.n.toNat ∧ ∀ x : Int, 0 ≤ x → x < N.n → ∃ a, valV kvs (.inl x) = some (.ref a) ∧ but H3 o a = some (.lst ((near x : List Int).map V.int)) ∧ (near x).length ≤ i ∧ ∀ y, y ∈ near x ↔ adj0 (N.ls.take i) x y = true)
        ⟨_, _, _, _, _, kvs, fun _ => [], rfl, ho, s3, hk, fun x h0 h1 => by
          obtain ⟨a, h2, h3⟩ := hA x h0 h1
          exact ⟨a, h2, h3, Nat.le_refl _, fun y => ⟨fun h => (nomatch h), fun h => (nomatch h)⟩⟩⟩ (fun i σ H3 hP => ?_) (fun i l σ H3 hl hP => ?_) (fun σ H3 hP => ?_)
      · obtain ⟨_, _, _, _, _, _, _, _, _, s4, _⟩ := hP
        exact s4.trans but_same
      · obtain ⟨y2, y3, y4, y5, y6, kvs, near, rfl, ho, s3, hk, hA⟩ := hP
        have hi := (List.getElem?_eq_some_iff.mp hl).1
        have hlk := okN.ok l (List.mem_of_getElem? hl)
        have h0 := hlk.a0
        have hab := hlk.ab
        have hbn := hlk.bn
        obtain ⟨aa, ha1, ha2, ha3, ha4⟩ := hA l.a (by omega) (by omega)
        refine q_dputN (xs := (near l.a ++ [l.b]).map V.int) (vn_catL (vl_dgetI (vl_var rfl) (vl_var rfl) ho ha1) (but_same _ _ ha2) (vn_oneI (vl_var rfl)) ?_) (fun _ _ => vl_var rfl) (fun _ _ => vl_var rfl) ho ?_ (fun a H4 s4 na ea => ?_)
        · show _ + 1 ≤ 1000000
          omega
        · exact Nat.lt_of_le_of_lt (m := 10000) (by omega) (by decide)
        have oa : o ≠ a := ne_of_none ho na
        have hA4 : ∀ x : Int, 0 ≤ x → x < N.n → ∃ b, valV (putK kvs (.inl l.a) (.ref a)) (.inl x) = some (.ref b) ∧ but (upd H4 o (.dK (putK kvs (.inl l.a) (.ref a)))) o b = some (.lst ((if x = l.a then near l.a ++ [l.b] else near x).map V.int)) := fun x h0 h1 => by
          rw [valV_put, but_upd]
          by_cases e : x = l.a
          · rw [if_pos (by rw [e]), if_pos e]
            exact ⟨a, rfl, by rw [but_ne oa.symm, ea]⟩
          · rw [if_neg (fun z => e (Sum.inl.inj z)), if_neg e]
            obtain ⟨b, hb1, hb2, _⟩ := hA x h0 h1
            exact ⟨b, hb1, but_mono s4 _ _ hb2⟩
        have hk4 : (putK kvs (.inl l.a) (.ref a)).length = N.n.toNat := by
          rw [putK_len (by rw [ha1]; rfl)]
          exact hk
        have s34 : Same H (but (upd H4 o (.dK (putK kvs (.inl l.a) (.ref a)))) o) := by
          rw [but_upd]
          exact s3.trans (but_mono s4)
        have ho4 : upd H4 o (.dK (putK kvs (.inl l.a) (.ref a))) o = some (.dK (putK kvs (.inl l.a) (.ref a))) := upd_same
        generalize upd H4 o (.dK (putK kvs (.inl l.a) (.ref a))) = H5 at hA4 s34 ho4 ⊢
        generalize putK kvs (.inl l.a) (.ref a) = kv5 at hA4 hk4 ho4
        obtain ⟨ab, hb1, hb2⟩ := hA4 l.b (by omega) hbn
        rw [if_neg (show ¬ l.b = l.a by omega)] at hb2
        have hbl := (hA l.b (by omega) hbn).choose_spec.2.2.1
        refine g_dputN (xs := (near l.b ++ [l.a]).map V.int) (vn_catL (vl_dgetI (vl_var rfl) (vl_var rfl) ho4 hb1) (but_same _ _ hb2) (vn_oneI (vl_var rfl)) ?_) (fun _ _ => vl_var rfl) (fun _ _ => vl_var rfl) ho4 ?_ (fun a6 H6 s6 na6 ea6 => ?_)
        · show _ + 1 ≤ 1000000
          omega
        · exact Nat.lt_of_le_of_lt (m := 10000) (by omega) (by decide)
        have oa6 : o ≠ a6 := ne_of_none ho4 na6
        refine ⟨_, _, _, _, _, _, fun x => if x = l.b then near l.b ++ [l.a] else if x = l.a then near l.a ++ [l.b] else near x, rfl, upd_same, ?_, ?_, fun x h0 h1 => ?_⟩
        · rw [but_upd]
          exact s34.trans (but_mono s6)
        · rw [putK_len (by rw [hb1]; rfl)]
          exact hk4
        · rw [valV_put, but_upd]
          show ∃ a, _ ∧ _ = some (HO.lst (((if x = l.b then near l.b ++ [l.a] else if x = l.a then near l.a ++ [l.b] else near x) : List Int).map V.int)) ∧ ((if x = l.b then near l.b ++ [l.a] else if x = l.a then near l.a ++ [l.b] else near x) : List Int).length ≤ i + 1 ∧ ∀ y, y ∈ ((if x = l.b then near l.b ++ [l.a] else if x = l.a then near l.a ++ [l.b] else near x) : List Int) ↔ _
          by_cases e : x = l.b
          · subst e
            rw [if_pos rfl, if_pos rfl]
            obtain ⟨_, _, _, h5, h6⟩ := hA l.b h0 h1
            refine ⟨a6, rfl, by rw [but_ne oa6.symm, ea6], ?_, fun y => ?_⟩
            · rw [List.length_append]
              exact Nat.succ_le_succ h5
            · rw [adj_take hl, List.mem_append, List.mem_singleton, h6 y]
              constructor
              · rintro (h | h)
                · exact .inl h
                · exact .inr (.inr ⟨h.symm, rfl⟩)
              · rintro (h | h | h)
                · exact .inl h
                · omega
                · exact .inr h.1.symm
          · rw [if_neg (fun z => e (Sum.inl.inj z)), if_neg e]
            obtain ⟨b, hb3, hb4⟩ := hA4 x h0 h1
            obtain ⟨_, _, _, h5, h6⟩ := hA x h0 h1
            refine ⟨b, hb3, but_mono s6 _ _ hb4, ?_, fun y => ?_⟩
            · by_cases e2 : x = l.a
              · subst e2
                rw [if_pos rfl, List.length_append]
                exact Nat.succ_le_succ h5
              · rw [if_neg e2]
                omega
            · rw [adj_take hl]
              by_cases e2 : x = l.a
              · subst e2
                rw [if_pos rfl, List.mem_append, List.mem_singleton, h6 y]
                constructor
                · rintro (h | h)
                  · exact .inl h
                  · exact .inr (.inl ⟨rfl, h.symm⟩)
                · rintro (h | h | h)
                  · exact .inl h
                  · exact .inr h.2.symm
                  · omega
              · rw [if_neg e2, h6 y]
                constructor
                · exact .inl
                · rintro (h | h | h)
                  · exact h
                  · exact absurd h.1.symm e2
                  · exact absurd h.2.symm e
      · obtain ⟨y2, y3, y4, y5, y6, kvs, near, rfl, ho, s3, hk, hA⟩ := hP
        rw [List.take_length] at hA
        refine g_ret (vl_var rfl) (q H3 o (s3.trans but_same) ⟨kvs, ho, hk, fun x h0 h1 => ?_⟩)
        obtain ⟨a, h2, h3, h4, h5⟩ := hA x h0 h1
        exact ⟨a, near x, h2, but_same _ _ h3, by omega, h5⟩
end
/-! ### what is reached over lower places -/
structure BfsAt (N : Net) (os : List Int) (u : Int) (inner found : List Int) : Prop where
  i0 : inner[0]? = some u
  ind : inner.Nodup
  iin : ∀ x ∈ inner, 0 ≤ x ∧ x < N.n
  irc : ∀ x ∈ inner, x = u ∨ (posOf x os < posOf u os ∧ Rch (adj0 N.ls) (fun z => posOf z os < posOf u os) u x)
  fnd : found.Nodup
  frc : ∀ v ∈ found, PairP N.ls os u v
def Seen (os : List Int) (u : Int) (inner found : List Int) (o : Int) : Prop := (posOf u os < posOf o os → o ∈ found) ∧ (posOf o os < posOf u os → o ∈ inner)
def BfsDone (N : Net) (os : List Int) (u : Int) (inner found : List Int) (t : Nat) : Prop := ∀ j, j < t → ∀ x, inner[j]? = some x → ∀ o, adj0 N.ls x o = true → Seen os u inner found o
section
variable {N : Net} {os : List Int} {u : Int} {inner found : List Int}
theorem nodup_snoc {xs : List Int} {o : Int} (h : xs.Nodup) (n : o ∉ xs) : (xs ++ [o]).Nodup := List.nodup_append.mpr ⟨h, List.nodup_cons.mpr ⟨List.not_mem_nil, .nil⟩, fun a ha b hb e => n (by
  rw [List.mem_singleton] at hb
  rw [← hb, ← e]
  exact ha)⟩
theorem BfsAt.find (ok : NetOk N) (h : BfsAt N os u inner found) {x o : Int} (hx : x ∈ inner) (a : adj0 N.ls x o = true) (hi : posOf u os < posOf o os) (n : o ∉ found) : BfsAt N os u inner (found ++ [o]) :=
  ⟨h.i0, h.ind, h.iin, h.irc, nodup_snoc h.fnd n, fun v hv => by
    rcases List.mem_append.mp hv with hv | hv
    · exact h.frc v hv
    · rw [List.mem_singleton.mp hv]
      rcases h.irc x hx with e | ⟨l, r⟩
      · subst e
        exact ⟨hi, .one a⟩
      · exact ⟨hi, .step r l a⟩⟩
theorem BfsAt.grow (ok : NetOk N) (h : BfsAt N os u inner found) {x o : Int} (hx : x ∈ inner) (a : adj0 N.ls x o = true) (lo : posOf o os < posOf u os) (n : o ∉ inner) : BfsAt N os u (inner ++ [o]) found :=
  ⟨by
    have := h.i0
    rw [List.getElem?_append_left (List.getElem?_eq_some_iff.mp this).1]
    exact this, nodup_snoc h.ind n, fun z hz => by
    rcases List.mem_append.mp hz with hz | hz
    · exact h.iin z hz
    · rw [List.mem_singleton.mp hz]
      exact (adj0_in ok a).2.1, fun z hz => by
    rcases List.mem_append.mp hz with hz | hz
    · exact h.irc z hz
    · rw [List.mem_singleton.mp hz]
      right
      rcases h.irc x hx with e | ⟨l, r⟩
      · subst e
        exact ⟨lo, .one a⟩
      · exact ⟨lo, .step r l a⟩, h.fnd, h.frc⟩
theorem BfsAt.len (h : BfsAt N os u inner found) : inner.length ≤ N.n.toNat := by
  have := sub_len (ys := rng N.n) h.ind fun x hx => mem_rng.mpr (h.iin x hx)
  rw [len_rng] at this
  exact this
theorem BfsAt.flen (ok : NetOk N) (h : BfsAt N os u inner found) : found.length ≤ N.n.toNat := by
  have := sub_len (ys := rng N.n) h.fnd fun x hx => mem_rng.mpr ((h.frc x hx).ins ok).2
  rw [len_rng] at this
  exact this
theorem bfs_all (ok : NetOk N) (h : BfsAt N os u inner found) (d : BfsDone N os u inner found N.n.toNat) : ∀ v, Rch (adj0 N.ls) (fun z => posOf z os < posOf u os) u v → Seen os u inner found v := by
  have all : ∀ x ∈ inner, ∀ o, adj0 N.ls x o = true → Seen os u inner found o := fun x hx o a => by
    obtain ⟨j, hj, e⟩ := List.getElem_of_mem hx
    have hl := h.len
    exact d j (by omega) x (by rw [List.getElem?_eq_getElem hj, e]) o a
  intro v hv
  induction hv with
  | one a => exact all u (List.mem_of_getElem? h.i0) _ a
  | step _ l a ih => exact all _ (ih.2 l) _ a
theorem bfs_iff (ok : NetOk N) (h : BfsAt N os u inner found) (d : BfsDone N os u inner found N.n.toNat) (v : Int) : v ∈ found ↔ PairP N.ls os u v :=
  ⟨h.frc v, fun p => (bfs_all ok h d v p.2).1 p.1⟩
end
abbrev sReached : Stmt := topS 23
theorem scReached : FnScope ["linked", "rank", "u", "inner", "found", "turn", "other"] ["linked", "rank", "u"] (defScope sReached) := ⟨rfl, rfl, rfl, by decide +kernel, rfl, by decide +kernel, by decide +kernel⟩
def spReached (K : PySem.W.Frag) : Sp := fun vs H Q _ => ∃ (lk rd : Addr) (u : Int) (N : Net) (os : List Int), vs = [.ref lk, .ref rd, .int u] ∧ LinkAt H lk N ∧ RankAt H rd os ∧ NetOk N ∧ OrdOk N.n os ∧ 0 ≤ u ∧ u < N.n ∧
  ∀ H' p fs, Same H H' → H' p = some (.lst ((fs : List Int).map V.int)) → (∀ v, v ∈ fs ↔ PairP N.ls os u v) → fs.length ≤ 40 → Q (.ref p) H'
section
variable {P : Program} {w : World} {K : PySem.W.Frag} {mg : Str → Option Value} {base : Heap}
theorem ok_reached {f : Addr} {fd : FuncData} {k : Nat} (F : Fun K "_law_reached" "_law_reached" sReached f fd) (ml : mg "len" = none) (mr : mg "range" = none) : FnOk P w K mg base CX0 (k + 1) f fd ["linked", "rank", "u"] (spReached K) := by
  refine F.ok scReached (fun vs H Q E h => ?_) (fun cdv A outer s H vs Q E hr h => ?_)
  · obtain ⟨lk, rd, u, N, os, rfl, _⟩ := h
    rfl
  · obtain ⟨lk, rd, u, N, os, rfl, hL, hR, ok, oo, u0, u1, q⟩ := h
    have hu := hu_of hr
    refine ⟨_, pss_cons (ps_set (i := 3) scReached.nd rfl (.inl rfl) (pe_lst (pa_cons (pv 2) pa_nil)))
      (pss_cons (ps_set (i := 4) scReached.nd rfl (.inl rfl) (pe_lst pa_nil))
      (pss_cons (ps_for PassesOwn.never rfl (pi_range1 (by rfl) mr (pa_cons (pe_callB call_lenD (by rfl) ml PySem.boot_len (pa_cons (pv 0) pa_nil)) pa_nil)) (pg_name (i := 5) scReached.nd rfl (.inl rfl))
      (pss_one (ps_if (pt_cmpR op_lt (pv 5) (pe_callB call_len_seq (by rfl) ml PySem.boot_len (pa_cons (pv 3) pa_nil)) (nomark _))
        (pss_one (ps_for PassesOwn.never rfl (pi_list (pe_dget hu (pv 0) (pe_ix ix_list (pv 3) (pv 5) (fun _ _ => rfl)) (fun _ _ => rfl))) (pg_name (i := 6) scReached.nd rfl (.inl rfl))
          (Evl.pss_cut (ps_if (PW.pt (pw_and (pt_cmpR op_gt (pe_dget hu (pv 1) (pv 6) (fun _ _ => rfl)) (pe_dget hu (pv 1) (pv 2) (fun _ _ => rfl)) (nomark _)) (pw_and1 (pt_cmpR op_notIn_seq (pv 6) (pv 4) (by rfl)))))
            (pss_one (ps_set (i := 4) scReached.nd rfl (.inl rfl) (pe_op op_cat (pv 4) (pe_lst (pa_cons (pv 6) pa_nil)))))
            pss_nil)
            (pss_one (ps_if (PW.pt (pw_and (pt_cmpR op_lt (pe_dget hu (pv 1) (pv 6) (fun _ _ => rfl)) (pe_dget hu (pv 1) (pv 2) (fun _ _ => rfl)) (nomark _)) (pw_and1 (pt_cmpR op_notIn_seq (pv 6) (pv 3) (by rfl)))))
            (pss_one (ps_set (i := 3) scReached.nd rfl (.inl rfl) (pe_op op_cat (pv 3) (pe_lst (pa_cons (pv 6) pa_nil)))))
            pss_nil)))))
        pss_nil)))
      (pss_one (ps_ret (pv 4))))), ?_⟩
    have n40 := ok.n40
    have uo := oo.mem.mpr ⟨u0, u1⟩
    obtain ⟨kl, hl1, hl2, hl3⟩ := hL.ex
    obtain ⟨kr, hr1, hr2⟩ := hR.ex
    refine q_asgN (vn_oneI (vl_var rfl)) fun pi H1 s1 n1 e1 => ?_
    refine q_lnew fun pf nf => ?_
    have s2 : Same H1 (upd H1 pf (.lst [])) := same_upd nf
    refine q_forR (n := (kl.length : Int)) (va_cons (vl_cb (va_cons (vl_var rfl) va_nil) fun _ k => ⟨lk, kl, rfl, (s1.trans s2) _ _ hl1, k⟩) va_nil) ⟨by omega, by omega⟩
      (fun i σ H3 => ∃ y5 y6 pi pf inner found, σ = [some (.ref lk), some (.ref rd), some (.int u), some (.ref pi), some (.ref pf), y5, y6] ∧ Same H H3 ∧ H3 pi = some (.lst ((inner : List Int).map V.int)) ∧ H3 pf = some (.lst ((found : List Int).map V.int)) ∧ BfsAt N os u inner found ∧ BfsDone N os u inner found i)
      ⟨none, none, pi, pf, [u], [], rfl, s1.trans s2, s2 _ _ e1, upd_same, ⟨rfl, List.nodup_cons.mpr ⟨List.not_mem_nil, .nil⟩, fun x hx => by
        rw [List.mem_singleton.mp hx]
        exact ⟨u0, u1⟩, fun x hx => .inl (List.mem_singleton.mp hx), .nil, fun v hv => (nomatch hv)⟩, fun j hj => absurd hj (Nat.not_lt_zero _)⟩ (fun i σ H3 hi hP => ?_) (fun σ H3 hP => ?_)
    · obtain ⟨y5, y6, pi, pf, inner, found, rfl, s3, hpi, hpf, hB, hD⟩ := hP
      refine g_when (b := decide ((i : Int) < (inner.length : Int))) (an_test (vl_I0 (vl_var rfl) (vl_lenI (vl_var rfl) (.of hpi)))) (fun hb => ?_) (fun hb => ?_)
      · have hb := of_decide_eq_true hb
        have hg : inner[i]? = some inner[i] := List.getElem?_eq_getElem (by omega)
        generalize inner[i] = x at hg
        have hxi := List.mem_of_getElem? hg
        have hxr := hB.iin x hxi
        obtain ⟨a, ns, h4, h5, h6, h7⟩ := hl3 x hxr.1 hxr.2
        have vk : ∀ (σ' : L2.St) (i : Nat) (z : Int) (H' : Hp), Same H H' → σ'[1]? = some (some (.ref rd)) → σ'[i]? = some (some (.int z)) → z ∈ os → Vl (tDGet (tVar 1) (tVar i)) σ' H' (.int (posOf z os : Nat)) := fun σ' i z H' s' e1 e2 hz => vl_dgetI (vl_var e1) (vl_var e2) (s' _ _ hr1) (hr2 z hz)
        refine g_forL (xs := ns.map V.int) (vl_dgetI (vl_var rfl) (vl_ixI (vl_var rfl) (vl_var rfl) (.of hpi) hg) (s3 _ _ hl1) h4) (.of (s3 _ _ h5))
          (fun j σ' H' => ∃ y6 pi pf inner found, σ' = [some (.ref lk), some (.ref rd), some (.int u), some (.ref pi), some (.ref pf), some (.int i), y6] ∧ Same H H' ∧ H' pi = some (.lst ((inner : List Int).map V.int)) ∧ H' pf = some (.lst ((found : List Int).map V.int)) ∧ BfsAt N os u inner found ∧ BfsDone N os u inner found i ∧ inner[i]? = some x ∧ ∀ o ∈ ns.take j, Seen os u inner found o)
          ⟨_, pi, pf, inner, found, rfl, s3, hpi, hpf, hB, hD, hg, fun o ho => by
            rw [List.take_zero] at ho
            cases ho⟩ (fun j σ' H' hP => ?_) (fun j y σ' H' hy hP => ?_) (fun σ' H' hP => ?_)
        · obtain ⟨_, _, _, _, _, _, s', _⟩ := hP
          exact .of (s' _ _ h5)
        · obtain ⟨y6, pi, pf, inner, found, rfl, s', hpi, hpf, hB, hD, hg, hS⟩ := hP
          rw [List.getElem?_map] at hy
          cases hgo : ns[j]? with
          | none =>
            rw [hgo] at hy
            cases hy
          | some o =>
            rw [hgo] at hy
            cases hy
            have hadj := (h7 o).mp (List.mem_of_getElem? hgo)
            have hor := (adj0_in ok hadj).2.1
            have hoo := oo.mem.mpr hor
            have hxi := List.mem_of_getElem? hg
            have hfl := hB.flen ok
            have hil := hB.len
            -- found
            refine q_cut (M := fun σ2 H2 => ∃ pf found, σ2 = [some (.ref lk), some (.ref rd), some (.int u), some (.ref pi), some (.ref pf), some (.int i), some (.int o)] ∧ Same H H2 ∧ H2 pi = some (.lst (inner.map V.int)) ∧ H2 pf = some (.lst ((found : List Int).map V.int)) ∧ BfsAt N os u inner found ∧ BfsDone N os u inner found i ∧ (∀ z ∈ ns.take j, Seen os u inner found z) ∧ (posOf u os < posOf o os → o ∈ found)) ?_ ?_
            · refine g_when (b := decide (((posOf u os : Nat) : Int) < (posOf o os : Nat)) && !decide (o ∈ found)) ?_ (fun hb => ?_) (fun hb => ?_)
              · exact an_and (an_test (vl_I0 (vk _ 6 o H' s' rfl rfl hoo) (vk _ 2 u H' s' rfl rfl uo))) fun _ => an_test (vl_notInI (vl_var rfl) (vl_var rfl) (.of hpf))
              · rw [Bool.and_eq_true, decide_eq_true_eq, Bool.not_eq_true', decide_eq_false_iff_not] at hb
                have hlt : posOf u os < posOf o os := by omega
                refine g_asgN (vn_catL (vl_var rfl) hpf (vn_oneI (vl_var rfl)) ?_) fun p2 H2 s2 n2 e2 => ?_
                · show _ + 1 ≤ 1000000
                  omega
                · refine ⟨p2, found ++ [o], rfl, s'.trans s2, s2 _ _ hpi, e2, hB.find ok hxi hadj hlt hb.2, fun j' hj' z hz w hw => ?_, fun z hz => ?_, fun _ => List.mem_append.mpr (.inr (List.mem_singleton.mpr rfl))⟩
                  · have := hD j' hj' z hz w hw
                    exact ⟨fun h => List.mem_append.mpr (.inl (this.1 h)), this.2⟩
                  · have := hS z hz
                    exact ⟨fun h => List.mem_append.mpr (.inl (this.1 h)), this.2⟩
              · refine ⟨pf, found, rfl, s', hpi, hpf, hB, hD, hS, fun h => ?_⟩
                rw [Bool.and_eq_false_iff, decide_eq_false_iff_not, Bool.not_eq_false', decide_eq_true_eq] at hb
                rcases hb with hb | hb
                · omega
                · exact hb
            · rintro σ2 H2 ⟨pf, found, rfl, s2, hpi, hpf, hB, hD, hS, hF⟩
              refine g_when (b := decide (((posOf o os : Nat) : Int) < (posOf u os : Nat)) && !decide (o ∈ inner)) ?_ (fun hb => ?_) (fun hb => ?_)
              · exact an_and (an_test (vl_I0 (vk _ 6 o H2 s2 rfl rfl hoo) (vk _ 2 u H2 s2 rfl rfl uo))) fun _ => an_test (vl_notInI (vl_var rfl) (vl_var rfl) (.of hpi))
              · rw [Bool.and_eq_true, decide_eq_true_eq, Bool.not_eq_true', decide_eq_false_iff_not] at hb
                have hlt : posOf o os < posOf u os := by omega
                refine g_asgN (vn_catL (vl_var rfl) hpi (vn_oneI (vl_var rfl)) ?_) fun p2 H4 s4 n2 e2 => ?_
                · show _ + 1 ≤ 1000000
                  omega
                · have keep : ∀ {j' : Nat} {z : Int}, j' < inner.length → (inner ++ [o])[j']? = some z → inner[j']? = some z := fun hj h => by
                    rw [List.getElem?_append_left hj] at h
                    exact h
                  have hil2 := (List.getElem?_eq_some_iff.mp hg).1
                  refine ⟨_, p2, pf, inner ++ [o], found, rfl, s2.trans s4, e2, s4 _ _ hpf, hB.grow ok hxi hadj hlt hb.2, fun j' hj' z hz w hw => ?_, ?_, fun z hz => ?_⟩
                  · have := hD j' hj' z (keep (by omega) hz) w hw
                    exact ⟨this.1, fun h => List.mem_append.mpr (.inl (this.2 h))⟩
                  · rw [List.getElem?_append_left hil2]
                    exact hg
                  · rw [take_snoc hgo] at hz
                    rcases List.mem_append.mp hz with hz | hz
                    · have := hS z hz
                      exact ⟨this.1, fun h => List.mem_append.mpr (.inl (this.2 h))⟩
                    · rw [List.mem_singleton.mp hz]
                      exact ⟨hF, fun _ => List.mem_append.mpr (.inr (List.mem_singleton.mpr rfl))⟩
              · refine ⟨_, pi, pf, inner, found, rfl, s2, hpi, hpf, hB, hD, hg, fun z hz => ?_⟩
                rw [take_snoc hgo] at hz
                rcases List.mem_append.mp hz with hz | hz
                · exact hS z hz
                · rw [List.mem_singleton.mp hz]
                  refine ⟨hF, fun h => ?_⟩
                  rw [Bool.and_eq_false_iff, decide_eq_false_iff_not, Bool.not_eq_false', decide_eq_true_eq] at hb
                  rcases hb with hb | hb
                  · omega
                  · exact hb
        · obtain ⟨y6, pi, pf, inner, found, rfl, s', hpi, hpf, hB, hD, hg, hS⟩ := hP
          rw [List.length_map, List.take_length] at hS
          refine ⟨_, _, pi, pf, inner, found, rfl, s', hpi, hpf, hB, fun j hj z hz w hw => ?_⟩
          by_cases e : j = i
          · subst e
            cases hg.symm.trans hz
            exact hS w ((h7 w).mpr hw)
          · exact hD j (by omega) z hz w hw
      · have hb := of_decide_eq_false hb
        refine ⟨_, _, pi, pf, inner, found, rfl, s3, hpi, hpf, hB, fun j hj z hz w hw => ?_⟩
        have := (List.getElem?_eq_some_iff.mp hz).1
        exact hD j (by omega) z hz w hw
    · obtain ⟨y5, y6, pi, pf, inner, found, rfl, s3, hpi, hpf, hB, hD⟩ := hP
      rw [Int.toNat_natCast, hl2] at hD
      have := hB.flen ok
      exact g_ret (vl_var rfl) (q H3 pf found s3 hpf (bfs_iff ok hB hD) (by omega))
end
/-! ### the law's upper neighbours -/
structure UpAt (H : Hp) (o : Addr) (ls : List Lnk) (os : List Int) : Prop where
  ex : ∃ kvs, H o = some (.dK kvs) ∧ kvs.map (·.1) = os.map Sum.inl ∧ ∀ x ∈ os, ∃ a, valV kvs (.inl x) = some (.ref a) ∧ H a = some (.lst ((upP ls os x).map V.int))
theorem UpAt.to {H H' : Hp} {o : Addr} {ls : List Lnk} {os : List Int} (h : UpAt H o ls os) (s : Same H H') : UpAt H' o ls os := by
  obtain ⟨kvs, h1, h2, h3⟩ := h.ex
  exact ⟨kvs, s _ _ h1, h2, fun x hx => let ⟨a, h4, h5⟩ := h3 x hx; ⟨a, h4, s _ _ h5⟩⟩
abbrev sUpperL : Stmt := topS 25
theorem scUpperL : FnScope ["net", "order", "rank", "linked", "upper", "u", "found", "other"] ["net", "order"] (defScope sUpperL) := ⟨rfl, rfl, rfl, by decide +kernel, rfl, by decide +kernel, by decide +kernel⟩
def spUpperL (K : PySem.W.Frag) : Sp := fun vs H Q _ => ∃ (v : V) (N : Net) (p : Addr) (os : List Int), vs = [v, .ref p] ∧ Dp K H v (netD N) ∧ NetOk N ∧ SqL K H p (os.map V.int) ∧ OrdOk N.n os ∧ ∀ H' o, Same H H' → UpAt H' o N.ls os → Q (.ref o) H'
section
variable {P : Program} {w : World} {K : PySem.W.Frag} {mg : Str → Option Value} {base : Heap}
theorem ok_upperL {f : Addr} {fd : FuncData} (F : Fun K "_law_upper" "_law_upper" sUpperL f fd) (c_law_rank : Kal P w K mg base 1 "_law_rank" ["order"] (spRank K)) (c_law_linked : Kal P w K mg base 1 "_law_linked" ["net"] (spLinked K)) (c_law_reached : Kal P w K mg base 1 "_law_reached" ["linked", "rank", "u"] (spReached K)) : FnOk P w K mg base CX0 2 f fd ["net", "order"] (spUpperL K) := by
  refine F.ok scUpperL (fun vs H Q E h => ?_) (fun cdv A outer s H vs Q E hr h => ?_)
  · obtain ⟨v, N, p, os, rfl, _⟩ := h
    rfl
  · obtain ⟨v, N, p, os, rfl, hN, ok, hS, oo, q⟩ := h
    have hu := hu_of hr
    refine ⟨_, pss_cons (ps_set (i := 2) scUpperL.nd rfl (.inl rfl) (pe_k c_law_rank hr (by first | decide | omega) (by rfl) (pa_cons (pv 1) pa_nil)))
      (pss_cons (ps_set (i := 3) scUpperL.nd rfl (.inl rfl) (pe_k c_law_linked hr (by first | decide | omega) (by rfl) (pa_cons (pv 0) pa_nil)))
      (pss_cons (ps_set (i := 4) scUpperL.nd rfl (.inl rfl) pe_dnewK)
      (pss_cons (ps_for PassesOwn.never rfl (pi_list (pv 1)) (pg_name (i := 5) scUpperL.nd rfl (.inl rfl))
      (pss_cons (ps_set (i := 6) scUpperL.nd rfl (.inr rfl) (pe_k c_law_reached hr (by first | decide | omega) (by rfl) (pa_cons (pv 3) (pa_cons (pv 2) (pa_cons (pv 5) pa_nil)))))
        (pss_one (ps_dput hu (pv 4) (pv 5) (pe_lc (own := [("other", 7)]) (g := gName 7) (tt := (tTest (tOp (rIn K false) (tVar 7) (tVar 6)))) (te := (tVar 7)) (by rfl) scUpperL.nd (pi_list (pv 1)) (blkOk_by (own := [("other", 7)]) (N := ["net", "order", "rank", "linked", "upper", "u", "found", "other"]) (sc := defScope sUpperL) (by decide +kernel)) (fun _ _ _ _ _ => pg_name (i := 7) scUpperL.nd rfl (Or.inl rfl)) (fun _ _ _ _ _ => by exact (pts_one (pt_cmpR op_in_seq (pv 7) (pv 6) (by rfl)))) (fun _ _ _ _ _ => by exact (pv 7))) rfl))))
      (pss_one (ps_ret (pv 4)))))), ?_⟩
    have n40 := ok.n40
    have ol := oo.len
    refine q_asgE ⟨.ref p, rfl, p, os, rfl, hS, oo.nodup, by omega, fun H1 rd s1 hR => ?_⟩
    refine q_asgE ⟨v, rfl, v, N, rfl, Dp.to hN s1, ok, fun H2 lk s2 hL => ?_⟩
    have hR2 := hR.to s2
    have s12 := s1.trans s2
    refine q_dnewK fun o no => ?_
    have so : Same H2 (upd H2 o (.dK [])) := same_upd no
    refine q_forL (xs := os.map V.int) (vl_var rfl) (((s12.trans so).seq hS))
      (fun i σ H3 => ∃ y5 y6, ∃ kvs, σ = [some v, some (.ref p), some (.ref rd), some (.ref lk), some (.ref o), y5, y6, none] ∧ H3 o = some (.dK kvs) ∧ Same H2 (but H3 o) ∧ kvs.map (·.1) = (os.take i).map Sum.inl ∧ ∀ x ∈ os.take i, ∃ a, valV kvs (.inl x) = some (.ref a) ∧ but H3 o a = some (.lst ((upP N.ls os x).map V.int)))
      ⟨_, _, [], rfl, upd_same, same_but so no, rfl, fun x hx => by
        rw [List.take_zero] at hx
        cases hx⟩ (fun i σ H3 hP => ?_) (fun i y σ H3 hy hP => ?_) (fun σ H3 hP => ?_)
    · obtain ⟨_, _, _, _, _, s3, _⟩ := hP
      exact (s12.trans (s3.trans but_same)).seq hS
    · obtain ⟨y5, y6, kvs, rfl, ho, s3, hk, hA⟩ := hP
      rw [List.getElem?_map] at hy
      cases hg : os[i]? with
      | none =>
        rw [hg] at hy
        cases hy
      | some x =>
        rw [hg] at hy
        cases hy
        have hx := oo.mem.mp (List.mem_of_getElem? hg)
        have hi := (List.getElem?_eq_some_iff.mp hg).1
        have sH := s3.trans but_same
        refine q_asgE ⟨.ref lk, rfl, .ref rd, rfl, .int x, rfl, lk, rd, x, N, os, rfl, hL.to sH, hR2.to sH, ok, oo, hx.1, hx.2, fun H4 pf fs s4 hpf hfs hfl => ?_⟩
        have ho4 := s4 _ _ ho
        have hS4 := ((s12.trans sH).trans s4).seq hS
        refine g_dputN (xs := (upP N.ls os x).map V.int) (by
          rw [← up_eq oo fun v _ => hfs v]
          exact vn_lcI (ns := os) (pb := fun v => decide (v ∈ fs)) (f := V.int) (vx_list (vl_var rfl) hS4) (by omega) (fun z hz H' s' => an_test (vl_inI (vl_var rfl) (vl_var rfl) (.of (s' _ _ hpf)))) (fun z hz H' s' => vl_var rfl)) (fun _ _ => vl_var rfl) (fun _ _ => vl_var rfl) ho4 ?_ (fun a H5 s5 na ea => ?_)
        · have := congrArg List.length hk
          rw [List.length_map, List.length_map, List.length_take] at this
          exact Nat.lt_of_le_of_lt (m := 10000) (by omega) (by decide)
        · have oa : o ≠ a := ne_of_none ho4 na
          have hnx : x ∉ os.take i := fun h => by
            have hn := oo.nodup
            rw [split_at hg] at hn
            exact (List.nodup_append.mp hn).2.2 x h x List.mem_cons_self rfl
          have hnone : valV kvs (.inl x) = none := by
            cases e : valV kvs (.inl x) with
            | none => rfl
            | some v =>
              have := valV_in e
              rw [hk] at this
              obtain ⟨z, hz, e2⟩ := List.mem_map.mp this
              rw [Sum.inl.inj e2] at hz
              exact absurd hz hnx
          refine ⟨_, _, _, rfl, upd_same, ?_, ?_, fun z hz => ?_⟩
          · rw [but_upd]
            exact s3.trans (but_mono (s4.trans s5))
          · rw [putK_new _ hnone, List.map_append, hk, take_snoc hg, List.map_append]
            rfl
          · rw [valV_put, but_upd]
            by_cases e : z = x
            · subst e
              rw [if_pos rfl]
              exact ⟨a, rfl, by rw [but_ne oa.symm, ea]⟩
            · rw [if_neg (fun h => e (Sum.inl.inj h))]
              rw [take_snoc hg] at hz
              rcases List.mem_append.mp hz with hz | hz
              · obtain ⟨b, hb1, hb2⟩ := hA z hz
                exact ⟨b, hb1, but_mono (s4.trans s5) _ _ hb2⟩
              · exact absurd (List.mem_singleton.mp hz) e
    · obtain ⟨y5, y6, kvs, rfl, ho, s3, hk, hA⟩ := hP
      rw [List.length_map, List.take_length] at hk hA
      exact g_ret (vl_var rfl) (q H3 o (s12.trans (s3.trans but_same)) ⟨kvs, ho, hk, fun x hx => let ⟨a, h1, h2⟩ := hA x hx; ⟨a, h1, but_same _ _ h2⟩⟩)
end
/-! ### chains -/
def chainF (up : Int → List Int) : Nat → Int → List Int
  | 0, p => [p]
  | k + 1, p => p :: (match up p with
    | [] => []
    | s :: _ => chainF up k s)
def chainE (up : Int → List Int) : Nat → Int → Int
  | 0, p => p
  | k + 1, p => match up p with
    | [] => p
    | s :: _ => chainE up k s
theorem chain_snoc {up : Int → List Int} : ∀ (k : Nat) (p : Int), chainF up (k + 1) p = chainF up k p ++ (match up (chainE up k p) with
    | [] => []
    | s :: _ => [s]) ∧ chainE up (k + 1) p = (match up (chainE up k p) with
    | [] => chainE up k p
    | s :: _ => s)
  | 0, p => by
    constructor
    · show p :: (match up p with
        | [] => []
        | s :: _ => chainF up 0 s) = [p] ++ (match up p with
        | [] => []
        | s :: _ => [s])
      cases up p <;> rfl
    · show (match up p with
        | [] => p
        | s :: _ => chainE up 0 s) = (match up p with
        | [] => p
        | s :: _ => s)
      cases up p <;> rfl
  | k + 1, p => by
    cases e : up p with
    | nil =>
      have e1 : chainF up (k + 1) p = [p] := by
        show p :: (match up p with
          | [] => []
          | s :: _ => chainF up k s) = [p]
        rw [e]
      have e2 : chainE up (k + 1) p = p := by
        show (match up p with
          | [] => p
          | s :: _ => chainE up k s) = p
        rw [e]
      have e3 : chainF up (k + 1 + 1) p = [p] := by
        show p :: (match up p with
          | [] => []
          | s :: _ => chainF up (k + 1) s) = [p]
        rw [e]
      have e4 : chainE up (k + 1 + 1) p = p := by
        show (match up p with
          | [] => p
          | s :: _ => chainE up (k + 1) s) = p
        rw [e]
      rw [e1, e2, e3, e4, e]
      exact ⟨rfl, rfl⟩
    | cons s r =>
      have ih := chain_snoc (up := up) k s
      have e1 : chainF up (k + 1) p = p :: chainF up k s := by
        show p :: (match up p with
          | [] => []
          | s :: _ => chainF up k s) = _
        rw [e]
      have e2 : chainE up (k + 1) p = chainE up k s := by
        show (match up p with
          | [] => p
          | s :: _ => chainE up k s) = _
        rw [e]
      have e3 : chainF up (k + 1 + 1) p = p :: chainF up (k + 1) s := by
        show p :: (match up p with
          | [] => []
          | s :: _ => chainF up (k + 1) s) = _
        rw [e]
      have e4 : chainE up (k + 1 + 1) p = chainE up (k + 1) s := by
        show (match up p with
          | [] => p
          | s :: _ => chainE up (k + 1) s) = _
        rw [e]
      rw [e1, e2, e3, e4, ih.1, ih.2]
      exact ⟨rfl, rfl⟩
theorem chain_get {up : Int → List Int} : ∀ (k : Nat) (p : Int), (chainF up k p)[(chainF up k p).length - 1]? = some (chainE up k p) ∧ 1 ≤ (chainF up k p).length ∧ (chainF up k p).length ≤ k + 1
  | 0, p => ⟨rfl, Nat.le_refl _, Nat.le_refl _⟩
  | k + 1, p => by
    obtain ⟨h1, h2⟩ := chain_snoc (up := up) k p
    obtain ⟨i1, i2, i3⟩ := chain_get (up := up) k p
    rw [h1, h2]
    cases up (chainE up k p) with
    | nil =>
      show (chainF up k p ++ [])[_]? = some (chainE up k p) ∧ _
      rw [List.append_nil]
      exact ⟨i1, i2, by omega⟩
    | cons s r =>
      show (chainF up k p ++ [s])[(chainF up k p ++ [s]).length - 1]? = some s ∧ 1 ≤ (chainF up k p ++ [s]).length ∧ (chainF up k p ++ [s]).length ≤ k + 1 + 1
      rw [List.length_append]
      have e1 : [s].length = 1 := rfl
      rw [e1, Nat.add_sub_cancel, List.getElem?_append_right (Nat.le_refl _), Nat.sub_self]
      exact ⟨rfl, by omega, by omega⟩
theorem chain_head {up : Int → List Int} (k : Nat) (p : Int) : p ∈ chainF up k p := by
  cases k with
  | zero => exact List.mem_singleton.mpr rfl
  | succ k => exact List.mem_cons_self
section
variable {N : Net} {os : List Int}
theorem chain_all (ok : NetOk N) (oo : OrdOk N.n os) : ∀ (k : Nat) (p v : Int), os.length ≤ posOf p os + k + 1 → v ∈ upP N.ls os p → v ∈ chainF (upP N.ls os) k p
  | 0, p, v, hk, hv => by
    have h := (mem_up.mp hv)
    have := pos_len h.1
    have := h.2.1
    omega
  | k + 1, p, v, hk, hv => by
    have hs := up_sorted (N := N) (u := p) oo
    have hm : ∀ s ∈ upP N.ls os p, PairP N.ls os p s := fun s h => (mem_up.mp h).2
    show v ∈ p :: (match upP N.ls os p with
      | [] => []
      | s :: _ => chainF (upP N.ls os) k s)
    cases e : upP N.ls os p with
    | nil =>
      rw [e] at hv
      cases hv
    | cons s r =>
      rw [e] at hv hs hm
      refine List.mem_cons_of_mem _ ?_
      show v ∈ chainF (upP N.ls os) k s
      rcases List.mem_cons.mp hv with h | h
      · rw [h]
        exact chain_head k s
      · have hps := hm s List.mem_cons_self
        have hpv := hm v (List.mem_cons_of_mem _ h)
        have hsv := (List.pairwise_cons.mp hs).1 v h
        have := hps.1
        exact chain_all ok oo k s v (by omega) ((mem_upP ok oo).mpr (pair_clique ok hps hpv hsv))
theorem chain_in (ok : NetOk N) (oo : OrdOk N.n os) : ∀ (k : Nat) (p : Int), p ∈ os → (∀ x ∈ chainF (upP N.ls os) k p, x ∈ os) ∧ chainE (upP N.ls os) k p ∈ os
  | 0, p, hp => ⟨fun x hx => by
    rw [List.mem_singleton.mp hx]
    exact hp, hp⟩
  | k + 1, p, hp => by
    obtain ⟨h1, h2⟩ := chain_snoc (up := upP N.ls os) k p
    obtain ⟨i1, i2⟩ := chain_in ok oo k p hp
    have hm : ∀ s ∈ upP N.ls os (chainE (upP N.ls os) k p), s ∈ os := fun s h => (mem_up.mp h).1
    rw [h1, h2]
    cases e : upP N.ls os (chainE (upP N.ls os) k p) with
    | nil =>
      refine ⟨fun x hx => ?_, i2⟩
      rw [show (chainF (upP N.ls os) k p ++ []) = chainF (upP N.ls os) k p from List.append_nil _] at hx
      exact i1 x hx
    | cons s r =>
      have hs := hm s (by rw [e]; exact List.mem_cons_self)
      refine ⟨fun x hx => ?_, hs⟩
      rcases List.mem_append.mp hx with hx | hx
      · exact i1 x hx
      · rw [List.mem_singleton.mp hx]
        exact hs
end
noncomputable def chainOf (N : Net) (os : List Int) (p : Int) : List Int := chainF (upP N.ls os) N.n.toNat p
def spChain (K : PySem.W.Frag) (CN : Addr) : Sp := fun vs H Q E => ∃ (v : V) (N : Net) (p : Addr) (os : List Int) (x : Int), vs = [v, .ref p, .int x] ∧ Dp K H v (netD N) ∧ NetOk N ∧ SqL K H p (os.map V.int) ∧ OrdOk N.n os ∧
  (0 ≤ x ∧ x < N.n → ∀ H' q, Same H H' → H q = none → H' q = some (.lst ((chainOf N os x).map V.int)) → Q (.ref q) H') ∧ (¬ (0 ≤ x ∧ x < N.n) → RaiseTo E H CN x)
def spLChain (K : PySem.W.Frag) : Sp := fun vs H Q _ => ∃ (v : V) (N : Net) (p : Addr) (os : List Int) (x : Int), vs = [v, .ref p, .int x] ∧ Dp K H v (netD N) ∧ NetOk N ∧ SqL K H p (os.map V.int) ∧ OrdOk N.n os ∧
  (0 ≤ x ∧ x < N.n → ∀ H' q, Same H H' → H q = none → H' q = some (.lst ((chainOf N os x).map V.int)) → Q (.ref q) H') ∧ (¬ (0 ≤ x ∧ x < N.n) → ∀ H', Same H H' → Q (.int x) H')
section
variable {P : Program} {w : World} {K : PySem.W.Frag} {mg : Str → Option Value} {base : Heap} {CN fI : Addr}
end
/-! ### any two upper neighbours are a pair -/
noncomputable def pairsL (ls : List Lnk) (os : List Int) : List (Int × Int) := os.flatMap fun u => (upP ls os u).map fun v => (u, v)
theorem mem_pairsL {N : Net} {os : List Int} (ok : NetOk N) (oo : OrdOk N.n os) {u v : Int} : (u, v) ∈ pairsL N.ls os ↔ PairP N.ls os u v := by
  unfold pairsL
  rw [List.mem_flatMap]
  constructor
  · rintro ⟨x, hx, h⟩
    obtain ⟨y, hy, e⟩ := List.mem_map.mp h
    cases e
    exact (mem_up.mp hy).2
  · intro h
    exact ⟨u, oo.mem.mpr (h.ins ok).1, List.mem_map.mpr ⟨v, (mem_upP ok oo).mpr h, rfl⟩⟩
/-- a list of new tuples of two ints -/
structure TupsAt (H : Hp) (ts : List V) (L : List (Int × Int)) : Prop where
  len : ts.length = L.length
  at_ : ∀ (i : Nat) (u v : Int), L[i]? = some (u, v) → ∃ t, ts[i]? = some (.ref t) ∧ H t = some (.tup [.int u, .int v])
theorem TupsAt.to {H H' : Hp} {ts : List V} {L : List (Int × Int)} (h : TupsAt H ts L) (s : Same H H') : TupsAt H' ts L := ⟨h.len, fun i u v e => let ⟨t, h1, h2⟩ := h.at_ i u v e; ⟨t, h1, s _ _ h2⟩⟩
def pairD2 (x : Int × Int) : PyData := .tuple [.int x.1, .int x.2]
theorem TupsAt.dp {K : PySem.W.Frag} {H : Hp} : ∀ {ts : List V} {L : List (Int × Int)}, TupsAt H ts L → DpAll K H ts (L.map pairD2)
  | [], [], _ => .nil
  | [], _ :: _, h => absurd h.len (by simp)
  | _ :: _, [], h => absurd h.len (by simp)
  | x :: ts, (u, v) :: L, h => by
    obtain ⟨t, h1, h2⟩ := h.at_ 0 u v rfl
    cases Option.some.inj h1
    exact .cons (.tup (.of h2) (.cons (.int u) (.cons (.int v) .nil))) (TupsAt.dp ⟨Nat.succ.inj h.len, fun i a b e => h.at_ (i + 1) a b e⟩)
def spClique (K : PySem.W.Frag) : Sp := fun vs H Q _ => ∃ (fp ap : Addr) (ts : List V) (N : Net) (os : List Int), vs = [.ref fp, .ref ap] ∧ H fp = some (.lst ts) ∧ TupsAt H ts (pairsL N.ls os) ∧ UpAt H ap N.ls os ∧ NetOk N ∧ OrdOk N.n os ∧ ∀ H', Same H H' → Q (.bl true) H'
theorem pairsL_len {N : Net} {os : List Int} (ok : NetOk N) (oo : OrdOk N.n os) : (pairsL N.ls os).length ≤ 1600 := by
  unfold pairsL
  have h : ∀ xs : List Int, (xs.flatMap fun u => (upP N.ls os u).map fun v => (u, v)).length ≤ xs.length * 40 := by
    intro xs
    induction xs with
    | nil => exact Nat.zero_le _
    | cons x r ih =>
      rw [List.flatMap_cons, List.length_append, List.length_map, List.length_cons, Nat.succ_mul]
      have := up_len (u := x) ok oo
      omega
  have := h os
  have := oo.len
  have := ok.n40
  omega
section
variable {P : Program} {w : World} {K : PySem.W.Frag} {mg : Str → Option Value} {base : Heap}
end
/-! ### the law of pairs -/
theorem TupsAt.upd {H : Hp} {ts zs : List V} {L : List (Int × Int)} {D : Addr} {u : HO} (h : TupsAt H ts L) (hD : H D = some (.lst zs)) : TupsAt (L2.upd H D u) ts L := ⟨h.len, fun i a b e => by
  obtain ⟨t, h1, h2⟩ := h.at_ i a b e
  refine ⟨t, h1, ?_⟩
  rw [upd_ne (fun z => by
    rw [z, hD] at h2
    cases h2)]
  exact h2⟩
theorem TupsAt.but {H : Hp} {ts zs : List V} {L : List (Int × Int)} {D : Addr} (h : TupsAt H ts L) (hD : H D = some (.lst zs)) : TupsAt (Ovc.but H D) ts L := ⟨h.len, fun i a b e => by
  obtain ⟨t, h1, h2⟩ := h.at_ i a b e
  refine ⟨t, h1, ?_⟩
  rw [but_ne (fun z => by
    rw [z, hD] at h2
    cases h2)]
  exact h2⟩
theorem TupsAt.app {H : Hp} {ts zs : List V} {L M : List (Int × Int)} (h : TupsAt H ts L) (k : TupsAt H zs M) : TupsAt H (ts ++ zs) (L ++ M) := ⟨by
  rw [List.length_append, List.length_append, h.len, k.len], fun i u v e => by
  by_cases hi : i < L.length
  · rw [List.getElem?_append_left hi] at e
    rw [List.getElem?_append_left (by rw [h.len]; exact hi)]
    exact h.at_ i u v e
  · rw [List.getElem?_append_right (by omega)] at e
    rw [List.getElem?_append_right (by rw [h.len]; omega), h.len]
    exact k.at_ _ u v e⟩
theorem TupsAt.nil {H : Hp} : TupsAt H [] [] := ⟨rfl, fun i u v e => by simp at e⟩
theorem TupsAt.one {H : Hp} {t : Addr} {u v : Int} (h : H t = some (.tup [.int u, .int v])) : TupsAt H [.ref t] [(u, v)] := ⟨rfl, fun i a b e => by
  cases i with
  | zero =>
    cases Option.some.inj e
    exact ⟨t, rfl, h⟩
  | succ i => simp at e⟩
section
variable {K : PySem.W.Frag} {σ : L2.St} {H : Hp} {ta tb te tl : TE} {tr : TA} {D : Ends} {tw : TS} {x y : V}
/-- [(u, v) for v in xs] -/
theorem vt_lc {i j : Nat} {u : Int} {ns : List Int} {a : Addr} (hv : ∀ x, ((σ.set j none).set j (some x))[i]? = some (some (V.int u))) (hw : ∀ x, ((σ.set j none).set j (some x))[j]? = some (some x)) (hl : Vl tl σ H (.ref a)) (hx : SqL K H a (ns.map V.int)) (hz : ns.length ≤ 10000) (Q : VK)
    (q : ∀ D H' zs, Same H H' → H D = none → H' D = some (.lst zs) → TupsAt H' zs (ns.map fun v => (u, v)) → Q (.ref D) H') : tLc (iList K tl) (gName j) tYes (tTup (tCons (tVar i) (tCons (tVar j) tNil))) [j] σ H Q := by
  refine hl _ ⟨a, rfl, ⟨_, hx⟩, fun D nD => lc_list (K := K) (a := a) (xs := ns.map V.int) (fun k H' => ∃ zs, H' D = some (.lst zs) ∧ Same H H' ∧ TupsAt H' zs ((ns.take k).map fun v => (u, v))) ⟨[], upd_same, same_upd nD, TupsAt.nil⟩ (fun k H' _ hP => hP.choose_spec.2.1.seq hx) (fun k x H' hk hP => ?_) (fun H' hP => ?_)⟩
  · obtain ⟨zs, hD, s', hT⟩ := hP
    rw [List.getElem?_map] at hk
    cases hg : ns[k]? with
    | none =>
      rw [hg] at hk
      cases hk
    | some v =>
      rw [hg] at hk
      cases hk
      refine ⟨?_, iteT (B := ∃ zs, H' D = some (.lst zs) ∧ Same H H' ∧ TupsAt H' zs ((ns.take (k + 1)).map fun v => (u, v))) ⟨_, hv _, _, hw _, by show 2 ≤ sizeLine; decide, fun T nT => ⟨zs, same_upd nT _ _ hD, ?_, zs ++ [.ref T], upd_same, same_upd' (s'.trans (same_upd nT)) nD, ?_⟩⟩⟩
      · show ((σ.set j none).set j (some (V.int v))).set j none = σ.set j none
        rw [List.set_set, List.set_set]
      · rw [hT.len, List.length_map, List.length_take]
        exact Nat.lt_of_le_of_lt (m := 10000) (by omega) (by decide)
      · rw [take_snoc hg, List.map_append]
        exact ((hT.to (same_upd nT)).app (TupsAt.one upd_same)).upd (same_upd nT _ _ hD)
  · obtain ⟨zs, hD, s', hT⟩ := hP
    rw [List.length_map, List.take_length] at hT
    exact q D H' zs s' nD hD hT
/-- [e for x in range(n)], e told by f -/
theorem vn_lcRV {j : Nat} {n : Int} {f : Int → V} (hl : Va tr σ H [.int n]) (h0 : 0 ≤ n) (hz : n ≤ 1000000) (he : ∀ x : Int, 0 ≤ x → x < n → ∀ H', Same H H' → Ve te ((σ.set j none).set j (some (.int x))) H' (f x)) :
    Vn (tLc (iRng1 tr) (gName j) tYes te [j]) σ H ((rng n).map f) := fun Q q => by
  refine hl _ ⟨n, rfl, by omega, by omega, fun D nD => lc_range (lo := 0) (n := n.toNat) (fun i H' => H' D = some (.lst (((List.range i).map fun (i : Nat) => (i : Int)).map f)) ∧ Same H H') ⟨upd_same, same_upd nD⟩ (fun i H2 hi hP => ?_) (fun H2 hP => ?_)⟩
  · obtain ⟨hD, s2⟩ := hP
    rw [Int.zero_add]
    refine ⟨?_, iteT (B := H2 D = some (.lst (((List.range (i + 1)).map fun (i : Nat) => (i : Int)).map f)) ∧ Same H H2) (he i (by omega) (by omega) H2 s2 _ fun H3 s3 => ⟨_, s3 _ _ hD, ?_, ?_, same_upd' (s2.trans s3) nD⟩)⟩
    · show ((σ.set j none).set j (some (V.int i))).set j none = σ.set j none
      rw [List.set_set, List.set_set]
    · rw [List.length_map, List.length_map, List.length_range]
      exact Nat.lt_of_le_of_lt (m := 1000000) (by omega) (by decide)
    · rw [upd_same, List.range_succ, List.map_append, List.map_append]
      rfl
  · obtain ⟨hD, s2⟩ := hP
    exact q D H2 s2 nD hD
theorem ax_neV2 (ha : Ve ta σ H x) (hb : ∀ H', Same H H' → Vl tb σ H' y) (hs : scal x y = true) : Ax (tTest (tOp rNe ta tb)) σ H (!decide (x = y)) := fun Q k => ha _ fun H' s' => hb H' s' _ ⟨hs, _, rfl, k H' s'⟩
theorem q_appT2 {l : Addr} {xs : List V} {i j : Int} (ho : Vl ta σ H (.ref l)) (hl : H l = some (.lst xs)) (hz : xs.length < sizeLine) (k : ∀ T H', Same H H' → H T = none → tw D σ (L2.upd H' l (.lst (xs ++ [.ref T])))) :
    tSeq (tDrop (tBM K "list" rAppend ta (tCons (tTup (tCons (tC (.int i)) (tCons (tC (.int j)) tNil))) tNil))) tw D σ H := ho _ ⟨.inl ⟨rfl, _, .inl (.inl hl)⟩, by show 2 ≤ sizeLine; decide, fun T nT => ⟨l, xs, .ref T, rfl, rfl, same_upd nT _ _ hl, hz, k T _ (same_upd nT) nT⟩⟩
end
/-! ### how long a text of data is -/
theorem textFrom_le : ∀ (ts : List Str) (k : Nat) (acc : Str), (textFrom k acc ts).length ≤ acc.length + piled ts
  | [], k, acc => Nat.le_add_right _ _
  | t :: r, k, acc => by
    have h := textFrom_le r (k + 1) (acc ++ (if k > 0 then ", " else "" : String) ++ t)
    have e : (acc ++ (if k > 0 then ", " else "" : String) ++ t).length ≤ acc.length + 2 + t.length := by
      rw [strLen_append, strLen_append]
      split
      · have : (Str.ofString ", ").length = 2 := by decide +kernel
        omega
      · have : (Str.ofString "").length = 0 := by decide +kernel
        omega
    show (textFrom (k + 1) _ r).length ≤ acc.length + piled (t :: r)
    rw [piled_cons]
    omega
theorem listText_le (ts : List Str) : (listText ts).length ≤ piled ts + 2 := by
  unfold listText
  rw [strLen_append]
  have h := textFrom_le ts 0 "["
  have e1 : ("[" : Str).length = 1 := by decide +kernel
  have e2 : ("]" : Str).length = 1 := by decide +kernel
  omega
theorem tupleText_le (ts : List Str) : (tupleText ts).length ≤ piled ts + 4 := by
  unfold tupleText
  rw [strLen_append, strLen_append]
  have e1 : ("(" : Str).length = 1 := by decide +kernel
  have e2 : ((if ts.length == 1 then ",)" else ")" : String) : Str).length ≤ 2 := by
    split
    · exact Nat.le_of_eq (by decide +kernel)
    · exact Nat.le_trans (Nat.le_of_eq (by decide +kernel)) (show 1 ≤ 2 by decide)
  by_cases h : ts = []
  · subst h
    have e3 : (Str.join ", " []).length = 0 := by decide +kernel
    omega
  · have := join_length_add ts h
    omega
theorem piled_le {ds : List PyData} {m : Nat} (h : ∀ d ∈ ds, d.shown.length ≤ m) : piled (PyData.shownAll ds) ≤ ds.length * (m + 2) := by
  induction ds with
  | nil => exact Nat.zero_le _
  | cons d r ih =>
    show piled (d.shown :: PyData.shownAll r) ≤ _
    rw [piled_cons, List.length_cons, Nat.succ_mul]
    have h1 := h d List.mem_cons_self
    have h2 := ih fun x hx => h x (List.mem_cons_of_mem _ hx)
    omega
theorem shown_int {i : Int} (h0 : 0 ≤ i) (h1 : i ≤ 10000000) : (PyData.int i).shown.length ≤ 10 := PySem.W.KT.len_num h0 (by omega)
theorem shown_o {o : Option Int} (h : PriceOk o) : (oD o).shown.length ≤ 10 := by
  cases o with
  | none =>
    show ("None" : Str).length ≤ 10
    decide +kernel
  | some x =>
    have := h x rfl
    exact shown_int (by omega) (by omega)
theorem showable_int {i : Int} (h0 : 0 ≤ i) (h1 : i ≤ 10000000) : (PyData.int i).showable = true := by
  refine decide_eq_true ?_
  by_cases hz : i.natAbs = 0
  · rw [hz]
    decide
  · rw [Nat.log2_lt hz]
    have h : i.natAbs < 2 ^ 24 := by omega
    exact Nat.lt_of_lt_of_le h (Nat.pow_le_pow_right (by decide : 2 > 0) (show 24 ≤ 1920 by decide))
theorem showable_o {o : Option Int} (h : PriceOk o) : (oD o).showable = true := by
  cases o with
  | none => rfl
  | some x =>
    have := h x rfl
    exact showable_int (by omega) (by omega)
theorem showable_all {ds : List PyData} (h : ∀ d ∈ ds, d.showable = true) : PyData.showableAll ds = true := by
  induction ds with
  | nil => rfl
  | cons d r ih =>
    show (d.showable && PyData.showableAll r) = true
    rw [h d List.mem_cons_self, ih fun x hx => h x (List.mem_cons_of_mem _ hx)]
    rfl
/-- what repr asks of data -/
structure ShowOk (d : PyData) (m : Nat) : Prop where
  sh : d.showable = true
  nd : d.hasDict = false
  dep : d.depth ≤ 10
  len : d.shown.length ≤ m
theorem showOk_net {N : Net} (ok : NetOk N) : ShowOk (netD N) 200000 := by
  have n1 := ok.n1
  have n40 := ok.n40
  have l16 := ok.len
  have hl : ∀ d ∈ N.ls.map lnkD, d.shown.length ≤ 60 ∧ d.showable = true := fun d hd => by
    obtain ⟨l, hl, rfl⟩ := List.mem_map.mp hd
    have h := ok.ok l hl
    have a0 := h.a0
    have ab := h.ab
    have bn := h.bn
    have s1 := shown_int (i := l.a) (by omega) (by omega)
    have s2 := shown_int (i := l.b) (by omega) (by omega)
    have s3 := shown_o h.t
    have s4 := shown_o h.k
    constructor
    · show (tupleText (PyData.shownAll [.int l.a, .int l.b, oD l.t, oD l.k])).length ≤ 60
      have := tupleText_le (PyData.shownAll [.int l.a, .int l.b, oD l.t, oD l.k])
      have p := piled_le (ds := [.int l.a, .int l.b, oD l.t, oD l.k]) (m := 10) (fun d hd => by
        simp only [List.mem_cons, List.not_mem_nil, or_false] at hd
        rcases hd with rfl | rfl | rfl | rfl <;> assumption)
      have e : ([.int l.a, .int l.b, oD l.t, oD l.k] : List PyData).length = 4 := rfl
      rw [e] at p
      omega
    · show (PyData.showableAll [.int l.a, .int l.b, oD l.t, oD l.k]) = true
      refine showable_all fun d hd => ?_
      simp only [List.mem_cons, List.not_mem_nil, or_false] at hd
      rcases hd with rfl | rfl | rfl | rfl
      · exact showable_int (by omega) (by omega)
      · exact showable_int (by omega) (by omega)
      · exact showable_o h.t
      · exact showable_o h.k
  have p := piled_le (ds := N.ls.map lnkD) (m := 60) fun d hd => (hl d hd).1
  rw [List.length_map] at p
  have q := listText_le (PyData.shownAll (N.ls.map lnkD))
  have s1 := shown_int (i := N.n) (by omega) (by omega)
  refine ⟨?_, PyData.hasDict_of_canLay _ (lay_net N).1, Nat.le_trans (lay_net N).2 (by decide), ?_⟩
  · show (PyData.showableAll [.int N.n, .list (N.ls.map lnkD)]) = true
    refine showable_all fun d hd => ?_
    simp only [List.mem_cons, List.not_mem_nil, or_false] at hd
    rcases hd with rfl | rfl
    · exact showable_int (by omega) (by omega)
    · exact showable_all fun d hd => (hl d hd).2
  · show (tupleText (PyData.shownAll [.int N.n, .list (N.ls.map lnkD)])).length ≤ 200000
    have := tupleText_le (PyData.shownAll [.int N.n, .list (N.ls.map lnkD)])
    have p2 := piled_le (ds := [.int N.n, .list (N.ls.map lnkD)]) (m := 99902) (fun d hd => by
      simp only [List.mem_cons, List.not_mem_nil, or_false] at hd
      rcases hd with rfl | rfl
      · omega
      · show (listText (PyData.shownAll (N.ls.map lnkD))).length ≤ 99902
        omega)
    have e : ([.int N.n, .list (N.ls.map lnkD)] : List PyData).length = 2 := rfl
    rw [e] at p2
    omega
theorem showOk_ints {ns : List Int} (h : ∀ x ∈ ns, 0 ≤ x ∧ x ≤ 10000000) (hl : ns.length ≤ 1000) : ShowOk (.list (ns.map PyData.int)) 20000 := by
  have p := piled_le (ds := ns.map PyData.int) (m := 10) fun d hd => by
    obtain ⟨x, hx, rfl⟩ := List.mem_map.mp hd
    exact shown_int (h x hx).1 (h x hx).2
  rw [List.length_map] at p
  have q := listText_le (PyData.shownAll (ns.map PyData.int))
  refine ⟨?_, PyData.hasDict_of_canLay _ ((lay_ints ns).1), ?_, ?_⟩
  · refine showable_all fun d hd => ?_
    obtain ⟨x, hx, rfl⟩ := List.mem_map.mp hd
    exact showable_int (h x hx).1 (h x hx).2
  · show PyData.depthAll (ns.map PyData.int) + 1 ≤ 10
    rw [(lay_ints ns).2]
    decide
  · show (listText (PyData.shownAll (ns.map PyData.int))).length ≤ 20000
    omega
theorem showOk_pair {a b : PyData} {m : Nat} (ha : ShowOk a m) (hb : ShowOk b m) : (PyData.tuple [a, b]).showable = true ∧ (PyData.tuple [a, b]).hasDict = false ∧ (PyData.tuple [a, b]).depth ≤ 60 ∧ (PyData.tuple [a, b]).shown.length ≤ 2 * (m + 2) + 4 := by
  refine ⟨?_, ?_, ?_, ?_⟩
  · show (PyData.showableAll [a, b]) = true
    exact showable_all fun d hd => by
      simp only [List.mem_cons, List.not_mem_nil, or_false] at hd
      rcases hd with rfl | rfl
      · exact ha.sh
      · exact hb.sh
  · show (a.hasDict || (b.hasDict || false)) = false
    rw [ha.nd, hb.nd]
    rfl
  · show max a.depth (max b.depth 0) + 1 ≤ 60
    have := ha.dep
    have := hb.dep
    omega
  · have := tupleText_le (PyData.shownAll [a, b])
    have p := piled_le (ds := [a, b]) (m := m) (fun d hd => by
      simp only [List.mem_cons, List.not_mem_nil, or_false] at hd
      rcases hd with rfl | rfl
      · exact ha.len
      · exact hb.len)
    have e : ([a, b] : List PyData).length = 2 := rfl
    rw [e] at p
    show (tupleText (PyData.shownAll [a, b])).length ≤ _
    omega
/-! ### witnesses: ways of links by layers -/
def lastI (w : List Int) : Int := w.getLastD 0
theorem lastI_app (w : List Int) (y : Int) : lastI (w ++ [y]) = y := by
  unfold lastI
  rw [List.getLastD_eq_getLast?, List.getLast?_append]
  rfl
section
variable (nb : Int → List Int) (low : Int → Bool)
def newS (S : List Int) (x : Int) : List Int := (nb x).filter fun y => low y && !decide (y ∈ S)
def layStep (acc : List (List Int) × List Int) (w : List Int) : List (List Int) × List Int := (acc.1 ++ (newS nb low acc.2 (lastI w)).map (fun y => w ++ [y]), acc.2 ++ newS nb low acc.2 (lastI w))
def layN (p : List (List Int) × List Int) : List (List Int) × List Int := p.1.foldl (layStep nb low) ([], p.2)
def lay (u : Int) : Nat → List (List Int) × List Int
  | 0 => ([[u]], [u])
  | t + 1 => layN nb low (lay u t)
/-- the first way of a layer that leads to v -/
def goesTo (v : Int) (W : List (List Int)) : Option (List Int) := (W.find? fun w => decide (v ∈ nb (lastI w))).map fun w => w ++ [v]
/-- the witness: the first in the first layer that has one -/
def witF (u v : Int) (m : Nat) : Option (List Int) := (List.range m).findSome? fun t => goesTo nb v (lay nb low u t).1
end
section
variable {nb : Int → List Int} {low : Int → Bool}
theorem mem_newS {S : List Int} {x y : Int} : y ∈ newS nb low S x ↔ y ∈ nb x ∧ low y = true ∧ y ∉ S := by
  unfold newS
  rw [List.mem_filter, Bool.and_eq_true, Bool.not_eq_true', decide_eq_false_iff_not]
/-- what holds while a layer is told: S0 the places seen before, W the ways done, L the ways found, S the places seen -/
structure LayI (nb : Int → List Int) (low : Int → Bool) (S0 : List Int) (k : Nat) (W L : List (List Int)) (S : List Int) : Prop where
  seen : S = S0 ++ L.map lastI
  len : ∀ w ∈ L, w.length = k + 1
  from_ : ∀ w ∈ L, ∃ z ∈ W, ∃ y, w = z ++ [y] ∧ y ∈ nb (lastI z) ∧ low y = true
  srt : L.Pairwise (· < ·)
  nd : S.Nodup
  clo : ∀ z ∈ W, ∀ y ∈ nb (lastI z), low y = true → y ∈ S
theorem lex_app {a b : List Int} (h : a < b) (e : a.length = b.length) (y z : Int) : a ++ [y] < b ++ [z] := by
  induction a generalizing b with
  | nil =>
    cases b with
    | nil => exact absurd h (List.lt_irrefl _)
    | cons x b => cases e
  | cons x a ih =>
    cases b with
    | nil => cases e
    | cons c b =>
      rw [List.cons_lt_cons_iff] at h
      show x :: (a ++ [y]) < c :: (b ++ [z])
      rw [List.cons_lt_cons_iff]
      rcases h with h | ⟨h1, h2⟩
      · exact .inl h
      · exact .inr ⟨h1, ih h2 (Nat.succ.inj e)⟩
theorem lex_same (a : List Int) {y z : Int} (h : y < z) : a ++ [y] < a ++ [z] := by
  induction a with
  | nil =>
    show [y] < [z]
    rw [List.cons_lt_cons_iff]
    exact .inl h
  | cons x a ih =>
    show x :: (a ++ [y]) < x :: (a ++ [z])
    rw [List.cons_lt_cons_iff]
    exact .inr ⟨rfl, ih⟩
theorem LayI.step (hn : ∀ x, (nb x).Pairwise (· < ·)) {S0 S : List Int} {k : Nat} {W L : List (List Int)} {w : List Int} (h : LayI nb low S0 k W L S) (hw : ∀ z ∈ W, z < w ∧ z.length = k) (hk : w.length = k) :
    LayI nb low S0 k (W ++ [w]) (layStep nb low (L, S) w).1 (layStep nb low (L, S) w).2 := by
  have nd : (newS nb low S (lastI w)).Nodup := List.Pairwise.filter _ ((hn (lastI w)).imp fun h z => by omega)
  have asc : (newS nb low S (lastI w)).Pairwise (· < ·) := List.Pairwise.filter _ (hn (lastI w))
  refine ⟨?_, fun z hz => ?_, fun z hz => ?_, ?_, ?_, fun z hz y hy hl => ?_⟩
  · show S ++ newS nb low S (lastI w) = S0 ++ (L ++ (newS nb low S (lastI w)).map fun y => w ++ [y]).map lastI
    rw [List.map_append, List.map_map, ← List.append_assoc, ← h.seen]
    congr 1
    exact (List.map_id _).symm.trans (List.map_congr_left fun y _ => (lastI_app w y).symm)
  · rcases List.mem_append.mp hz with hz | hz
    · exact h.len z hz
    · obtain ⟨y, _, rfl⟩ := List.mem_map.mp hz
      rw [List.length_append, hk]
      rfl
  · rcases List.mem_append.mp hz with hz | hz
    · obtain ⟨q, hq, r⟩ := h.from_ z hz
      exact ⟨q, List.mem_append.mpr (.inl hq), r⟩
    · obtain ⟨y, hy, rfl⟩ := List.mem_map.mp hz
      have := mem_newS.mp hy
      exact ⟨w, List.mem_append.mpr (.inr List.mem_cons_self), y, rfl, this.1, this.2.1⟩
  · show (L ++ (newS nb low S (lastI w)).map fun y => w ++ [y]).Pairwise (· < ·)
    rw [List.pairwise_append]
    refine ⟨h.srt, List.pairwise_map.mpr (asc.imp fun q => lex_same w q), fun a ha b hb => ?_⟩
    obtain ⟨q, hq, y, rfl, _⟩ := h.from_ a ha
    obtain ⟨z, _, rfl⟩ := List.mem_map.mp hb
    have := hw q hq
    exact lex_app this.1 (this.2.trans hk.symm) y z
  · show (S ++ newS nb low S (lastI w)).Nodup
    rw [List.nodup_append]
    exact ⟨h.nd, nd, fun a ha b hb e => by
      rw [e] at ha
      exact (mem_newS.mp hb).2.2 ha⟩
  · show y ∈ S ++ newS nb low S (lastI w)
    rw [List.mem_append]
    rcases List.mem_append.mp hz with hz | hz
    · exact .inl (h.clo z hz y hy hl)
    · rw [List.mem_singleton.mp hz] at hy
      by_cases c : y ∈ S
      · exact .inl c
      · exact .inr (mem_newS.mpr ⟨hy, hl, c⟩)
theorem LayI.start {S0 : List Int} {k : Nat} (h : S0.Nodup) : LayI nb low S0 k [] [] S0 := ⟨by simp, fun _ h => (nomatch h), fun _ h => (nomatch h), .nil, h, fun _ h => (nomatch h)⟩
theorem LayI.fold (hn : ∀ x, (nb x).Pairwise (· < ·)) {S0 : List Int} {k : Nat} : ∀ (ws V : List (List Int)) (L : List (List Int)) (S : List Int), LayI nb low S0 k V L S → (V ++ ws).Pairwise (· < ·) → (∀ w ∈ V ++ ws, w.length = k) → LayI nb low S0 k (V ++ ws) (ws.foldl (layStep nb low) (L, S)).1 (ws.foldl (layStep nb low) (L, S)).2
  | [], V, L, S, h, _, _ => by rw [List.append_nil]; exact h
  | w :: ws, V, L, S, h, hp, hl => by
    have hs := h.step hn (w := w) (fun z hz => ⟨(List.pairwise_append.mp hp).2.2 z hz w List.mem_cons_self, hl z (List.mem_append.mpr (.inl hz))⟩) (hl w (List.mem_append.mpr (.inr List.mem_cons_self)))
    have e : V ++ w :: ws = (V ++ [w]) ++ ws := by rw [List.append_assoc]; rfl
    rw [e] at hp hl ⊢
    exact LayI.fold hn ws (V ++ [w]) _ _ hs hp hl
/-- what holds of a layer -/
structure LayOk (nb : Int → List Int) (low : Int → Bool) (u : Int) (t : Nat) (W : List (List Int)) (S : List Int) : Prop where
  len : ∀ w ∈ W, w.length = t + 1
  srt : W.Pairwise (· < ·)
  nd : S.Nodup
  ends : ∀ w ∈ W, lastI w ∈ S
  inj : ∀ w ∈ W, ∀ z ∈ W, lastI w = lastI z → w = z
  us : u ∈ S
  size : W ≠ [] → t + 1 ≤ S.length
  seen : ∀ x ∈ S, x = u ∨ low x = true
theorem lay_ok (hn : ∀ x, (nb x).Pairwise (· < ·)) (u : Int) : ∀ t, LayOk nb low u t (lay nb low u t).1 (lay nb low u t).2 ∧ LayI nb low (lay nb low u t).2 (t + 1) (lay nb low u t).1 (lay nb low u (t + 1)).1 (lay nb low u (t + 1)).2 := by
  have nx : ∀ t W S, LayOk nb low u t W S → LayI nb low S (t + 1) W (layN nb low (W, S)).1 (layN nb low (W, S)).2 := fun t W S h => by
    have := LayI.fold (low := low) hn W [] [] S (LayI.start (k := t + 1) h.nd) (by rw [List.nil_append]; exact h.srt) (by rw [List.nil_append]; exact h.len)
    rw [List.nil_append] at this
    exact this
  intro t
  induction t with
  | zero =>
    have h0 : LayOk nb low u 0 [[u]] [u] := ⟨fun w hw => by rw [List.mem_singleton.mp hw]; rfl, List.pairwise_singleton _ _, List.nodup_cons.mpr ⟨List.not_mem_nil, List.nodup_nil⟩, fun w hw => by rw [List.mem_singleton.mp hw]; exact List.mem_cons_self, fun w hw z hz _ => by rw [List.mem_singleton.mp hw, List.mem_singleton.mp hz], List.mem_cons_self, fun _ => Nat.le_refl _, fun x hx => .inl (List.mem_singleton.mp hx)⟩
    exact ⟨h0, nx 0 _ _ h0⟩
  | succ t ih =>
    obtain ⟨h, hi⟩ := ih
    generalize hW' : (lay nb low u (t + 1)).1 = W' at hi ⊢
    generalize hS' : (lay nb low u (t + 1)).2 = S' at hi ⊢
    have e2 : lay nb low u (t + 1 + 1) = layN nb low (W', S') := by
      rw [← hW', ← hS']
      rfl
    have h1 : LayOk nb low u (t + 1) W' S' := by
      refine ⟨hi.len, hi.srt, hi.nd, fun w hw => ?_, fun w hw z hz e => ?_, ?_, fun hne => ?_, fun x hx => ?_⟩
      · rw [hi.seen]
        exact List.mem_append.mpr (.inr (List.mem_map.mpr ⟨w, hw, rfl⟩))
      · have nd := hi.nd
        rw [hi.seen] at nd
        have nd2 := (List.nodup_append.mp nd).2.1
        obtain ⟨i, hi1⟩ := List.mem_iff_getElem?.mp hw
        obtain ⟨j, hj1⟩ := List.mem_iff_getElem?.mp hz
        have il := (List.getElem?_eq_some_iff.mp hi1).1
        have : i = j := (List.getElem?_inj (by rw [List.length_map]; exact il) nd2).mp (by rw [List.getElem?_map, List.getElem?_map, hi1, hj1]; exact congrArg some e)
        rw [this, hj1] at hi1
        exact (Option.some.inj hi1).symm
      · rw [hi.seen]
        exact List.mem_append.mpr (.inl h.us)
      · obtain ⟨w, hw⟩ := List.exists_mem_of_ne_nil _ hne
        obtain ⟨z, hz, _⟩ := hi.from_ w hw
        have := h.size (fun e => by rw [e] at hz; cases hz)
        rw [hi.seen, List.length_append, List.length_map]
        have : 0 < W'.length := List.length_pos_iff.mpr hne
        omega
      · rw [hi.seen] at hx
        rcases List.mem_append.mp hx with hx | hx
        · exact h.seen x hx
        · obtain ⟨w, hw, rfl⟩ := List.mem_map.mp hx
          obtain ⟨z, _, y, rfl, _, hl⟩ := hi.from_ w hw
          rw [lastI_app]
          exact .inr hl
    rw [e2]
    exact ⟨h1, nx _ _ _ h1⟩
end
/-! ### a pair has a witness, and only a pair -/
def nbN (N : Net) : Int → List Int := fun x => nearOf x N.ls
def lowU (os : List Int) (u : Int) : Int → Bool := fun y => decide (posOf y os < posOf u os)
section
variable {N : Net} {os : List Int} {u v : Int}
theorem nbN_lt (ok : NetOk N) : ∀ x, (nbN N x).Pairwise (· < ·) := near_lt ok
abbrev layW (N : Net) (os : List Int) (u : Int) (t : Nat) := lay (nbN N) (lowU os u) u t
theorem lay_seen (ok : NetOk N) (hu : 0 ≤ u ∧ u < N.n) : ∀ t, ∀ x ∈ (layW N os u t).2, (0 ≤ x ∧ x < N.n) ∧ (x = u ∨ (posOf x os < posOf u os ∧ Rch (adj0 N.ls) (fun z => posOf z os < posOf u os) u x)) ∧ ∃ s, s ≤ t ∧ ∃ w ∈ (layW N os u s).1, lastI w = x := by
  intro t
  induction t with
  | zero =>
    intro x hx
    rw [List.mem_singleton.mp hx]
    exact ⟨hu, .inl rfl, 0, Nat.le_refl _, [u], List.mem_cons_self, rfl⟩
  | succ t ih =>
    intro x hx
    obtain ⟨h, hi⟩ := lay_ok (low := lowU os u) (nbN_lt ok) u t
    rw [hi.seen] at hx
    rcases List.mem_append.mp hx with hx | hx
    · obtain ⟨a, b, s, hs, w, hw, e⟩ := ih x hx
      exact ⟨a, b, s, by omega, w, hw, e⟩
    · obtain ⟨w, hw, rfl⟩ := List.mem_map.mp hx
      obtain ⟨z, hz, y, rfl, hy, hl⟩ := hi.from_ w hw
      have hl : posOf y os < posOf u os := of_decide_eq_true hl
      have ha : adj0 N.ls (lastI z) y = true := (near_mem ok).mp hy
      obtain ⟨_, b, _⟩ := ih (lastI z) (h.ends z hz)
      refine ⟨?_, ?_, t + 1, Nat.le_refl _, _, hw, rfl⟩
      · rw [lastI_app]
        exact (adj0_in ok ha).2.1
      · rw [lastI_app]
        rcases b with e | ⟨c, r⟩
        · rw [e] at ha
          exact .inr ⟨hl, .one ha⟩
        · exact .inr ⟨hl, .step r c ha⟩
theorem lay_n (ok : NetOk N) (hu : 0 ≤ u ∧ u < N.n) {t : Nat} (h : (layW N os u t).1 ≠ []) : t + 1 ≤ N.n.toNat := by
  obtain ⟨h1, _⟩ := lay_ok (low := lowU os u) (nbN_lt ok) u t
  have := sub_len (ys := rng N.n) h1.nd fun x hx => mem_rng.mpr (lay_seen ok hu t x hx).1
  rw [len_rng] at this
  have := h1.size h
  omega
theorem goes_some {nb : Int → List Int} {W : List (List Int)} {r : List Int} (h : goesTo nb v W = some r) : ∃ w ∈ W, v ∈ nb (lastI w) ∧ r = w ++ [v] := by
  unfold goesTo at h
  obtain ⟨w, hw, e⟩ := Option.map_eq_some_iff.mp h
  exact ⟨w, List.mem_of_find?_eq_some hw, by simpa using List.find?_some hw, e.symm⟩
theorem goes_none {nb : Int → List Int} {W : List (List Int)} (h : goesTo nb v W = none) : ∀ w ∈ W, v ∉ nb (lastI w) := fun w hw hv => by
  unfold goesTo at h
  rw [Option.map_eq_none_iff, List.find?_eq_none] at h
  exact h w hw (decide_eq_true hv)
theorem goes_pair (ok : NetOk N) (hu : 0 ≤ u ∧ u < N.n) (huv : posOf u os < posOf v os) {t : Nat} {r : List Int} (h : goesTo (nbN N) v (layW N os u t).1 = some r) : PairP N.ls os u v := by
  obtain ⟨w, hw, hv, _⟩ := goes_some h
  obtain ⟨h1, _⟩ := lay_ok (low := lowU os u) (nbN_lt ok) u t
  have ha : adj0 N.ls (lastI w) v = true := (near_mem ok).mp hv
  obtain ⟨_, b, _⟩ := lay_seen ok hu t (lastI w) (h1.ends w hw)
  refine ⟨huv, ?_⟩
  rcases b with e | ⟨c, r⟩
  · rw [e] at ha
    exact .one ha
  · exact .step r c ha
theorem pair_goes (ok : NetOk N) (hp : PairP N.ls os u v) : ∃ t, t < N.n.toNat ∧ (goesTo (nbN N) v (layW N os u t).1).isSome = true := by
  have hu := (hp.ins ok).1
  refine Classical.byContradiction fun hno => ?_
  have none_ : ∀ t, goesTo (nbN N) v (layW N os u t).1 = none := fun t => by
    by_cases c : (layW N os u t).1 = []
    · rw [c]
      rfl
    · cases e : goesTo (nbN N) v (layW N os u t).1 with
      | none => rfl
      | some r =>
        have := lay_n ok hu c
        exact absurd ⟨t, by omega, by rw [e]; rfl⟩ hno
  -- all that is seen at last
  have emp : ∀ t, N.n.toNat ≤ t → (layW N os u t).1 = [] := fun t ht => Classical.byContradiction fun c => by
    have := lay_n ok hu c
    omega
  have keep : ∀ s d, ∀ x ∈ (layW N os u s).2, x ∈ (layW N os u (s + d)).2 := fun s d => by
    induction d with
    | zero => exact fun x hx => hx
    | succ d ih =>
      intro x hx
      obtain ⟨_, hi⟩ := lay_ok (low := lowU os u) (nbN_lt ok) u (s + d)
      show x ∈ (layW N os u (s + d + 1)).2
      rw [hi.seen]
      exact List.mem_append.mpr (.inl (ih x hx))
  have clo : ∀ x ∈ (layW N os u N.n.toNat).2, ∀ y, adj0 N.ls x y = true → posOf y os < posOf u os → y ∈ (layW N os u N.n.toNat).2 := fun x hx y ha hl => by
    obtain ⟨_, _, s, hs, w, hw, e⟩ := lay_seen ok hu _ x hx
    obtain ⟨_, hi⟩ := lay_ok (low := lowU os u) (nbN_lt ok) u s
    have h1 := hi.clo w hw y (by rw [e]; exact (near_mem ok).mpr ha) (decide_eq_true hl)
    have sl : s + 1 ≤ N.n.toNat := lay_n ok hu fun c => by
      rw [c] at hw
      cases hw
    have := keep (s + 1) (N.n.toNat - (s + 1)) y h1
    rw [show s + 1 + (N.n.toNat - (s + 1)) = N.n.toNat by omega] at this
    exact this
  have nov : ∀ x ∈ (layW N os u N.n.toNat).2, adj0 N.ls x v = true → False := fun x hx ha => by
    obtain ⟨_, _, s, _, w, hw, e⟩ := lay_seen ok hu _ x hx
    exact goes_none (none_ s) w hw (by rw [e]; exact (near_mem ok).mpr ha)
  have u0 : u ∈ (layW N os u N.n.toNat).2 := by
    have := keep 0 N.n.toNat u List.mem_cons_self
    rw [Nat.zero_add] at this
    exact this
  have all : ∀ z, Rch (adj0 N.ls) (fun z => posOf z os < posOf u os) u z → (posOf z os < posOf u os → z ∈ (layW N os u N.n.toNat).2) ∧ (z = v → False) := fun z hz => by
    induction hz with
    | one a => exact ⟨fun hl => clo _ u0 _ a hl, fun e => nov _ u0 (by rw [← e]; exact a)⟩
    | step _ l a ih => exact ⟨fun hl => clo _ (ih.1 l) _ a hl, fun e => nov _ (ih.1 l) (by rw [← e]; exact a)⟩
  exact (all v hp.2).2 rfl
/-- the witness as it is found: in the first layer that has one -/
theorem wit_at {nb : Int → List Int} {low : Int → Bool} : ∀ (m t : Nat) {r : List Int}, t < m → goesTo nb v (lay nb low u t).1 = some r → (∀ s, s < t → goesTo nb v (lay nb low u s).1 = none) → witF nb low u v m = some r := by
  intro m t r htm h hb
  unfold witF
  have e : List.range m = List.range t ++ (t :: (List.range (m - t - 1)).map fun i => t + 1 + i) := by
    have h1 := List.range_add (n := t) (m := m - t)
    rw [show t + (m - t) = m by omega] at h1
    rw [h1]
    congr 1
    obtain ⟨k, hk⟩ : ∃ k, m - t = k + 1 := ⟨m - t - 1, by omega⟩
    rw [hk, List.range_succ_eq_map, List.map_cons, List.map_map, show k + 1 - 1 = k by omega]
    congr 1
    exact List.map_congr_left fun i _ => by
      show t + (i + 1) = t + 1 + i
      omega
  rw [e, List.findSome?_append]
  have n1 : (List.range t).findSome? (fun t => goesTo nb v (lay nb low u t).1) = none := List.findSome?_eq_none_iff.mpr fun s hs => hb s (List.mem_range.mp hs)
  rw [n1, Option.none_or, List.findSome?_cons, h]
end
/-! ### witness of the program -/
/-! ### the dict of ways -/
structure WaysAt (G H : Hp) (d ro : Addr) (g : Int → Option (List Int)) (c : Nat) : Prop where
  ex : ∃ kvs : List (L2.Key × V), H d = some (.dK kvs) ∧ kvs.length ≤ c ∧ (∀ x r, g x = some r → ∃ a, valV kvs (.inl x) = some (.ref a) ∧ H a = some (.lst ((r : List Int).map V.int)) ∧ a ≠ ro ∧ G a = none) ∧ ∀ x, g x = none → valV kvs (.inl x) = none
theorem WaysAt.to {G H H' : Hp} {d ro : Addr} {g : Int → Option (List Int)} {c : Nat} (h : WaysAt G H d ro g c) (s : Same H H') : WaysAt G H' d ro g c := by
  obtain ⟨kvs, h1, h2, h3, h4⟩ := h.ex
  exact ⟨kvs, s _ _ h1, h2, fun x r e => let ⟨a, e1, e2, e3⟩ := h3 x r e; ⟨a, e1, s _ _ e2, e3⟩, h4⟩
theorem WaysAt.updR {G H : Hp} {d ro : Addr} {g : Int → Option (List Int)} {c : Nat} {x : HO} (h : WaysAt G H d ro g c) (hd : d ≠ ro) : WaysAt G (upd H ro x) d ro g c := by
  obtain ⟨kvs, h1, h2, h3, h4⟩ := h.ex
  exact ⟨kvs, by rw [upd_ne hd]; exact h1, h2, fun x r e => let ⟨a, e1, e2, e3⟩ := h3 x r e; ⟨a, e1, by rw [upd_ne e3.1]; exact e2, e3⟩, h4⟩
theorem WaysAt.fresh {G H : Hp} {d ro ro' : Addr} {g : Int → Option (List Int)} {c : Nat} (h : WaysAt G H d ro g c) (n : H ro' = none) : WaysAt G H d ro' g c := by
  obtain ⟨kvs, h1, h2, h3, h4⟩ := h.ex
  exact ⟨kvs, h1, h2, fun x r e => let ⟨a, e1, e2, e3⟩ := h3 x r e; ⟨a, e1, e2, (fun z => by rw [z, n] at e2; cases e2), e3.2⟩, h4⟩
theorem WaysAt.fresh' {G H : Hp} {d ro : Addr} {g : Int → Option (List Int)} {c : Nat} (h : WaysAt G H d ro g c) (n : ∃ kv, H d = some (.dK kv)) : WaysAt G H d d g c := by
  obtain ⟨kvs, h1, h2, h3, h4⟩ := h.ex
  exact ⟨kvs, h1, h2, fun x r e => let ⟨a, e1, e2, e3⟩ := h3 x r e; ⟨a, e1, e2, (fun z => by rw [z, h1] at e2; cases e2), e3.2⟩, h4⟩
theorem WaysAt.grow {G H : Hp} {d ro : Addr} {g : Int → Option (List Int)} {c c' : Nat} (h : WaysAt G H d ro g c) (l : c ≤ c') : WaysAt G H d ro g c' := by
  obtain ⟨kvs, h1, h2, h3⟩ := h.ex
  exact ⟨kvs, h1, Nat.le_trans h2 l, h3⟩
theorem WaysAt.congr {G H : Hp} {d ro : Addr} {g g' : Int → Option (List Int)} {c : Nat} (h : WaysAt G H d ro g c) (e : ∀ x, g x = g' x) : WaysAt G H d ro g' c := by
  have : g = g' := funext e
  rw [← this]
  exact h
theorem vl_dnI {K : PySem.W.Frag} {σ : L2.St} {H : Hp} {ta td : TE} {o : Addr} {x : Int} {kvs : List (L2.Key × V)} (h1 : Vl ta σ H (.int x)) (h2 : Vl td σ H (.ref o)) (hd : H o = some (.dK kvs)) : An (tB (tDNotIn ta td)) σ H (!(valV kvs (.inl x)).isSome) := fun Q k => h1 _ (h2 _ ⟨o, _, rfl, DGet.k (k := .inl x) hd, _, rfl, k⟩)
def gS (S : List Int) (pf : Int → List Int) (v : Int) (vf : Option (List Int)) : Int → Option (List Int) := fun x => if x = v then vf else if x ∈ S then some (pf x) else none
theorem WaysAt.notIn {K : PySem.W.Frag} {σ : L2.St} {G H : Hp} {ta td : TE} {d ro : Addr} {g : Int → Option (List Int)} {c : Nat} {x : Int} (h : WaysAt G H d ro g c) (h1 : Vl ta σ H (.int x)) (h2 : Vl td σ H (.ref d)) : An (tB (tDNotIn ta td)) σ H (g x).isNone := by
  obtain ⟨kvs, e1, _, e3, e4⟩ := h.ex
  refine (vl_dnI (K := K) h1 h2 e1).is ?_
  cases e : g x with
  | none =>
    rw [e4 x e]
    rfl
  | some r =>
    obtain ⟨a, ea, _⟩ := e3 x r e
    rw [ea]
    rfl
section
variable {K : PySem.W.Frag} {σ : L2.St} {H : Hp} {D : Ends} {tw tb : TS} {td tx ty : TE}
/-- ways[y] = ways[x] + [y] -/
theorem q_wput {G : Hp} {d ro : Addr} {g : Int → Option (List Int)} {c : Nat} {x y : Int} {w : List Int} (hd : ∀ H', Vl td σ H' (.ref d)) (hx : ∀ H', Vl tx σ H' (.int x)) (hy : ∀ H', Vl ty σ H' (.int y)) (h : WaysAt G H d ro g c) (sG : Same G H) (hr : (H ro).isSome = true) (hg : g x = some w) (hw : w.length ≤ 100000) (hc : c ≤ 100000)
    (k : ∀ H', Same (but H d) (but H' d) → WaysAt G H' d ro (fun z => if z = y then some (w ++ [y]) else g z) (c + 1) → tw D σ H') : tSeq (sDPut td ty (tOp rCat (tDGet td tx) (tLst (tCons ty tNil)))) tw D σ H := by
  obtain ⟨kvs, e1, e2, e3, e4⟩ := h.ex
  obtain ⟨a, ea, el, _⟩ := e3 x w hg
  refine q_dputN (xs := (w ++ [y]).map V.int) (vn_catL (vl_dgetI (hd H) (hx H) e1 ea) el (vn_oneI (hy H)) (by show w.length + 1 ≤ 1000000; omega)) (fun H' _ => hd H') (fun H' _ => hy H') e1 (Nat.lt_of_le_of_lt (m := 100000) (by omega) (by decide)) fun b H4 s4 nb eb => ?_
  have bd : b ≠ d := (ne_of_none e1 nb).symm
  have br : b ≠ ro := fun z => by
    rw [← z, nb] at hr
    cases hr
  refine k _ (by rw [but_upd]; exact but_mono s4) ⟨_, upd_same, Nat.le_trans (length_putK _ _ _) (by omega), fun z r hz => ?_, fun z hz => ?_⟩
  · rw [valV_put]
    by_cases c1 : z = y
    · subst c1
      rw [if_pos rfl]
      rw [if_pos rfl] at hz
      cases hz
      exact ⟨b, rfl, by rw [upd_ne bd]; exact eb, br, Same.free sG nb⟩
    · rw [if_neg fun q => c1 (Sum.inl.inj q)]
      rw [if_neg c1] at hz
      obtain ⟨a', f1, f2, f3⟩ := e3 z r hz
      have ad : a' ≠ d := fun q => by
        rw [q, e1] at f2
        cases f2
      exact ⟨a', f1, by rw [upd_ne ad]; exact s4 _ _ f2, f3⟩
  · rw [valV_put]
    by_cases c1 : z = y
    · rw [if_pos c1] at hz
      cases hz
    · rw [if_neg fun q => c1 (Sum.inl.inj q)]
      rw [if_neg c1] at hz
      exact e4 z hz
theorem q_whileM {c : TT} (Pv : Nat → L2.St → Hp → Prop) (m0 : Nat) (h0 : Pv m0 σ H) (hs : ∀ m σ H, Pv m σ H → ∃ b, An c σ H b ∧ (b = true → tb { D with nx := fun σ' H' => ∃ m', m' < m ∧ Pv m' σ' H', ct := fun σ' H' => ∃ m', m' < m ∧ Pv m' σ' H', bk := tw D } σ H) ∧ (b = false → tw D σ H)) : tSeq (tWhile c tb) tw D σ H :=
  ⟨Pv, ⟨m0, h0⟩, fun m σ H p => by
    obtain ⟨b, hb, h1, h2⟩ := hs m σ H p
    refine hb _ ?_
    cases b with
    | true => exact ⟨_, fun _ _ q => q, h1 rfl⟩
    | false => exact h2 rfl⟩
end
section
variable {K : PySem.W.Frag} {σ : L2.St} {H : Hp} {tr : TA} {te : TE}
theorem lc_rows5 {j : Nat} {n : Int} {f : Int → List V} {Q : VK} (hl : Va tr σ H [.int n]) (h0 : 0 ≤ n) (hz : n ≤ 1000)
    (he : ∀ x : Int, 0 ≤ x → x < n → ∀ H', Same H H' → Vn te ((σ.set j none).set j (some (.int x))) H' (f x))
    (q : ∀ D H' (rw : List Addr), Same H H' → H D = none → H' D = some (.lst (rw.map V.ref)) → rw.length = n.toNat → D ∉ rw → (∀ (i : Nat) a, rw[i]? = some a → H a = none ∧ H' a = some (.lst (f (i : Nat)))) → Q (.ref D) H') : tLc (iRng1 tr) (gName j) tYes te [j] σ H Q := by
  refine hl _ ⟨n, rfl, by omega, by omega, fun D nD => lc_range (lo := 0) (n := n.toNat) (fun i H' => ∃ rw : List Addr, H' D = some (.lst (rw.map V.ref)) ∧ Same H H' ∧ rw.length = i ∧ D ∉ rw ∧ ∀ (i : Nat) a, rw[i]? = some a → H a = none ∧ H' a = some (.lst (f (i : Nat))))
    ⟨[], upd_same, same_upd nD, rfl, List.not_mem_nil, fun _ _ h => by simp at h⟩ (fun i H2 hi hP => ?_) (fun H2 hP => ?_)⟩
  · obtain ⟨rw_, hD, s2, hlen, hDn, hr⟩ := hP
    rw [Int.zero_add]
    refine ⟨?_, ?_⟩
    · show ((σ.set j none).set j (some (V.int i))).set j none = σ.set j none
      rw [List.set_set, List.set_set]
    · refine iteT (B := ∃ rw : List Addr, H2 D = some (.lst (rw.map V.ref)) ∧ Same H H2 ∧ rw.length = i + 1 ∧ D ∉ rw ∧ ∀ (i : Nat) a, rw[i]? = some a → H a = none ∧ H2 a = some (.lst (f (i : Nat)))) (he i (by omega) (by omega) H2 s2 _ fun p H3 s3 np hp => ⟨_, s3 _ _ hD, ?_, rw_ ++ [p], ?_, ?_, ?_, ?_, fun b a hb => ?_⟩)
      · rw [List.length_map]
        exact Nat.lt_of_le_of_lt (m := 1000000) (by omega) (by decide)
      · rw [upd_same, List.map_append]
        rfl
      · exact same_upd' (s2.trans s3) nD
      · rw [List.length_append, hlen]
        rfl
      · intro h
        rcases List.mem_append.mp h with h | h
        · exact hDn h
        · have e := List.mem_singleton.mp h
          rw [e, np] at hD
          cases hD
      · by_cases hbi : b < rw_.length
        · rw [List.getElem?_append_left hbi] at hb
          have := hr b a hb
          exact ⟨this.1, by
            rw [upd_ne (fun e => hDn (by rw [← e]; exact List.mem_of_getElem? hb))]
            exact s3 _ _ this.2⟩
        · rw [List.getElem?_append_right (by omega)] at hb
          have e0 : b - rw_.length = 0 := by
            have := (List.getElem?_eq_some_iff.mp hb).1
            simp at this
            exact this
          rw [e0] at hb
          cases hb
          have eb : b = i := by omega
          refine ⟨Same.free s2 np, ?_⟩
          rw [upd_ne (fun z => by rw [← z, np] at hD; cases hD), eb]
          exact hp
  · obtain ⟨rw_, hD, s2, hlen, hDn, hr⟩ := hP
    exact q D H2 rw_ s2 nD hD hlen hDn hr

end
theorem rngG5 {n : Int} {i : Nat} (h : i < n.toNat) : (rng n)[i]? = some (i : Int) := by
  unfold rng
  rw [List.getElem?_map, List.getElem?_range h]
  rfl
theorem layStep_len {nb : Int → List Int} {low : Int → Bool} {acc : List (List Int) × List Int} {w : List Int} : acc.2.length ≤ (layStep nb low acc w).2.length := by
  show acc.2.length ≤ (acc.2 ++ _).length
  rw [List.length_append]
  omega
theorem layFold_len {nb : Int → List Int} {low : Int → Bool} : ∀ (ws : List (List Int)) (acc : List (List Int) × List Int), acc.2.length ≤ (ws.foldl (layStep nb low) acc).2.length
  | [], _ => Nat.le_refl _
  | w :: ws, acc => Nat.le_trans layStep_len (layFold_len ws _)
theorem goes_snoc {nb : Int → List Int} {v : Int} {W : List (List Int)} {w : List Int} : goesTo nb v (W ++ [w]) = (goesTo nb v W).or (if v ∈ nb (lastI w) then some (w ++ [v]) else none) := by
  unfold goesTo
  rw [List.find?_append]
  cases e : W.find? fun w => decide (v ∈ nb (lastI w)) with
  | some r => rfl
  | none =>
    rw [Option.none_or]
    by_cases c : v ∈ nb (lastI w)
    · rw [List.find?_cons_of_pos (by exact decide_eq_true c), if_pos c]
      rfl
    · rw [List.find?_cons_of_neg (by exact fun z => c (of_decide_eq_true z)), if_neg c]
      rfl
abbrev sWitness : Stmt := topS 11
theorem scWitness : FnScope ["net", "order", "u", "v", "n", "rank", "place", "near", "ways", "layer", "reached", "other"] ["net", "order", "u", "v"] (defScope sWitness) := ⟨rfl, rfl, rfl, by decide +kernel, rfl, by decide +kernel, by decide +kernel⟩
def spWit (K : PySem.W.Frag) (CP : Addr) : Sp := fun vs H Q E => ∃ (v : V) (N : Net) (p : Addr) (os : List Int) (a b : Int), vs = [v, .ref p, .int a, .int b] ∧ Dp K H v (netD N) ∧ NetOk N ∧ SqL K H p (os.map V.int) ∧ OrdOk N.n os ∧
  (¬ PairP N.ls os a b → RaiseTo E H CP 0) ∧ (PairP N.ls os a b → ∀ H' q r, Same H H' → H q = none → witF (nbN N) (lowU os a) a b (N.n.toNat + 1) = some r → H' q = some (.lst (r.map V.int)) → Q (.ref q) H')
section
variable {P : Program} {w : World} {K : PySem.W.Frag} {mg : Str → Option Value} {base : Heap} {CN CP CW fI : Addr}
theorem ok_witness {f : Addr} {fd : FuncData} {k k1 k2 : Nat} (l1 : k1 ≤ k) (l2 : k2 ≤ k) (F : Fun K "witness" "witness" sWitness f fd) (hN : PySem.LowX.LowTxt K mg "NoPair" CW fI) (c_ranks : KalX P w K mg base k1 "ranks" ["order"] (spRk K CN)) (c_neighbours : KalX P w K mg base k2 "neighbours" ["net", "a"] (spNb K CP)) (mr : mg "range" = none) : FnOk P w K mg base (L2.CX P w) (k + 1) f fd ["net", "order", "u", "v"] (spWit K CW) := by
  refine F.okX scWitness (fun vs H Q E h => ?_) (fun cdv A outer s H vs Q E hr h => ?_)
  · obtain ⟨v, N, p, os, a, b, rfl, _⟩ := h
    rfl
  · obtain ⟨v, N, p, os, a, b, rfl, hNt, ok, hS, oo, q1, q2⟩ := h
    have hu := hu_of hr
    refine ⟨_, pss_cons (ps_set (i := 4) scWitness.nd rfl (.inl rfl) (pe_ix ix_tup (pv 0) pe_int (fun _ _ => rfl)))
      (pss_cons (ps_if (PW.pt (pw_or (pt_not (pt_chain op_le op_lt pe_int (pv 2) (pv 4))) (pw_or1 (pt_not (pt_chain op_le op_lt pe_int (pv 3) (pv 4))))))
      (pss_one (ps_raiseLow rfl hN hr (takes_of rfl rfl rfl rfl) (by exact (pa_cons pe_int pa_nil))))
      pss_nil)
      (pss_cons (ps_set (i := 5) scWitness.nd rfl (.inl rfl) (pe_kx (E := E) c_ranks hr (by first | decide | omega) (by rfl) (takes_of rfl rfl rfl rfl) (pa_cons (pv 1) pa_nil)))
      (pss_cons (ps_if (pt_cmpR op_ge (pe_ix ix_list (pv 5) (pv 2) (fun _ _ => rfl)) (pe_ix ix_list (pv 5) (pv 3) (fun _ _ => rfl)) (nomark _))
      (pss_one (ps_raiseLow rfl hN hr (takes_of rfl rfl rfl rfl) (by exact (pa_cons pe_int pa_nil))))
      pss_nil)
      (pss_cons (ps_setLc (i := 7) (own := [("place", 6)]) (g := gName 6) (tt := tYes) (te := (tCall (spNb K CP) [] (fun _ _ _ => False) (tCons (tVar 0) (tCons (tVar 6) tNil)))) (by rfl) scWitness.nd rfl rfl (sw_true rfl rfl rfl (by decide +kernel)) (pi_range1 (by rfl) mr (pa_cons (pv 4) pa_nil)) (blkOk_by (own := [("place", 6)]) (N := ["net", "order", "u", "v", "n", "rank", "place", "near", "ways", "layer", "reached", "other"]) (sc := defScope sWitness) (by decide +kernel)) (fun _ _ _ _ _ => pg_name (i := 6) scWitness.nd rfl (Or.inl rfl)) (fun _ _ _ _ _ => by exact pts_nil) (fun _ _ _ _ _ => by exact (pe_kx (E := fun _ _ _ => False) c_neighbours hr (by first | decide | omega) (by rfl) takes0 (pa_cons (pv 0) (pa_cons (pv 6) pa_nil)))))
      (pss_cons (ps_set (i := 8) scWitness.nd rfl (.inl rfl) (pe_disp (pps_cons (pv 2) (pe_lst (pa_cons (pv 2) pa_nil)) pps_nil) (by rfl) (by rfl) (by simp) (by decide)))
      (pss_cons (ps_set (i := 9) scWitness.nd rfl (.inl rfl) (pe_lst (pa_cons (pv 2) pa_nil)))
      (pss_cons (ps_while (passes_of rfl) (PW.pt (pw_and (pt_truth (pv 9) (by intro _; rfl)) (pw_and1 (pt_cmp (pc_dnotin hu (pv 3) (pv 8))))))
      (pss_cons (ps_set (i := 10) scWitness.nd rfl (.inl rfl) (pe_lst pa_nil))
        (pss_cons (ps_for (passes_of rfl) rfl (pi_list (pv 9)) (pg_name (i := 6) scWitness.nd rfl (.inl rfl))
        (pss_one (ps_for (passes_of rfl) rfl (pi_list (pe_ix ix_list (pv 7) (pv 6) (fun _ _ => rfl))) (pg_name (i := 11) scWitness.nd rfl (.inl rfl))
          (pss_one (ps_if (PW.pt (pw_and (pt_cmp (pc_dnotin hu (pv 11) (pv 8))) (pw_and1 (PW.pt (pw_or (pt_cmpR op_eq (pv 11) (pv 3) (nomark _)) (pw_or1 (pt_cmpR op_lt (pe_ix ix_list (pv 5) (pv 11) (fun _ _ => rfl)) (pe_ix ix_list (pv 5) (pv 2) (fun _ _ => rfl)) (nomark _))))))))
            (pss_cons (ps_dput hu (pv 8) (pv 11) (pe_op op_cat (pe_dget hu (pv 8) (pv 6) (fun _ _ => rfl)) (pe_lst (pa_cons (pv 11) pa_nil))) rfl)
              (pss_one (ps_expr (pe_bm PySem.F.plainAttrs_list PySem.F.slot_list_append PySem.F.type_list_append mt_append (pv 10) (pa_cons (pv 11) pa_nil)))))
            pss_nil)))))
        (pss_one (ps_set (i := 9) scWitness.nd rfl (.inl rfl) (pv 10))))))
      (pss_cons (ps_if (pt_cmp (pc_dnotin hu (pv 3) (pv 8)))
      (pss_one (ps_raiseLow rfl hN hr (takes_of rfl rfl rfl rfl) (by exact (pa_cons pe_int pa_nil))))
      pss_nil)
      (pss_one (ps_ret (pe_dget hu (pv 8) (pv 3) (fun _ _ => rfl)))))))))))), ?_⟩
    obtain ⟨p0, c, xs, rfl, hp0, hc, hx⟩ := Dp.net_inv hNt
    have on := oo.len
    have n40 := ok.n40
    have n1 := ok.n1
    have l16 := ok.len
    have hbad : badAt os = none := bad_iff.mpr (by
      rw [show (os.length : Int) = N.n by omega]
      exact oo)
    refine q_asg (vl_ixT (K := K) (vl_var rfl) vl_c hp0 (atI_nat (j := 0) rfl)) ?_
    refine q_when (b := (!(decide (0 ≤ a) && decide (a < N.n))) || !(decide (0 ≤ b) && decide (b < N.n))) (an_or (k := !(decide (0 ≤ a) && decide (a < N.n))) (m := !(decide (0 ≤ b) && decide (b < N.n))) (an_not (an_test (vl_chainI vl_c (vl_var rfl) (vl_var rfl)))) fun _ => an_not (an_test (vl_chainI vl_c (vl_var rfl) (vl_var rfl)))) (fun hb => ?_) (fun hb => ?_)
    · exact raise_now (va_cons vl_c va_nil) (q1 fun hp => by
        have := hp.ins ok
        rw [decide_eq_true this.1.1, decide_eq_true this.1.2, decide_eq_true this.2.1, decide_eq_true this.2.2] at hb
        cases hb)
    have hin : (0 ≤ a ∧ a < N.n) ∧ 0 ≤ b ∧ b < N.n := by
      rw [Bool.or_eq_false_iff, Bool.not_eq_false', Bool.not_eq_false', Bool.and_eq_true, Bool.and_eq_true, decide_eq_true_eq, decide_eq_true_eq, decide_eq_true_eq, decide_eq_true_eq] at hb
      exact hb
    clear hb
    refine q_asgE ⟨.ref p, rfl, p, os, rfl, hS, by omega, ?_⟩
    rw [hbad]
    intro G rk_ sG nrk erk
    have gr : ∀ x, (0 ≤ x ∧ x < N.n) → atI ((rk os).map V.int) x = some (.int (posOf x os : Nat)) := fun x hx => by
      obtain ⟨i, rfl⟩ := Int.eq_ofNat_of_zero_le hx.1
      refine atI_nat ?_
      unfold rk
      rw [List.getElem?_map, List.getElem?_map, rngG5 (by omega)]
      rfl
    refine q_when (b := decide ((posOf b os : Int) ≤ (posOf a os : Int))) (an_test (vl_I0 (g := fun i j => .bl (decide (j ≤ i))) (vl_ixL (vl_var rfl) (vl_var rfl) (.of erk) (gr a hin.1)) (vl_ixL (vl_var rfl) (vl_var rfl) (.of erk) (gr b hin.2)))) (fun hb => ?_) (fun hb => ?_)
    · refine raise_now (va_cons vl_c va_nil) (RaiseTo.to (q1 fun hp => ?_) sG)
      have := hp.1
      have := of_decide_eq_true hb
      omega
    have hab : posOf a os < posOf b os := by
      have := of_decide_eq_false hb
      omega
    clear hb
    have hne : a ≠ b := fun e => by
      rw [e] at hab
      exact Nat.lt_irrefl _ hab
    have hNg := Dp.to hNt sG
    -- near
    refine q_asgE (lc_rows5 (n := N.n) (f := fun x => (nearOf x N.ls).map V.int) (va_cons (vl_var rfl) va_nil) (by omega) (by omega) (fun x h0 h1 H' s' Q q => ⟨_, rfl, .int x, rfl, _, x, N, rfl, Dp.to hNg s', by omega, fun h => absurd ⟨h0, h1⟩ h, fun _ H2 p s2 np ep => q p H2 s2 np ep⟩) fun nl H1 rw_ s1 nnl enl rl rnn rr => ?_)
    have erk1 := s1 _ _ erk
    -- ways
    refine q_asgE fun dp ndp => ⟨.int a, rfl, (vn_oneI (n := a) (vl_var rfl)) _ fun L H2 s2 nL eL => ⟨s2 _ _ upd_same, [(.inl a, .ref L)], rfl, by show 1 ≤ 15; decide, ?_⟩⟩
    have Ld : L ≠ dp := (ne_of_none upd_same nL).symm
    have s12 : Same H1 (upd H2 dp (.dK [(.inl a, .ref L)])) := same_upd' ((same_upd ndp).trans s2) ndp
    have hW0 : WaysAt H1 (upd H2 dp (.dK [(.inl a, .ref L)])) dp dp (gS [a] (fun _ => [a]) b none) 1 := by
      refine ⟨_, upd_same, Nat.le_refl _, fun x r hx => ?_, fun x hx => ?_⟩
      · unfold gS at hx
        by_cases c1 : x = b
        · rw [if_pos c1] at hx
          cases hx
        · rw [if_neg c1] at hx
          by_cases c2 : x ∈ [a]
          · rw [if_pos c2] at hx
            cases hx
            rw [List.mem_singleton.mp c2]
            exact ⟨L, by
              unfold valV
              rw [List.find?_cons_of_pos (by exact decide_eq_true rfl)]
              rfl, by rw [upd_ne Ld]; exact eL, Ld, Same.free ((same_upd ndp).trans (Same.refl _)) nL⟩
          · rw [if_neg c2] at hx
            cases hx
      · have : x ≠ a := fun e => by
          rw [e] at hx
          unfold gS at hx
          rw [if_neg hne, if_pos List.mem_cons_self] at hx
          cases hx
        unfold valV
        rw [List.find?_cons_of_neg (by exact fun z => this (Sum.inl.inj (of_decide_eq_true z)).symm)]
        rfl
    change tSeq _ _ _ _ (upd H2 dp (.dK [(.inl a, .ref L)]))
    generalize upd H2 dp (.dK [(.inl a, .ref L)]) = H3 at s12 hW0 ⊢
    -- layer
    refine q_asgN (vn_oneI (n := a) (vl_var rfl)) fun ly0 H4 s4 nly0 ely0 => ?_
    have lowb : lowU os a b = false := decide_eq_false (by omega)
    refine q_whileM (fun m σ H5 => ∃ y6 y10 y11 ly, σ = [some (.ref p0), some (.ref p), some (.int a), some (.int b), some (.int N.n), some (.ref rk_), y6, some (.ref nl), some (.ref dp), some (.ref ly), y10, y11] ∧ Same H1 H5 ∧
      ((∃ t pf, m = N.n.toNat + 1 - t ∧ t ≤ N.n.toNat ∧ (∀ s, s < t → goesTo (nbN N) b (layW N os a s).1 = none) ∧ WaysAt H1 H5 dp dp (gS (layW N os a t).2 pf b none) (1 + 2000 * t) ∧ H5 ly = some (.lst (((layW N os a t).1.map lastI).map V.int)) ∧ ∀ z ∈ (layW N os a t).1, pf (lastI z) = z) ∨
        ∃ rr S pf R, WaysAt H1 H5 dp dp (gS S pf b (some rr)) 100000 ∧ H5 ly = some (.lst R) ∧ ∃ t, t < N.n.toNat ∧ goesTo (nbN N) b (layW N os a t).1 = some rr ∧ ∀ s, s < t → goesTo (nbN N) b (layW N os a s).1 = none))
      (N.n.toNat + 1) ⟨_, _, _, _, rfl, s12.trans s4, .inl ⟨0, fun _ => [a], rfl, Nat.zero_le _, fun s h => absurd h (Nat.not_lt_zero _), hW0.to s4, ely0, fun z hz => by rw [List.mem_singleton.mp hz]⟩⟩ (fun m σ H5 hP => ?_)
    obtain ⟨y6, y10, y11, ly, rfl, s5, hA | hB⟩ := hP
    · obtain ⟨t, pf, rfl, ht, hno, hW, ely, hpf⟩ := hA
      refine ⟨(!((layW N os a t).1.map lastI).isEmpty) && (gS (layW N os a t).2 pf b none b).isNone, an_and (k := !((layW N os a t).1.map lastI).isEmpty) (m := (gS (layW N os a t).2 pf b none b).isNone) (fun Q k => ⟨_, rfl, _, .inl ⟨_, .of ely, rfl⟩, by
        rw [List.isEmpty_map]
        exact k⟩) fun _ => hW.notIn (K := K) (vl_var rfl) (vl_var rfl), fun hb => ?_, fun hb => ?_⟩
      · -- a layer
        have hWne : (layW N os a t).1 ≠ [] := fun e => by
          rw [e] at hb
          cases hb
        have htn := lay_n ok hin.1 hWne
        obtain ⟨hL, hI⟩ := lay_ok (low := lowU os a) (nbN_lt ok) a t
        have hS40 : (layW N os a (t + 1)).2.length ≤ N.n.toNat := by
          obtain ⟨hL1, _⟩ := lay_ok (low := lowU os a) (nbN_lt ok) a (t + 1)
          have := sub_len (ys := rng N.n) hL1.nd fun x hx => mem_rng.mpr (lay_seen ok hin.1 (t + 1) x hx).1
          rw [len_rng] at this
          exact this
        have eN : layW N os a (t + 1) = (layW N os a t).1.foldl (layStep (nbN N) (lowU os a)) ([], (layW N os a t).2) := rfl
        have ends_in : ∀ w ∈ (layW N os a t).1, 0 ≤ lastI w ∧ lastI w < N.n := fun w hw => (lay_seen ok hin.1 t _ (hL.ends w hw)).1
        have bS : ∀ x ∈ (layW N os a t).2, x ≠ b := fun x hx e => by
          rcases hL.seen x hx with z | z
          · exact hne (z.symm.trans e)
          · rw [e, lowb] at z
            cases z
        rw [eN] at hS40
        generalize hW' : (layW N os a t).1 = W at *
        generalize hS' : (layW N os a t).2 = S at *
        have lenW : W.length ≤ N.n.toNat := by
          have nd : (W.map lastI).Nodup := List.pairwise_map.mpr (hL.srt.imp_of_mem fun ha hb hlt e => by
            rw [hL.inj _ ha _ hb e] at hlt
            exact List.lt_irrefl _ hlt)
          have := sub_len (ys := rng N.n) nd fun x hx => by
            obtain ⟨w, hw, rfl⟩ := List.mem_map.mp hx
            exact mem_rng.mpr (ends_in w hw)
          rw [len_rng, List.length_map] at this
          exact this
        refine q_lnew fun ro nro => ?_
        have s6 : Same H5 (upd H5 ro (.lst [])) := same_upd nro
        have lyro : ly ≠ ro := ne_of_none ely nro
        obtain ⟨kv0, ekv0, _⟩ := hW.ex
        have dpro : dp ≠ ro := ne_of_none ekv0 nro
        have nro1 : H1 ro = none := Same.free s5 nro
        refine q_forL (K := K) (j := 6) (xs := (W.map lastI).map V.int) (vl_var rfl) (.of (s6 _ _ ely))
          (fun i σ H6 => ∃ y6 y11 R pf, σ = [some (.ref p0), some (.ref p), some (.int a), some (.int b), some (.int N.n), some (.ref rk_), y6, some (.ref nl), some (.ref dp), some (.ref ly), some (.ref ro), y11] ∧ Same H1 H6 ∧ H6 ly = some (.lst ((W.map lastI).map V.int)) ∧
            WaysAt H1 H6 dp ro (gS ((W.take i).foldl (layStep (nbN N) (lowU os a)) ([], S)).2 pf b (goesTo (nbN N) b (W.take i))) (1 + 2000 * t + 41 * i) ∧ H6 ro = some (.lst ((R : List Int).map V.int)) ∧ (goesTo (nbN N) b (W.take i) = none → R = ((W.take i).foldl (layStep (nbN N) (lowU os a)) ([], S)).1.map lastI) ∧ R.length ≤ 41 * i ∧
            (∀ z ∈ W, pf (lastI z) = z) ∧ ∀ z ∈ ((W.take i).foldl (layStep (nbN N) (lowU os a)) ([], S)).1, pf (lastI z) = z)
          ⟨_, _, [], pf, rfl, s5.trans s6, s6 _ _ ely, ((hW.fresh nro).to s6).grow (by omega), upd_same, fun _ => rfl, by simp, hpf, fun _ h => (nomatch h)⟩ (fun i σ H6 hP => ?_) (fun i x0 σ H6 hi hP => ?_) (fun σ H6 hP => ?_)
        · obtain ⟨_, _, _, _, _, _, e, _⟩ := hP
          exact .of e
        · obtain ⟨y6, y11, R, pf', rfl, s7, ely6, hW6, ero, hR, hRl, hp1, hp2⟩ := hP
          rw [List.getElem?_map, List.getElem?_map] at hi
          cases hg : W[i]? with
          | none =>
            rw [hg] at hi
            cases hi
          | some w =>
            rw [hg] at hi
            cases hi
            have hwm := List.mem_of_getElem? hg
            have hil := (List.getElem?_eq_some_iff.mp hg).1
            have hx := ends_in w hwm
            have hIi := LayI.fold (low := lowU os a) (nbN_lt ok) (W.take i) [] [] S (LayI.start (k := t + 1) hL.nd) (by rw [List.nil_append]; exact List.Pairwise.sublist (List.take_sublist i W) hL.srt) (by rw [List.nil_append]; exact fun z hz => hL.len z (List.mem_of_mem_take hz))
            have estep : (W.take (i + 1)).foldl (layStep (nbN N) (lowU os a)) ([], S) = layStep (nbN N) (lowU os a) ((W.take i).foldl (layStep (nbN N) (lowU os a)) ([], S)) w := by
              rw [take_snoc hg, List.foldl_append]
              rfl
            have egoes : goesTo (nbN N) b (W.take (i + 1)) = (goesTo (nbN N) b (W.take i)).or (if b ∈ nbN N (lastI w) then some (w ++ [b]) else none) := by rw [take_snoc hg, goes_snoc]
            rw [estep, egoes]
            generalize (W.take i).foldl (layStep (nbN N) (lowU os a)) ([], S) = fi at *
            obtain ⟨L0, S0⟩ := fi
            generalize goesTo (nbN N) b (W.take i) = vf0 at *
            have hS0 : S0 = S ++ L0.map lastI := hIi.seen
            have inS0 : ∀ z ∈ W, lastI z ∈ S0 := fun z hz => by
              rw [hS0]
              exact List.mem_append.mpr (.inl (hL.ends z hz))
            have inL0 : ∀ z ∈ L0, lastI z ∈ S0 := fun z hz => by
              rw [hS0]
              exact List.mem_append.mpr (.inr (List.mem_map.mpr ⟨z, hz, rfl⟩))
            have wb : lastI w ≠ b := bS _ (hL.ends w hwm)
            have wlen := hL.len w hwm
            obtain ⟨k', hk⟩ := Int.eq_ofNat_of_zero_le hx.1
            have hkn : k' < rw_.length := by
              rw [rl]
              omega
            have han := List.getElem?_eq_getElem hkn
            generalize rw_[k'] = an at han
            have ean : H1 an = some (.lst ((nbN N (lastI w)).map V.int)) := by
              rw [hk]
              exact (rr k' an han).2
            have nd := near_nodup ok (lastI w)
            have nl40 : (nbN N (lastI w)).length ≤ N.n.toNat := by
              have := sub_len (ys := rng N.n) nd fun x hx => mem_rng.mpr (adj0_in ok ((near_mem ok).mp hx)).2.1
              rw [len_rng] at this
              exact this
            obtain ⟨T, hT⟩ : ∃ T : Nat → List Int, ∀ j, T j = ((nbN N (lastI w)).take j).filter fun y => lowU os a y && !decide (y ∈ S0) := ⟨_, fun _ => rfl⟩
            obtain ⟨V_, hV⟩ : ∃ V_ : Nat → Option (List Int), ∀ j, V_ j = vf0.or (if b ∈ (nbN N (lastI w)).take j then some (w ++ [b]) else none) := ⟨_, fun _ => rfl⟩
            have Tend : newS (nbN N) (lowU os a) S0 (lastI w) = T (nbN N (lastI w)).length := by
              rw [hT, List.take_length]
              rfl
            have Vend : vf0.or (if b ∈ nbN N (lastI w) then some (w ++ [b]) else none) = V_ (nbN N (lastI w)).length := by
              rw [hV, List.take_length]
            have Tsub : ∀ j y, y ∈ T j → y ∈ (nbN N (lastI w)).take j ∧ lowU os a y = true ∧ y ∉ S0 := fun j y hy => by
              rw [hT, List.mem_filter, Bool.and_eq_true, Bool.not_eq_true', decide_eq_false_iff_not] at hy
              exact hy
            refine g_forL (K := K) (j := 11) (xs := (nbN N (lastI w)).map V.int) (vl_ixL (vl_var rfl) (vl_var rfl) (.of (s7 _ _ enl)) (by
              rw [hk]
              exact atI_nat (by
                rw [List.getElem?_map, han]
                rfl))) (.of (s7 _ _ ean))
              (fun j σ H7 => ∃ y11 R pf, σ = [some (.ref p0), some (.ref p), some (.int a), some (.int b), some (.int N.n), some (.ref rk_), some (.int (lastI w)), some (.ref nl), some (.ref dp), some (.ref ly), some (.ref ro), y11] ∧ Same H1 H7 ∧ H7 ly = some (.lst ((W.map lastI).map V.int)) ∧
                WaysAt H1 H7 dp ro (gS (S0 ++ T j) pf b (V_ j)) (1 + 2000 * t + 41 * i + j) ∧ H7 ro = some (.lst ((R : List Int).map V.int)) ∧ (V_ j = none → R = (L0 ++ (T j).map fun y => w ++ [y]).map lastI) ∧ R.length ≤ 41 * i + j ∧
                (∀ z ∈ W, pf (lastI z) = z) ∧ ∀ z ∈ L0 ++ (T j).map (fun y => w ++ [y]), pf (lastI z) = z)
              ⟨_, R, pf', rfl, s7, ely6, ?_, ero, ?_, hRl, hp1, ?_⟩ (fun j σ H7 hP => ?_) (fun j x1 σ H7 hj hP => ?_) (fun σ H7 hP => ?_)
            · have e1 : T 0 = [] := by rw [hT]; rfl
              have e2 : V_ 0 = vf0 := by
                rw [hV, List.take_zero, if_neg List.not_mem_nil, Option.or_none]
              rw [e1, e2, List.append_nil]
              exact hW6
            · have e1 : T 0 = [] := by rw [hT]; rfl
              have e2 : V_ 0 = vf0 := by
                rw [hV, List.take_zero, if_neg List.not_mem_nil, Option.or_none]
              rw [e1, e2, List.map_nil, List.append_nil]
              exact hR
            · have e1 : T 0 = [] := by rw [hT]; rfl
              rw [e1, List.map_nil, List.append_nil]
              exact hp2
            · obtain ⟨_, _, _, _, e, _⟩ := hP
              exact .of (e _ _ ean)
            · obtain ⟨y11, R, pf, rfl, s8, ely8, hW8, ero8, hR8, hRl8, hp8, hp9⟩ := hP
              rw [List.getElem?_map] at hj
              cases hgj : (nbN N (lastI w))[j]? with
              | none =>
                rw [hgj] at hj
                cases hj
              | some y0 =>
                rw [hgj] at hj
                cases hj
                have hjl := (List.getElem?_eq_some_iff.mp hgj).1
                have hy0 := (adj0_in ok ((near_mem ok).mp (List.mem_of_getElem? hgj))).2.1
                have ntk : y0 ∉ (nbN N (lastI w)).take j := fun hm => by
                  have := List.Nodup.sublist (List.take_sublist (j + 1) (nbN N (lastI w))) nd
                  rw [take_snoc hgj] at this
                  exact (List.nodup_append.mp this).2.2 y0 hm y0 List.mem_cons_self rfl
                have nT : y0 ∉ T j := fun hm => ntk (Tsub j y0 hm).1
                have Tnext : T (j + 1) = if lowU os a y0 = true ∧ y0 ∉ S0 then T j ++ [y0] else T j := by
                  rw [hT, hT, take_snoc hgj, List.filter_append]
                  by_cases c1 : lowU os a y0 = true ∧ y0 ∉ S0
                  · rw [if_pos c1, List.filter_cons_of_pos (by rw [c1.1, decide_eq_false c1.2]; rfl), List.filter_nil]
                  · rw [if_neg c1, List.filter_cons_of_neg (by
                      rw [Bool.and_eq_true, Bool.not_eq_true', decide_eq_false_iff_not]
                      exact c1), List.filter_nil, List.append_nil]
                have Vnext : y0 ≠ b → V_ (j + 1) = V_ j := fun hne => by
                  rw [hV, hV, take_snoc hgj]
                  by_cases c1 : b ∈ (nbN N (lastI w)).take j
                  · rw [if_pos (List.mem_append.mpr (.inl c1)), if_pos c1]
                  · rw [if_neg (fun h => (List.mem_append.mp h).elim c1 fun h => hne (List.mem_singleton.mp h).symm), if_neg c1]
                have erk8 := s8 _ _ erk1
                refine g_when (b := (gS (S0 ++ T j) pf b (V_ j) y0).isNone && (decide (y0 = b) || decide (posOf y0 os < posOf a os))) (an_and (k := (gS (S0 ++ T j) pf b (V_ j) y0).isNone) (m := decide (y0 = b) || decide (posOf y0 os < posOf a os)) (hW8.notIn (K := K) (vl_var rfl) (vl_var rfl)) fun _ => an_or (k := decide (y0 = b)) (m := decide (posOf y0 os < posOf a os)) (an_test ((vl_eq (vl_var rfl) (vl_var rfl) rfl).is (congrArg V.bl dI))) fun _ => an_test ((vl_I0 (g := fun i j => .bl (decide (i < j))) (vl_ixL (vl_var rfl) (vl_var rfl) (.of erk8) (gr y0 hy0)) (vl_ixL (vl_var rfl) (vl_var rfl) (.of erk8) (gr a hin.1))).is (congrArg V.bl (by
                  rw [decide_eq_decide]
                  exact Int.ofNat_lt)))) (fun hc => ?_) (fun hc => ?_)
                · rw [Bool.and_eq_true, Option.isNone_iff_eq_none, Bool.or_eq_true, decide_eq_true_eq, decide_eq_true_eq] at hc
                  obtain ⟨hc1, hc2⟩ := hc
                  have egw : gS (S0 ++ T j) pf b (V_ j) (lastI w) = some w := by
                    unfold gS
                    rw [if_neg wb, if_pos (List.mem_append.mpr (.inl (inS0 w hwm))), hp8 w hwm]
                  refine q_wput (x := lastI w) (y := y0) (w := w) (fun _ => vl_var rfl) (fun _ => vl_var rfl) (fun _ => vl_var rfl) hW8 s8 (by rw [ero8]; rfl) egw (by omega) (by omega) fun H8 s9 hW9 => ?_
                  have keep : ∀ x y, H7 x = some y → x ≠ dp → H8 x = some y := fun x y e hne => but_same _ _ (s9 _ _ (by rw [but_ne hne]; exact e))
                  have s18 : Same H1 H8 := fun x y e => keep x y (s8 _ _ e) fun q => by
                    rw [q, ndp] at e
                    cases e
                  have lydp : ly ≠ dp := fun q => by
                    obtain ⟨kv, e, _⟩ := hW8.ex
                    rw [q, e] at ely8
                    cases ely8
                  have ero9 := keep ro _ ero8 (fun q => dpro q.symm)
                  refine g_app (v := .int y0) (vl_var rfl) ero9 (vl_var rfl) (Nat.lt_of_le_of_lt (m := 100000) (by rw [List.length_map]; omega) (by decide)) ?_
                  by_cases c1 : y0 = b
                  · subst c1
                    have hTn : T (j + 1) = T j := by
                      rw [Tnext, if_neg (fun h => by rw [lowb] at h; cases h.1)]
                    have hVj : V_ j = none := by
                      have : gS (S0 ++ T j) pf y0 (V_ j) y0 = V_ j := if_pos rfl
                      rw [← this]
                      exact hc1
                    have hVn : V_ (j + 1) = some (w ++ [y0]) := by
                      have h0 : vf0 = none := by
                        rw [hV] at hVj
                        cases e : vf0 with
                        | none => rfl
                        | some r =>
                          rw [e] at hVj
                          cases hVj
                      rw [hV, h0, Option.none_or, take_snoc hgj, if_pos (List.mem_append.mpr (.inr List.mem_cons_self))]
                    refine ⟨_, R ++ [y0], pf, rfl, same_upd' s18 nro1, by rw [upd_ne lyro]; exact keep ly _ ely8 lydp, (WaysAt.congr (hW9.grow (by omega)) fun x => ?_).updR dpro, by rw [upd_same, List.map_append]; rfl, fun h => ?_, ?_, hp8, ?_⟩
                    · rw [hTn, hVn]
                      unfold gS
                      by_cases c2 : x = y0
                      · rw [if_pos c2, if_pos c2]
                      · rw [if_neg c2, if_neg c2, if_neg c2]
                    · rw [hVn] at h
                      cases h
                    · rw [List.length_append]
                      show R.length + 1 ≤ _
                      omega
                    · rw [hTn]
                      exact hp9
                  · have hlow : lowU os a y0 = true := decide_eq_true (hc2.resolve_left c1)
                    have nS : y0 ∉ S0 ++ T j := fun hm => by
                      have : gS (S0 ++ T j) pf b (V_ j) y0 = some (pf y0) := by
                        unfold gS
                        rw [if_neg c1, if_pos hm]
                      rw [this] at hc1
                      cases hc1
                    have nS0 : y0 ∉ S0 := fun h => nS (List.mem_append.mpr (.inl h))
                    have hTn : T (j + 1) = T j ++ [y0] := by rw [Tnext, if_pos ⟨hlow, nS0⟩]
                    have hVn := Vnext c1
                    refine ⟨_, R ++ [y0], fun z => if z = y0 then w ++ [y0] else pf z, rfl, same_upd' s18 nro1, by rw [upd_ne lyro]; exact keep ly _ ely8 lydp, (WaysAt.congr (hW9.grow (by omega)) fun x => ?_).updR dpro, by rw [upd_same, List.map_append]; rfl, fun h => ?_, ?_, fun z hz => ?_, fun z hz => ?_⟩
                    · rw [hTn, hVn]
                      unfold gS
                      by_cases c2 : x = y0
                      · rw [if_pos c2, if_neg (by rw [c2]; exact c1), if_pos (by rw [c2]; simp)]
                        show some (w ++ [y0]) = some (if x = y0 then w ++ [y0] else pf x)
                        rw [if_pos c2]
                      · rw [if_neg c2]
                        by_cases c3 : x = b
                        · rw [if_pos c3, if_pos c3]
                        · rw [if_neg c3, if_neg c3]
                          by_cases c4 : x ∈ S0 ++ T j
                          · rw [if_pos c4, if_pos (by
                              rw [← List.append_assoc]
                              exact List.mem_append.mpr (.inl c4))]
                            show some (pf x) = some (if x = y0 then w ++ [y0] else pf x)
                            rw [if_neg c2]
                          · rw [if_neg c4, if_neg (fun h => by
                              rw [← List.append_assoc] at h
                              exact (List.mem_append.mp h).elim c4 fun h => c2 (List.mem_singleton.mp h))]
                    · rw [hVn] at h
                      rw [hR8 h, hTn, List.map_append, List.map_append, List.map_append, List.map_append, List.append_assoc]
                      congr 2
                      show [y0] = [lastI (w ++ [y0])]
                      rw [lastI_app]
                    · rw [List.length_append]
                      show R.length + 1 ≤ _
                      omega
                    · show (if lastI z = y0 then w ++ [y0] else pf (lastI z)) = z
                      rw [if_neg (fun e => nS0 (by rw [← e]; exact inS0 z hz)), hp8 z hz]
                    · show (if lastI z = y0 then w ++ [y0] else pf (lastI z)) = z
                      rw [hTn, List.map_append] at hz
                      rcases List.mem_append.mp hz with hz | hz
                      · rw [if_neg (fun e => nS0 (by rw [← e]; exact inL0 z hz)), hp9 z (List.mem_append.mpr (.inl hz))]
                      · rcases List.mem_append.mp hz with hz | hz
                        · have hz9 := hp9 z (List.mem_append.mpr (.inr hz))
                          obtain ⟨y, hy, rfl⟩ := List.mem_map.mp hz
                          rw [lastI_app] at hz9 ⊢
                          rw [if_neg (fun e => nT (by rw [← e]; exact hy)), hz9]
                        · obtain ⟨y, hy, rfl⟩ := List.mem_map.mp hz
                          rw [List.mem_singleton.mp hy, lastI_app, if_pos rfl]
                · have nx : T (j + 1) = T j ∧ V_ (j + 1) = V_ j := by
                    by_cases c1 : y0 = b
                    · subst c1
                      refine ⟨by rw [Tnext, if_neg (fun h => by rw [lowb] at h; cases h.1)], ?_⟩
                      have hg1 : gS (S0 ++ T j) pf y0 (V_ j) y0 = V_ j := if_pos rfl
                      rw [hg1, decide_eq_true (rfl : y0 = y0), Bool.true_or, Bool.and_true] at hc
                      have hvj : V_ j = vf0 := by rw [hV, if_neg ntk, Option.or_none]
                      rw [hvj] at hc ⊢
                      cases e : vf0 with
                      | none =>
                        rw [e] at hc
                        cases hc
                      | some r => rw [hV, e, Option.some_or]
                    · refine ⟨?_, Vnext c1⟩
                      rw [Tnext, if_neg]
                      rintro ⟨h1, h2⟩
                      have : gS (S0 ++ T j) pf b (V_ j) y0 = none := by
                        unfold gS
                        rw [if_neg c1, if_neg (fun h => (List.mem_append.mp h).elim h2 nT)]
                      rw [this, (show decide (posOf y0 os < posOf a os) = true from h1), Bool.or_true] at hc
                      cases hc
                  rw [nx.1, nx.2]
                  exact ⟨_, R, pf, rfl, s8, ely8, hW8.grow (by omega), ero8, hR8, by omega, hp8, hp9⟩
            · obtain ⟨y11, R, pf, rfl, s8, ely8, hW8, ero8, hR8, hRl8, hp8, hp9⟩ := hP
              rw [List.length_map] at hW8 hR8 hRl8 hp9
              rw [← Tend] at hW8 hR8 hp9
              rw [← Vend] at hW8 hR8
              exact ⟨_, _, R, pf, rfl, s8, ely8, hW8.grow (by omega), ero8, hR8, by omega, hp8, hp9⟩
        · obtain ⟨y6, y11, R, pf', rfl, s7, ely6, hW6, ero, hR, hRl, hp1, hp2⟩ := hP
          rw [List.length_map, List.length_map, List.take_length] at hW6 hR hp2
          refine g_asg (v := .ref ro) (vl_var rfl) ?_
          have lW : W.length ≤ N.n.toNat := lenW
          have hW7 : WaysAt H1 H6 dp dp _ (1 + 2000 * t + 41 * W.length) := hW6.fresh' (by
            obtain ⟨kv, e, _⟩ := hW6.ex
            exact ⟨kv, e⟩)
          cases eg : goesTo (nbN N) b W with
          | none =>
            rw [eg] at hW7 hR
            refine ⟨N.n.toNat + 1 - (t + 1), by omega, _, _, _, ro, rfl, s7, .inl ⟨t + 1, pf', rfl, by omega, fun s hs => ?_, ?_, ?_, ?_⟩⟩
            · by_cases c1 : s < t
              · exact hno s c1
              · rw [show s = t by omega, hW']
                exact eg
            · rw [eN]
              exact hW7.grow (by omega)
            · rw [eN, ← hR rfl]
              exact ero
            · rw [eN]
              exact hp2
          | some rr =>
            rw [eg] at hW7
            exact ⟨0, by omega, _, _, _, ro, rfl, s7, .inr ⟨rr, _, pf', _, hW7.grow (by omega), ero, t, by omega, by rw [hW']; exact eg, hno⟩⟩
      · -- no more
        have hWe : (layW N os a t).1 = [] := by
          cases e : (layW N os a t).1 with
          | nil => rfl
          | cons w W =>
            rw [e] at hb
            have : gS (layW N os a t).2 pf b none b = none := if_pos rfl
            rw [this] at hb
            cases hb
        have emp : ∀ d, (layW N os a (t + d)).1 = [] := fun d => by
          induction d with
          | zero => exact hWe
          | succ d ih =>
            obtain ⟨_, hi⟩ := lay_ok (low := lowU os a) (nbN_lt ok) a (t + d)
            rw [ih] at hi
            refine List.eq_nil_iff_forall_not_mem.mpr fun w hw => ?_
            obtain ⟨z, hz, _⟩ := hi.from_ w hw
            cases hz
        have hnp : ¬ PairP N.ls os a b := fun hp => by
          obtain ⟨s, _, hs⟩ := pair_goes ok hp
          by_cases c1 : s < t
          · rw [hno s c1] at hs
            cases hs
          · have := emp (s - t)
            rw [show t + (s - t) = s by omega] at this
            rw [this] at hs
            cases hs
        have eg : gS (layW N os a t).2 pf b none b = none := if_pos rfl
        refine q_when (b := true) ((hW.notIn (K := K) (vl_var rfl) (vl_var rfl)).is (by rw [eg]; rfl)) (fun _ => ?_) (fun h => by cases h)
        exact raise_now (va_cons vl_c va_nil) (RaiseTo.to (q1 hnp) ((sG.trans s1).trans s5))
    · obtain ⟨rr, S, pf, R, hW, ely, t, htn, hg, hno⟩ := hB
      have eg : gS S pf b (some rr) b = some rr := if_pos rfl
      refine ⟨(!R.isEmpty) && (gS S pf b (some rr) b).isNone, an_and (k := !R.isEmpty) (m := (gS S pf b (some rr) b).isNone) (fun Q k => ⟨_, rfl, _, .inl ⟨_, .of ely, rfl⟩, k⟩) fun _ => hW.notIn (K := K) (vl_var rfl) (vl_var rfl), fun hb => ?_, fun hb => ?_⟩
      · rw [eg] at hb
        cases R <;> cases hb
      · refine q_when (b := false) ((hW.notIn (K := K) (vl_var rfl) (vl_var rfl)).is (by rw [eg]; rfl)) (fun h => by cases h) (fun _ => ?_)
        obtain ⟨kvs, e1, _, e3, _⟩ := hW.ex
        obtain ⟨al, ea, el, _, eG⟩ := e3 b rr eg
        have hp : PairP N.ls os a b := goes_pair ok hin.1 hab hg
        refine g_ret (vl_dgetI (vl_var rfl) (vl_var rfl) e1 ea) (q2 hp H5 al rr ((sG.trans s1).trans s5) (Same.free (sG.trans s1) eG) (wit_at _ t (by omega) hg hno) el)
end
/-! ### the prices that need a pair -/
theorem lay_pairs : ∀ L : List (Int × Int), PyData.canLayAll0 (L.map pairD2) = true ∧ PyData.depthAll (L.map pairD2) ≤ 1
  | [] => ⟨rfl, Nat.zero_le _⟩
  | x :: L => by
    have ih := lay_pairs L
    constructor
    · show ((true && (true && true)) && PyData.canLayAll0 (L.map pairD2)) = true
      rw [ih.1]
      rfl
    · show max (max 0 (max 0 0) + 1) (PyData.depthAll (L.map pairD2)) ≤ 1
      have := ih.2
      simp only [Nat.max_self, Nat.zero_add]
      omega
theorem shaped_pairs (L : List (Int × Int)) : SeqAt.shaped (.list (L.map pairD2)) = true := by
  have h := lay_pairs L
  show (PyData.canLayAll0 (L.map pairD2) && decide (PyData.depthAll (L.map pairD2) + 1 ≤ 64)) = true
  rw [h.1, decide_eq_true (show PyData.depthAll (L.map pairD2) + 1 ≤ 64 by
    have := h.2
    omega)]
  rfl
theorem any_pairs (L : List (Int × Int)) (p q : Int) : ((L.map pairD2).any fun z => PyData.eqv z (.tuple [.int p, .int q])) = decide ((p, q) ∈ L) := by
  rw [Bool.eq_iff_iff, List.any_eq_true, decide_eq_true_eq]
  have e : ∀ x : Int × Int, PyData.eqv (pairD2 x) (.tuple [.int p, .int q]) = decide (x = (p, q)) := fun x => by
    obtain ⟨a, b⟩ := x
    show (a == p && (b == q && true)) = _
    rw [Bool.and_true, Bool.eq_iff_iff]
    simp
  constructor
  · rintro ⟨z, hz, hq⟩
    obtain ⟨x, hx, rfl⟩ := List.mem_map.mp hz
    rw [e, decide_eq_true_eq] at hq
    rw [← hq]
    exact hx
  · intro h
    refine ⟨_, List.mem_map_of_mem h, ?_⟩
    rw [e, decide_eq_true rfl]

theorem ve_inP {K : PySem.W.Frag} {σ : L2.St} {H : Hp} {ta tb tf : TE} {p q : Int} {f : V} {L : List (Int × Int)} (ha : Vl ta σ H (.int p)) (hb : Vl tb σ H (.int q)) (hf : ∀ H', Same H H' → Vl tf σ H' f) (hd : Dp K H f (.list (L.map pairD2))) :
    Ve (tOp (rInD K) (tTup (tCons ta (tCons tb tNil))) tf) σ H (.bl (decide ((p, q) ∈ L))) := fun Q k =>
  ha _ (hb _ ⟨by show 2 ≤ sizeLine; decide, fun T nT => by
    have s1 : Same H (upd H T (.tup [.int p, .int q])) := same_upd nT
    refine hf _ s1 _ ⟨.tuple [.int p, .int q], L.map pairD2, .tup (.of upd_same) (.cons (.int _) (.cons (.int _) .nil)), Dp.to hd s1, by rfl, shaped_pairs L, ?_⟩
    rw [any_pairs]
    exact k _ s1⟩)
theorem mk_tup2 {σ : L2.St} {H : Hp} {t1 t2 : TE} {x y : Int} {Q : VK} (h1 : Vl t1 σ H (.int x)) (h2 : Vl t2 σ H (.int y)) (k : ∀ T, H T = none → Q (.ref T) (upd H T (.tup [.int x, .int y]))) : tTup (tCons t1 (tCons t2 tNil)) σ H Q := h1 _ (h2 _ ⟨by show 2 ≤ sizeLine; decide, k⟩)
def mmP (x y : Int) : Int × Int := (if y < x then y else x, if y > x then y else x)
def stepsI (w : List Int) : List (Int × Int) := (w.zip (w.drop 1)).map fun p => mmP p.1 p.2
theorem steps_at {w : List Int} {i : Nat} {x y : Int} (hx : w[i]? = some x) (hy : w[i + 1]? = some y) : (stepsI w)[i]? = some (mmP x y) := by
  unfold stepsI
  rw [List.getElem?_map, (List.getElem?_zip_eq_some (z := (x, y))).mpr ⟨hx, by rw [List.getElem?_drop, Nat.add_comm]; exact hy⟩]
  rfl
theorem steps_len {w : List Int} : (stepsI w).length = w.length - 1 := by
  unfold stepsI
  rw [List.length_map, List.length_zip, List.length_drop]
  omega
def valN (w : List Int) (l : Lnk) : Option Int := if (l.a, l.b) ∈ stepsI w then some 1 else none
/-- the net of the prices that need the pair -/
def needN (N : Net) (w : List Int) : Net := ⟨N.n, N.ls.map fun l => ⟨l.a, l.b, valN w l, valN w l⟩⟩
theorem for_zip5 {K : PySem.W.Frag} {a b : Addr} {xs ys : List V} {g : TG} {tb : TS} {D : Ends} {σ : L2.St} {H : Hp} (Pv : Nat → L2.St → Hp → Prop) (h0 : Pv 0 σ H)
    (hq : ∀ i σ H, Pv i σ H → SqL K H a xs ∧ SqL K H b ys)
    (hs : ∀ (i : Nat) x y T σ H, xs[i]? = some x → ys[i]? = some y → Pv i σ H → H T = none → g (.ref T) σ (upd H T (.tup [x, y])) fun σ2 H2 => tb { D with nx := Pv (i + 1), ct := Pv (i + 1), bk := D.nx } σ2 H2)
    (hd : ∀ σ H, Pv (min xs.length ys.length) σ H → D.nx σ H) :
    ∃ W : Nat → Nat → L2.St → Hp → Prop, (∃ m, W 0 m σ H) ∧ ∀ i m σ H, W i m σ H → ((Itz K a b).stop i H ∧ D.nx σ H) ∨
      ((Itz K a b).go i H ∧ ∃ N : L2.St → Hp → Prop, (∀ σ' H', N σ' H' → ∃ m', m' < m ∧ W (i + 1) m' σ' H') ∧ ∀ v H', (Itz K a b).yld i H v H' → g v σ H' fun σ2 H2 => tb { D with nx := N, ct := N, bk := D.nx } σ2 H2) := by
  refine ⟨fun i m σ H => m + i = min xs.length ys.length ∧ Pv i σ H, ⟨min xs.length ys.length, rfl, h0⟩, fun i m σ H hW => ?_⟩
  obtain ⟨em, p⟩ := hW
  obtain ⟨qx, qy⟩ := hq i σ H p
  by_cases hlt : i < min xs.length ys.length
  · have h1 : i < xs.length := by omega
    have h2 : i < ys.length := by omega
    refine .inr ⟨⟨xs, ys, xs[i], ys[i], qx, qy, List.getElem?_eq_getElem h1, List.getElem?_eq_getElem h2⟩, Pv (i + 1), fun σ' H' p' => ⟨m - 1, by omega, by omega, p'⟩, fun v H' yy => ?_⟩
    obtain ⟨T, x', y', rfl, hT, rfl, f1, f2⟩ := yy
    exact hs i x' y' T σ H (f1 xs qx) (f2 ys qy) p hT
  · have e : i = min xs.length ys.length := by omega
    rw [e] at p
    exact .inl ⟨⟨xs, ys, qx, qy, by omega⟩, hd σ H p⟩
theorem room65 {k : Nat} {A : Around} (r : Room k A) : A.units + 65 < cLine := by
  have := r.un
  omega
/-! ### the price of a link, the places lower than both -/
def K2 (p : Int × Int) : List L2.Key := [Sum.inl p.1, Sum.inl p.2]
theorem K2_inj {p q : Int × Int} (h : K2 p = K2 q) : p = q := by
  unfold K2 at h
  injection h with e1 e2
  injection e2 with e2 _
  exact Prod.ext (Sum.inl.inj e1) (Sum.inl.inj e2)
theorem put_len {kvs : List (List L2.Key × V)} {k : List L2.Key} {v : V} : (putK kvs k v).length ≤ kvs.length + 1 := by
  unfold putK
  split
  · rw [List.length_map]
    omega
  · rw [List.length_append]
    exact Nat.le_refl _
theorem q_dputK {σ : L2.St} {H : Hp} {td ta tb te : TE} {D : Ends} {tw : TS} {v : V} {o : Addr} {kvs : List (List L2.Key × V)} {y1 y2 : Int} (hv : Vl te σ H v) (ho : Vl td σ H (.ref o)) (h1 : Vl ta σ H (.int y1)) (h2 : Vl tb σ H (.int y2)) (hd : H o = some (.dT kvs)) (hl : kvs.length < sizeLine)
    (k : ∀ T, H T = none → o ≠ T → tw D σ (upd (upd H T (.tup [.int y1, .int y2])) o (.dT (putK kvs [.inl y1, .inl y2] v)))) : tSeq (sDPut td (tTup (tCons ta (tCons tb tNil))) te) tw D σ H := q_dput (ty := td) hv ho h1 h2 hd hl k
theorem g_dputK {σ : L2.St} {H : Hp} {td ta tb te : TE} {D : Ends} {v : V} {o : Addr} {kvs : List (List L2.Key × V)} {y1 y2 : Int} (hv : Vl te σ H v) (ho : Vl td σ H (.ref o)) (h1 : Vl ta σ H (.int y1)) (h2 : Vl tb σ H (.int y2)) (hd : H o = some (.dT kvs)) (hl : kvs.length < sizeLine)
    (k : ∀ T, H T = none → o ≠ T → D.nx σ (upd (upd H T (.tup [.int y1, .int y2])) o (.dT (putK kvs [.inl y1, .inl y2] v)))) : sDPut td (tTup (tCons ta (tCons tb tNil))) te D σ H := q_dputK (tw := fun D σ H => D.nx σ H) hv ho h1 h2 hd hl k
theorem q_par {σ : L2.St} {H : Hp} {ta : TA} {D : Ends} {tw : TS} {x y : V} {i j : Nat} (h : Va ta σ H [x, y]) (k : tw D ((σ.set i (some x)).set j (some y)) H) : tSeq (tPar i j ta) tw D σ H := h _ ⟨x, y, rfl, k⟩
theorem cut_1 (w : List Int) (h : 1 ≤ w.length) : cutV (w.map V.int) (some 1) none = (w.drop 1).map V.int := by
  cases w with
  | nil => exact absurd h (by decide)
  | cons x r =>
    unfold cutV
    rw [show HT.sIx ((x :: r).map V.int).length 0 (some 1) = min 1 ((x :: r).map V.int).length from HT.sIx_nat _ 0 1, HT.sIx_none]
    rw [show min 1 ((x :: r).map V.int).length = 1 by
      rw [List.length_map, List.length_cons]
      omega]
    show List.take _ (r.map V.int) = r.map V.int
    rw [List.length_map, List.length_cons, Nat.add_sub_cancel]
    exact List.take_of_length_le (by rw [List.length_map]; exact Nat.le_refl _)
theorem wit_len {N : Net} {os : List Int} {a b : Int} {r : List Int} (ok : NetOk N) (hp : PairP N.ls os a b) (h : witF (nbN N) (lowU os a) a b (N.n.toNat + 1) = some r) : 1 ≤ r.length ∧ r.length ≤ 50 := by
  unfold witF at h
  obtain ⟨t, _, ht⟩ := List.exists_of_findSome?_eq_some h
  obtain ⟨w, hw, _, rfl⟩ := goes_some ht
  obtain ⟨hL, _⟩ := lay_ok (low := lowU os a) (nbN_lt ok) a t
  have := hL.len w hw
  have hn := lay_n ok (hp.ins ok).1 (t := t) (fun e => by
    have hw : w ∈ (layW N os a t).1 := hw
    rw [e] at hw
    cases hw)
  have := ok.n40
  rw [List.length_append]
  show 1 ≤ w.length + 1 ∧ w.length + 1 ≤ 50
  omega
abbrev sNeeding : Stmt := topS 12
abbrev sLNeeding : Stmt := topS 28
theorem scNeeding : FnScope ["net", "order", "u", "v", "way", "opened", "a", "b", "links", "link", "value"] ["net", "order", "u", "v"] (defScope sNeeding) := ⟨rfl, rfl, rfl, by decide +kernel, rfl, by decide +kernel, by decide +kernel⟩
theorem scLNeeding : FnScope ["net", "way", "used", "links", "a", "b", "there", "back", "value", "k"] ["net", "way"] (defScope sLNeeding) := ⟨rfl, rfl, rfl, by decide +kernel, rfl, by decide +kernel, by decide +kernel⟩
def spNeed (K : PySem.W.Frag) (CP : Addr) : Sp := fun vs H Q E => ∃ (v : V) (N : Net) (p : Addr) (os : List Int) (a b : Int), vs = [v, .ref p, .int a, .int b] ∧ Dp K H v (netD N) ∧ NetOk N ∧ SqL K H p (os.map V.int) ∧ OrdOk N.n os ∧
  (¬ PairP N.ls os a b → RaiseTo E H CP 0) ∧ (PairP N.ls os a b → ∀ H' q r, Same H H' → witF (nbN N) (lowU os a) a b (N.n.toNat + 1) = some r → Dp K H' q (netD (needN N r)) → Q q H')
def spLNeed (K : PySem.W.Frag) : Sp := fun vs H Q E => ∃ (v : V) (N : Net) (p : Addr) (w : List Int), vs = [v, .ref p] ∧ Dp K H v (netD N) ∧ NetOk N ∧ SqL K H p (w.map V.int) ∧ 1 ≤ w.length ∧ w.length ≤ 100 ∧ ∀ H' q, Same H H' → Dp K H' q (netD (needN N w)) → Q q H'
section
variable {P : Program} {w : World} {K : PySem.W.Frag} {mg : Str → Option Value} {base : Heap} {CN CP CW fI : Addr}
theorem ok_needing {f : Addr} {fd : FuncData} {k : Nat} (F : Fun K "needing" "needing" sNeeding f fd) (c_witness : KalX P w K mg base k "witness" ["net", "order", "u", "v"] (spWit K CW)) (mz : mg "zip" = none) (mm : mg "min" = none) (mx : mg "max" = none) : FnOk P w K mg base (L2.CX P w) (k + 1) f fd ["net", "order", "u", "v"] (spNeed K CW) := by
  refine F.okX scNeeding (fun vs H Q E h => ?_) (fun cdv A outer s H vs Q E hr h => ?_)
  · obtain ⟨v, N, p, os, a, b, rfl, _⟩ := h
    rfl
  · obtain ⟨v, N, p, os, a, b, rfl, hNt, ok, hS, oo, q1, q2⟩ := h
    have hu := hu_of hr
    refine ⟨_, pss_cons (ps_set (i := 4) scNeeding.nd rfl (.inl rfl) (pe_kx (E := E) c_witness hr (by first | decide | omega) (by rfl) (takes_of rfl rfl rfl rfl) (pa_cons (pv 0) (pa_cons (pv 1) (pa_cons (pv 2) (pa_cons (pv 3) pa_nil))))))
      (pss_cons (ps_set (i := 5) scNeeding.nd rfl (.inl rfl) pe_dnewT)
      (pss_cons (ps_for (passes_of rfl) rfl (pi_zip (by rfl) mz (pa_cons (pv 4) (pa_cons (pe_slice sl_list (pv 4) (po_some pe_int) po_none) pa_nil))) (pg_tup rfl (pgs_cons (pg_name (i := 6) scNeeding.nd rfl (.inl rfl)) (pgs_cons (pg_name (i := 7) scNeeding.nd rfl (.inl rfl)) pgs_nil)))
      (pss_one (ps_dput hu (pv 5) (pe_tup (pa_cons (pe_callB (call_min2 rfl) (by rfl) mm (by decide +kernel) (pa_cons (pv 6) (pa_cons (pv 7) pa_nil))) (pa_cons (pe_callB (call_max2 rfl) (by rfl) mx (by decide +kernel) (pa_cons (pv 6) (pa_cons (pv 7) pa_nil))) pa_nil))) pe_int rfl)))
      (pss_cons (ps_set (i := 8) scNeeding.nd rfl (.inl rfl) (pe_lst pa_nil))
      (pss_cons (ps_for (passes_of rfl) rfl (pi_list (pe_ix ix_tup (pv 0) pe_int (fun _ _ => rfl))) (pg_name (i := 9) scNeeding.nd rfl (.inl rfl))
      (pss_cons (ps_par (i := 6) (j := 7) (by rfl) scNeeding.nd rfl rfl (by decide) rfl rfl (pa_cons (pe_ix ix_tup (pv 9) pe_int (fun _ _ => rfl)) (pa_cons (pe_ix ix_tup (pv 9) pe_int (fun _ _ => rfl)) pa_nil)) (by rfl))
        (pss_cons (ps_set (i := 10) scNeeding.nd rfl (.inl rfl) (pe_dget1 hu (pv 5) (pe_tup (pa_cons (pv 6) (pa_cons (pv 7) pa_nil))) ⟨by rfl, by rfl, by rfl, by rfl⟩))
        (pss_one (ps_expr (pe_bm PySem.F.plainAttrs_list PySem.F.slot_list_append PySem.F.type_list_append mt_append (pv 8) (pa_cons (pe_tup (pa_cons (pv 6) (pa_cons (pv 7) (pa_cons (pv 10) (pa_cons (pv 10) pa_nil))))) pa_nil)))))))
      (pss_one (ps_ret (pe_tup (pa_cons (pe_ix ix_tup (pv 0) pe_int (fun _ _ => rfl)) (pa_cons (pv 8) pa_nil))))))))), ?_⟩
    obtain ⟨p0, c, xs, rfl, hp0, hc, hx⟩ := Dp.net_inv hNt
    have n40 := ok.n40
    have l16 := ok.len
    refine q_asgE ⟨.ref p0, rfl, .ref p, rfl, .int a, rfl, .int b, rfl, .ref p0, N, p, os, a, b, rfl, hNt, ok, hS, oo, q1, fun hp H1 wp w s1 nw hw ew => ?_⟩
    have q := q2 hp
    have wl := wit_len ok hp hw
    refine q_dnewT fun o no => ?_
    have so : Same H1 (upd H1 o (.dT [])) := same_upd no
    have ew2 := so _ _ ew
    -- opened
    refine ⟨.ref wp, rfl, .ref wp, rfl, 1, rfl, wp, _, rfl, .of ew2, fun S nS => ?_⟩
    have sS : Same (upd H1 o (.dT [])) (upd (upd H1 o (.dT [])) S (.lst (cutV (w.map V.int) (some 1) none))) := same_upd nS
    have ecut : cutV (w.map V.int) (some 1) none = (w.drop 1).map V.int := cut_1 w wl.1
    rw [ecut] at sS
    refine ⟨wp, S, _, _, rfl, .of (by rw [ecut]; exact sS _ _ ew2), .inl (.inl upd_same), ?_⟩
    rw [ecut]
    have So : o ≠ S := ne_of_none upd_same nS
    have eo0 := sS _ _ (upd_same (H := H1) (a := o) (o := .dT []))
    have hSS : upd (upd H1 o (.dT [])) S (.lst ((w.drop 1).map V.int)) S = some (.lst ((w.drop 1).map V.int)) := upd_same
    have s1S := so.trans sS
    have nSo : H1 S = none := Same.free so nS
    generalize upd (upd H1 o (.dT [])) S (.lst ((w.drop 1).map V.int)) = H2 at sS eo0 hSS s1S
    refine for_zip5 (xs := w.map V.int) (ys := (w.drop 1).map V.int)
      (fun i σ H4 => ∃ y6 y7 kvs, σ = [some (.ref p0), some (.ref p), some (.int a), some (.int b), some (.ref wp), some (.ref o), y6, y7, none, none, none] ∧ Same (but H2 o) (but H4 o) ∧ H4 o = some (.dT kvs) ∧ kvs.length ≤ i ∧ ∀ x y : Int, valV kvs (K2 (x, y)) = if (x, y) ∈ (stepsI w).take i then some (.int 1) else none)
      ⟨none, none, [], rfl, Same.refl _, eo0, Nat.le_refl _, fun x y => by rw [List.take_zero, if_neg List.not_mem_nil]; rfl⟩ (fun i σ H4 hP => ?_) (fun i u v0 T σ H4 hu1 hv1 hP nT => ?_) (fun σ H4 hP => ?_)
    · obtain ⟨_, _, _, _, s4, _⟩ := hP
      have wo : wp ≠ o := ne_of_none ew no
      exact ⟨.of (but_same _ _ (s4 _ _ (by rw [but_ne wo]; exact s1S _ _ ew))), .inl (.inl (but_same _ _ (s4 _ _ (by rw [but_ne So.symm]; exact hSS))))⟩
    · obtain ⟨y6, y7, kvs, rfl, s4, eo, hk, hv⟩ := hP
      rw [List.getElem?_map] at hu1 hv1
      cases eu : w[i]? with
      | none =>
        rw [eu] at hu1
        cases hu1
      | some u' =>
        cases ev : (w.drop 1)[i]? with
        | none =>
          rw [ev] at hv1
          cases hv1
        | some v' =>
          rw [eu] at hu1
          rw [ev] at hv1
          cases hu1
          cases hv1
          have ev' : w[i + 1]? = some v' := by
            rw [List.getElem?_drop, Nat.add_comm] at ev
            exact ev
          have hil := (List.getElem?_eq_some_iff.mp ev').1
          have hst := steps_at eu ev'
          have sT : Same H4 (upd H4 T (.tup [.int u', .int v'])) := same_upd nT
          refine ⟨T, _, rfl, .of upd_same, rfl, _, _, rfl, _, _, rfl, rfl, ?_⟩
          refine g_dputK (v := .int 1) (y1 := (mmP u' v').1) (y2 := (mmP u' v').2) vl_c (vl_var rfl) (vl_min2 (vl_var rfl) (vl_var rfl)) (vl_max2 (vl_var rfl) (vl_var rfl)) (sT _ _ eo) (Nat.lt_of_le_of_lt (m := 10000) (by omega) (by decide)) fun T2 nT2 oT2 => ?_
          refine ⟨_, _, _, rfl, ?_, upd_same, Nat.le_trans put_len (by omega), fun x y => ?_⟩
          · rw [but_upd]
            exact s4.trans (but_mono (sT.trans (same_upd nT2)))
          · show valV (putK kvs (K2 (mmP u' v')) (.int 1)) (K2 (x, y)) = _
            rw [valV_put, hv, take_snoc hst]
            by_cases c1 : (x, y) = mmP u' v'
            · rw [if_pos (by rw [c1]), if_pos (List.mem_append.mpr (.inr (by rw [c1]; exact List.mem_cons_self)))]
            · rw [if_neg (fun z => c1 (K2_inj z))]
              by_cases c2 : (x, y) ∈ (stepsI w).take i
              · rw [if_pos c2, if_pos (List.mem_append.mpr (.inl c2))]
              · rw [if_neg c2, if_neg (fun h => (List.mem_append.mp h).elim c2 fun h => c1 (List.mem_singleton.mp h))]
    · obtain ⟨y6, y7, kvs, rfl, s4, eo, hk, hv⟩ := hP
      have em : min (w.map V.int).length ((w.drop 1).map V.int).length = (stepsI w).length := by
        rw [List.length_map, List.length_map, List.length_drop, steps_len]
        omega
      rw [em, List.take_length] at hv
      have s14 : Same H1 H4 := fun x y e => by
        have xo : x ≠ o := ne_of_none e no
        exact but_same _ _ (s4 _ _ (by rw [but_ne xo]; exact s1S _ _ e))
      have sH4 := s1.trans s14
      refine q_lnew fun lo nlo => ?_
      have s5 : Same H4 (upd H4 lo (.lst [])) := same_upd nlo
      have hval : ∀ l : Lnk, (valV kvs (K2 (l.a, l.b))).getD .non = oV (valN w l) := fun l => by
        rw [hv]
        unfold valN
        by_cases c1 : (l.a, l.b) ∈ stepsI w
        · rw [if_pos c1, if_pos c1]
          rfl
        · rw [if_neg c1, if_neg c1]
          rfl
      refine g_forLk (D := { nx := tRet _ _, rt := _, bk := _, ct := _ }) (j := 9) (Hb := H) (vl_ixT (K := K) (vl_var rfl) vl_c (seqT (sH4.trans s5) hp0) (atI_nat (j := 1) rfl)) hc hx (sH4.trans s5)
        (fun i σ H5 => ∃ y6 y7 y9 y10 ts, σ = [some (.ref p0), some (.ref p), some (.int a), some (.int b), some (.ref wp), some (.ref o), y6, y7, some (.ref lo), y9, y10] ∧ Same H4 H5 ∧ H5 lo = some (.lst ts) ∧ ts.length = i ∧ DpAll K (but H5 lo) ts (((N.ls.take i).map fun l => (⟨l.a, l.b, valN w l, valN w l⟩ : Lnk)).map lnkD))
        ⟨_, _, _, _, [], rfl, s5, upd_same, rfl, .nil⟩ (fun i σ H5 hP => ?_) (fun i l t σ H5 hl ht hP => ?_) (fun σ H5 hP => ?_)
      · obtain ⟨_, _, _, _, _, _, s6, _⟩ := hP
        exact sH4.trans s6
      · obtain ⟨y6, y7, y9, y10, ts, rfl, s6, elo, hlen, hD⟩ := hP
        have hil := (List.getElem?_eq_some_iff.mp hl).1
        have ht5 := seqT (sH4.trans s6) ht
        refine q_par (x := .int l.a) (y := .int l.b) (va_cons (vl_ixT (K := K) (vl_var rfl) vl_c ht5 (atI_nat (j := 0) rfl)) (va_cons (vl_ixT (K := K) (vl_var rfl) vl_c ht5 (atI_nat (j := 1) rfl)) va_nil)) ?_
        refine q_dgetT (vl_var rfl) (fun _ => vl_var rfl) (fun _ => vl_var rfl) (s6 _ _ eo) fun T2 nT2 => ?_
        rw [show (valV kvs [.inl l.a, .inl l.b]).getD .non = oV (valN w l) from hval l]
        have sT2 : Same H5 (upd H5 T2 (.tup [.int l.a, .int l.b])) := same_upd nT2
        generalize upd H5 T2 (.tup [.int l.a, .int l.b]) = H6 at sT2 ⊢
        refine ⟨.ref lo, rfl, .inl ⟨rfl, _, .inl (.inl (sT2 _ _ elo))⟩, .int l.a, rfl, .int l.b, rfl, oV (valN w l), rfl, oV (valN w l), rfl, by show 4 ≤ sizeLine; decide, fun T nT => ?_⟩
        have sT : Same H6 (upd H6 T (.tup [.int l.a, .int l.b, oV (valN w l), oV (valN w l)])) := same_upd nT
        have loT : T ≠ lo := (ne_of_none (sT2 _ _ elo) nT).symm
        refine ⟨lo, ts, .ref T, rfl, rfl, (sT2.trans sT) _ _ elo, ?_, ?_⟩
        · rw [hlen]
          exact Nat.lt_of_le_of_lt (m := 10000) (by omega) (by decide)
        · have sb : Same (but H5 lo) (but (upd (upd H6 T (.tup [.int l.a, .int l.b, oV (valN w l), oV (valN w l)])) lo (.lst (ts ++ [.ref T]))) lo) := by
            rw [but_upd]
            exact but_mono (sT2.trans sT)
          refine ⟨_, _, _, _, ts ++ [.ref T], rfl, same_upd' ((s6.trans sT2).trans sT) nlo, upd_same, by rw [List.length_append, hlen]; rfl, ?_⟩
          rw [take_snoc hl, List.map_append, List.map_append]
          refine DpAll.app (DpAll.to hD sb) (DpAll.one (Dp.lnk (l := ⟨l.a, l.b, valN w l, valN w l⟩) (.of ?_)))
          rw [but_upd, but_ne loT, upd_same]
          rfl
      · obtain ⟨y6, y7, y9, y10, ts, rfl, s6, elo, hlen, hD⟩ := hP
        rw [List.take_length] at hD
        refine (vl_ixT (K := K) (vl_var rfl) vl_c (seqT (sH4.trans s6) hp0) (atI_nat (j := 0) rfl)) _ ⟨.ref lo, rfl, by show 2 ≤ sizeLine; decide, fun T nT => ?_⟩
        have sT : Same H5 (upd H5 T (.tup [.int N.n, .ref lo])) := same_upd nT
        exact q _ (.ref T) w ((sH4.trans s6).trans sT) hw (NetAt.dp ⟨T, lo, ts, rfl, upd_same, sT _ _ elo, DpAll.to hD (but_same.trans sT)⟩)
theorem ok_lneeding {f : Addr} {fd : FuncData} {k : Nat} (F : Fun K "_law_needing" "_law_needing" sLNeeding f fd) (mr : mg "range" = none) (ml : mg "len" = none) (mi : mg "int" = none) (mm : mg "min" = none) (mx : mg "max" = none) : FnOk P w K mg base CX0 (k + 1) f fd ["net", "way"] (spLNeed K) := by
  refine F.ok scLNeeding (fun vs H Q E h => ?_) (fun cdv A outer s H vs Q E hr h => ?_)
  · obtain ⟨v, N, p, w, rfl, _⟩ := h
    rfl
  · obtain ⟨v, N, p, w, rfl, hNt, ok, hS, w1, w2, q⟩ := h
    have hu := hu_of hr
    refine ⟨_, pss_cons (ps_setLc (i := 2) (own := [("k", 9)]) (g := gName 9) (tt := tYes) (te := (tTup (tCons (tCB (fun xs H Q => ∃ i j, xs = [V.int i, V.int j] ∧ Q (V.int (if j < i then j else i)) H) (tCons (tOp (rIxL K) (tVar 1) (tVar 9)) (tCons (tOp (rIxL K) (tVar 1) (tOp (rI0 fun i j => .int (i + j)) (tVar 9) (tC (.int 1)))) tNil))) (tCons (tCB (fun xs H Q => ∃ i j, xs = [V.int i, V.int j] ∧ Q (V.int (if j > i then j else i)) H) (tCons (tOp (rIxL K) (tVar 1) (tVar 9)) (tCons (tOp (rIxL K) (tVar 1) (tOp (rI0 fun i j => .int (i + j)) (tVar 9) (tC (.int 1)))) tNil))) tNil)))) (by rfl) scLNeeding.nd rfl rfl (sw_true rfl rfl rfl (by decide +kernel)) (pi_range1 (by rfl) mr (pa_cons (pe_op op_sub (pe_callB call_len_seq (by rfl) ml PySem.boot_len (pa_cons (pv 1) pa_nil)) pe_int) pa_nil)) (blkOk_by (own := [("k", 9)]) (N := ["net", "way", "used", "links", "a", "b", "there", "back", "value", "k"]) (sc := defScope sLNeeding) (by decide +kernel)) (fun _ _ _ _ _ => pg_name (i := 9) scLNeeding.nd rfl (Or.inl rfl)) (fun _ _ _ _ _ => by exact pts_nil) (fun _ _ _ _ _ => by exact (pe_tup (pa_cons (pe_callB (call_min2 rfl) (by rfl) mm (by decide +kernel) (pa_cons (pe_ix ix_list (pv 1) (pv 9) (fun _ _ => rfl)) (pa_cons (pe_ix ix_list (pv 1) (pe_op op_add (pv 9) pe_int) (fun _ _ => rfl)) pa_nil))) (pa_cons (pe_callB (call_max2 rfl) (by rfl) mx (by decide +kernel) (pa_cons (pe_ix ix_list (pv 1) (pv 9) (fun _ _ => rfl)) (pa_cons (pe_ix ix_list (pv 1) (pe_op op_add (pv 9) pe_int) (fun _ _ => rfl)) pa_nil))) pa_nil)))))
      (pss_cons (ps_set (i := 3) scLNeeding.nd rfl (.inl rfl) (pe_lst pa_nil))
      (pss_cons (ps_for PassesOwn.never rfl (pi_list (pe_ix ix_tup (pv 0) pe_int (fun _ _ => rfl))) (pg_tup rfl (pgs_cons (pg_name (i := 4) scLNeeding.nd rfl (.inl rfl)) (pgs_cons (pg_name (i := 5) scLNeeding.nd rfl (.inl rfl)) (pgs_cons (pg_name (i := 6) scLNeeding.nd rfl (.inl rfl)) (pgs_cons (pg_name (i := 7) scLNeeding.nd rfl (.inl rfl)) pgs_nil)))))
      (pss_cons (ps_set (i := 8) scLNeeding.nd rfl (.inl rfl) (pe_ix ix_list (pe_lst (pa_cons pe_non (pa_cons pe_int pa_nil))) (pe_callTy call_int1 (by rfl) mi (by decide +kernel) (pa_cons (pe_cmpR (op_inD (room65 hr)) (pe_tup (pa_cons (pv 4) (pa_cons (pv 5) pa_nil))) (pv 2) (by rfl)) pa_nil)) (fun _ _ => rfl)))
        (pss_one (ps_expr (pe_bm PySem.F.plainAttrs_list PySem.F.slot_list_append PySem.F.type_list_append mt_append (pv 3) (pa_cons (pe_tup (pa_cons (pv 4) (pa_cons (pv 5) (pa_cons (pv 8) (pa_cons (pv 8) pa_nil))))) pa_nil))))))
      (pss_one (ps_ret (pe_tup (pa_cons (pe_ix ix_tup (pv 0) pe_int (fun _ _ => rfl)) (pa_cons (pv 3) pa_nil))))))), ?_⟩
    obtain ⟨p0, c, xs, rfl, hp0, hc, hx⟩ := Dp.net_inv hNt
    have n40 := ok.n40
    have l16 := ok.len
    have sl := steps_len (w := w)
    refine q_asgE ?_
    refine (vl_I0 (g := fun i j => .int (i - j)) (vl_lenI (vl_var rfl) hS) vl_c) _ ⟨(w.length : Int) - 1, rfl, by omega, by omega, fun D nD => lc_range (lo := 0) (n := ((w.length : Int) - 1).toNat) (fun i H' => ∃ ts, H' D = some (.lst ts) ∧ Same H H' ∧ TupsAt H' ts ((stepsI w).take i)) ⟨[], upd_same, same_upd nD, TupsAt.nil⟩ (fun i H2 hi hP => ?_) (fun H2 hP => ?_)⟩
    · obtain ⟨ts, hD, s2, hT⟩ := hP
      rw [Int.zero_add]
      refine ⟨rfl, iteT (B := ∃ ts, H2 D = some (.lst ts) ∧ Same H H2 ∧ TupsAt H2 ts ((stepsI w).take (i + 1))) ?_⟩
      have hg1 : w[i]? = some (w[i]'(by omega)) := List.getElem?_eq_getElem (by omega)
      have hg2 : w[i + 1]? = some (w[i + 1]'(by omega)) := List.getElem?_eq_getElem (by omega)
      generalize w[i]'(by omega) = x at hg1
      generalize w[i + 1]'(by omega) = y at hg2
      have hst := steps_at hg1 hg2
      have ix : ∀ σ, σ[1]? = some (some (.ref p)) → σ[9]? = some (some (.int (i : Int))) → Vl (tOp (rIxL K) (tVar 1) (tVar 9)) σ H2 (.int x) ∧ Vl (tOp (rIxL K) (tVar 1) (tOp (rI0 fun i j => .int (i + j)) (tVar 9) (tC (.int 1)))) σ H2 (.int y) := fun σ h1 h2 => ⟨vl_ixI (vl_var h1) (vl_var h2) (s2.seq hS) hg1, vl_ixI (j := i + 1) (vl_var h1) ((vl_I0 (g := fun i j => .int (i + j)) (vl_var h2) vl_c).is (by rfl)) (s2.seq hS) hg2⟩
      rw [if_pos rfl]
      refine mk_tup2 (x := (mmP x y).1) (y := (mmP x y).2) ?_ ?_ fun T nT => ?_
      · exact vl_min2 (ix _ rfl rfl).1 (ix _ rfl rfl).2
      · exact vl_max2 (ix _ rfl rfl).1 (ix _ rfl rfl).2
      have sT : Same H2 (upd H2 T (.tup [.int (mmP x y).1, .int (mmP x y).2])) := same_upd nT
      refine ⟨ts, sT _ _ hD, ?_, ts ++ [.ref T], upd_same, same_upd' (s2.trans sT) nD, ?_⟩
      · rw [hT.len, List.length_take]
        exact Nat.lt_of_le_of_lt (m := 10000) (by omega) (by decide)
      · rw [take_snoc hst]
        exact ((hT.to sT).app (TupsAt.one upd_same)).upd (sT _ _ hD)
    · obtain ⟨ts, hD, s2, hT⟩ := hP
      rw [List.take_of_length_le (by rw [sl]; omega)] at hT
      refine q_lnew fun lo nlo => ?_
      have s5 : Same H2 (upd H2 lo (.lst [])) := same_upd nlo
      have hU : Dp K H2 (.ref D) (.list ((stepsI w).map pairD2)) := .lst (.of hD) hT.dp
      refine q_forLnk (j1 := 4) (j2 := 5) (j3 := 6) (j4 := 7) (Hb := H) (vl_ixT (K := K) (vl_var rfl) vl_c (seqT (s2.trans s5) hp0) (atI_nat (j := 1) rfl)) hc hx (s2.trans s5)
        (fun i σ H5 => ∃ y4 y5 y6 y7 y8 ts, σ = [some (.ref p0), some (.ref p), some (.ref D), some (.ref lo), y4, y5, y6, y7, y8, none] ∧ Same H2 H5 ∧ H5 lo = some (.lst ts) ∧ ts.length = i ∧ DpAll K (but H5 lo) ts (((N.ls.take i).map fun l => (⟨l.a, l.b, valN w l, valN w l⟩ : Lnk)).map lnkD))
        ⟨_, _, _, _, _, [], rfl, s5, upd_same, rfl, .nil⟩ (fun i σ H5 hP => ?_) (fun i l σ H5 hl hP => ?_) (fun σ H5 hP => ?_)
      · obtain ⟨_, _, _, _, _, _, _, s6, _⟩ := hP
        exact s2.trans s6
      · obtain ⟨y4, y5, y6, y7, y8, ts, rfl, s6, elo, hlen, hD5⟩ := hP
        have hil := (List.getElem?_eq_some_iff.mp hl).1
        refine q_asgE ⟨by show 2 ≤ sizeLine; decide, fun L nL => ?_⟩
        have sL : Same H5 (upd H5 L (.lst [.non, .int 1])) := same_upd nL
        refine (ve_inP (K := K) (p := l.a) (q := l.b) (f := .ref D) (L := stepsI w) (vl_var rfl) (vl_var rfl) (fun _ _ => vl_var rfl) (Dp.to hU (s6.trans sL))) _ fun H6 s7 => ?_
        refine .inr ⟨decide ((l.a, l.b) ∈ stepsI w), rfl, L, [.non, .int 1], _, oV (valN w l), rfl, rfl, .of (s7 _ _ upd_same), ?_, ?_⟩
        · unfold valN
          by_cases c1 : (l.a, l.b) ∈ stepsI w
          · rw [decide_eq_true c1, if_pos c1]
            rfl
          · rw [decide_eq_false c1, if_neg c1]
            rfl
        have s56 := sL.trans s7
        refine ⟨.ref lo, rfl, .inl ⟨rfl, _, .inl (.inl (s56 _ _ elo))⟩, .int l.a, rfl, .int l.b, rfl, oV (valN w l), rfl, oV (valN w l), rfl, by show 4 ≤ sizeLine; decide, fun T nT => ?_⟩
        have sT : Same H6 (upd H6 T (.tup [.int l.a, .int l.b, oV (valN w l), oV (valN w l)])) := same_upd nT
        have loT : T ≠ lo := (ne_of_none (s56 _ _ elo) nT).symm
        refine ⟨lo, ts, .ref T, rfl, rfl, (s56.trans sT) _ _ elo, ?_, ?_⟩
        · rw [hlen]
          exact Nat.lt_of_le_of_lt (m := 10000) (by omega) (by decide)
        · have sb : Same (but H5 lo) (but (upd (upd H6 T (.tup [.int l.a, .int l.b, oV (valN w l), oV (valN w l)])) lo (.lst (ts ++ [.ref T]))) lo) := by
            rw [but_upd]
            exact but_mono (s56.trans sT)
          refine ⟨_, _, _, _, _, ts ++ [.ref T], rfl, same_upd' ((s6.trans s56).trans sT) nlo, upd_same, by rw [List.length_append, hlen]; rfl, ?_⟩
          rw [take_snoc hl, List.map_append, List.map_append]
          refine DpAll.app (DpAll.to hD5 sb) (DpAll.one (Dp.lnk (l := ⟨l.a, l.b, valN w l, valN w l⟩) (.of ?_)))
          rw [but_upd, but_ne loT, upd_same]
          rfl
      · obtain ⟨y4, y5, y6, y7, y8, ts, rfl, s6, elo, hlen, hD5⟩ := hP
        rw [List.take_length] at hD5
        refine (vl_ixT (K := K) (vl_var rfl) vl_c (seqT (s2.trans s6) hp0) (atI_nat (j := 0) rfl)) _ ⟨.ref lo, rfl, by show 2 ≤ sizeLine; decide, fun T nT => ?_⟩
        have sT : Same H5 (upd H5 T (.tup [.int N.n, .ref lo])) := same_upd nT
        exact q _ (.ref T) ((s2.trans s6).trans sT) (NetAt.dp ⟨T, lo, ts, rfl, upd_same, sT _ _ elo, DpAll.to hD5 (but_same.trans sT)⟩)
end
end Ovc
namespace L2
open PySem PySem.Spec PyProof.Rows
/-- sorted(xs), xs a list of data that are alike (lists of ints, tuples ..), any length: a new list, stable -/
def rSortedDt (K : PySem.W.Frag) : List V → Hp → VK → Prop := fun vs H Q => ∃ (a : Addr) (xs : List V) (ds : List PyData), vs = [V.ref a] ∧ SqL K H a xs ∧ DpAll K H xs ds ∧ PySem.W.AllAlike ds ∧ PySem.W.Sortable ds ∧ (∀ d ∈ ds, d.depth ≤ 60) ∧
  ∀ p, H p = none → Q (.ref p) (upd H p (.lst (((xs.zip ds).mergeSort (PySem.W.dataLe false fun b => b.2)).map (·.1))))
theorem each_rel : ∀ {xs : List V} {its : List Value} {ds : List PyData}, Vals xs its → xs.length = ds.length → PySem.W.EachIs (fun v (b : V × PyData) => RelV b.1 v) its (xs.zip ds)
  | [], _, [], .nil, _ => .nil
  | [], _, _ :: _, .nil, h => absurd h (by simp)
  | _ :: _, _, [], .cons _ _, h => absurd h (by simp)
  | x :: xs, _, d :: ds, .cons h t, e => .cons h (each_rel t (Nat.succ.inj e))
theorem dp_len {K : PySem.W.Frag} {H : Hp} : ∀ {xs : List V} {ds : List PyData}, DpAll K H xs ds → xs.length = ds.length
  | [], _, .nil => rfl
  | _ :: _, _, .cons _ r => by rw [List.length_cons, List.length_cons, dp_len r]
theorem rel_vals : ∀ {bs : List (V × PyData)} {out : List Value}, PySem.W.EachIs (fun v (b : V × PyData) => RelV b.1 v) out bs → Vals (bs.map (·.1)) out
  | [], _, .nil => .nil
  | b :: bs, _, .cons h t => .cons h (rel_vals t)
section
variable {X : Cx}
theorem each_reads {pins : List (Addr × Obj)} {s : Shared} {σ : St} {H : Hp} (I : Inv X pins σ H s) : ∀ {xs : List V} {its : List Value} {ds : List PyData}, Vals xs its → DpAll X.K H xs ds → PySem.W.EachIs (fun v (b : V × PyData) => ∃ as, Reads s.heap v b.2 as) its (xs.zip ds)
  | [], _, _, .nil, .nil => .nil
  | _ :: _, _, _, .cons h t, .cons d r => .cons (Dp.reads I _ _ _ d h) (each_reads I t r)
theorem call_sortedDt (hu : X.A.units + 64 < cLine) : CallR X (.builtin "sorted") (rSortedDt X.K) := by
  intro pins s σ H vs us Q I r h
  obtain ⟨a, xs, ds, rfl, hs, hd, hal, hso, hdep, q⟩ := h
  obtain ⟨its, rv, hl, hz⟩ := I.list hs
  obtain ⟨u, rfl, ru⟩ := vals1 r
  obtain rfl : u = Value.ref a := ru
  have hlen : xs.length = ds.length := dp_len hd
  have em : (xs.zip ds).map (·.2) = ds := by
    rw [List.map_snd_zip]
    omega
  refine PySem.W.sorted_data (enc := fun b : V × PyData => b.2) (bs := xs.zip ds) hl.isList (each_rel rv hlen) (each_reads I rv hd) (by rw [em]; exact hal) (by rw [em]; exact hso) (by rw [List.length_zip]; omega) (fun b hb => ?_) fun out hlo he => ?_
  · have := hdep b.2 (by rw [← em]; exact List.mem_map.mpr ⟨b, hb, rfl⟩)
    omega
  · refine ⟨.ref (s.heap.objs.size + 1), upd H (s.heap.objs.size + 1) (.lst (((xs.zip ds).mergeSort (PySem.W.dataLe false fun b => b.2)).map (·.1))), I.laid (t' := s.toks) (fun b o e => sortedAll_old e) (Nat.le_succ _) ⟨?_, out, ?_⟩, rfl, q _ (I.hok.fresh (Nat.le_succ _))⟩
    · rw [List.length_map, List.length_mergeSort, List.length_zip]
      omega
    · obtain ⟨n, hn⟩ := sortedAll_at s.heap its (List.toArray out)
      exact ⟨n, rel_vals he, hn⟩
end
end L2
namespace Ovc
open PySem PySem.Spec PyProof.Rows L2
/-! ### the law's witness -/
theorem at_last5 {xs : List V} {x : V} (h : xs[xs.length - 1]? = some x) (hl : 1 ≤ xs.length) : atI xs (-1) = some x := by
  have e : ixN xs.length (-1) = some (xs.length - 1) := by
    unfold ixN
    rw [if_neg (by omega), if_pos (by omega)]
    congr 1
    omega
  unfold atI
  rw [e]
  exact h

theorem mk_lst1 {σ : L2.St} {H : Hp} {te : TE} {Q : VK} (h : te σ H fun x H1 => 1 ≤ sizeLine ∧ ∀ p, H1 p = none → Q (.ref p) (upd H1 p (.lst [x]))) : tLst (tCons te tNil) σ H Q := h
theorem mk_cb1 {σ : L2.St} {H : Hp} {te : TE} {Q : VK} {r : List V → Hp → VK → Prop} (h : te σ H fun x H1 => r [x] H1 Q) : tCB r (tCons te tNil) σ H Q := h
theorem mk_cb1V {σ : L2.St} {H : Hp} {te : TE} {v : V} {Q : VK} {r : List V → Hp → VK → Prop} (h : Vl te σ H v) (k : r [v] H Q) : tCB r (tCons te tNil) σ H Q := h _ k
theorem lc_openV {K : PySem.W.Frag} {σ : L2.St} {H : Hp} {tl te : TE} {tt : TT} {g : TG} {js : List Nat} {v : V} {Q : VK} (h : Vl tl σ H v) (k : tLc (iList K fun _ H' Q' => Q' v H') g tt te js σ H Q) : tLc (iList K tl) g tt te js σ H Q := h _ k
theorem vn_open {σ : L2.St} {H : Hp} {te : TE} {xs : List V} {Q : VK} (h : Vn te σ H xs) (k : ∀ p H', Same H H' → H p = none → H' p = some (.lst xs) → Q (.ref p) H') : te σ H Q := h _ k
theorem q_forE {K : PySem.W.Frag} {σ : L2.St} {H : Hp} {D : Ends} {tz tw : TS} {te : TE} {g : TG} (h : te σ H fun x H1 => tSeq (tFor (iList K fun _ H' Q => Q x H') g tz) tw D σ H1) : tSeq (tFor (iList K te) g tz) tw D σ H := h
theorem g_forE {K : PySem.W.Frag} {σ : L2.St} {H : Hp} {D : Ends} {tz : TS} {te : TE} {g : TG} (h : te σ H fun x H1 => tFor (iList K fun _ H' Q => Q x H') g tz D σ H1) : tFor (iList K te) g tz D σ H := h
theorem lastI_get {w : List Int} (h : w ≠ []) : w[w.length - 1]? = some (lastI w) := by
  unfold lastI
  rw [← List.getLast?_eq_getElem?, List.getLastD_eq_getLast?]
  cases e : w.getLast? with
  | none => exact absurd (List.getLast?_eq_none_iff.mp e) h
  | some x => rfl
theorem vl_last {K : PySem.W.Frag} {σ : L2.St} {H : Hp} {te : TE} {a : Addr} {w : List Int} (h : Vl te σ H (.ref a)) (ha : SqL K H a (w.map V.int)) (hw : w ≠ []) : Vl (tOp (rIxL K) te (tUn (rU fun i => .int (-i)) (tC (.int 1)))) σ H (.int (lastI w)) :=
  vl_ixL h (vl_neg (p := 1) vl_c) ha (at_last5 (by
    rw [List.length_map, List.getElem?_map, lastI_get hw]
    rfl) (by
    rw [List.length_map]
    exact List.length_pos_iff.mpr hw))
theorem asc_ext : ∀ {l m : List Int}, l.Pairwise (· < ·) → m.Pairwise (· < ·) → (∀ x, x ∈ l ↔ x ∈ m) → l = m
  | [], [], _, _, _ => rfl
  | [], y :: m, _, _, h => absurd ((h y).mpr List.mem_cons_self) List.not_mem_nil
  | x :: l, [], _, _, h => absurd ((h x).mp List.mem_cons_self) List.not_mem_nil
  | x :: l, y :: m, hl, hm, h => by
    obtain ⟨l1, l2⟩ := List.pairwise_cons.mp hl
    obtain ⟨m1, m2⟩ := List.pairwise_cons.mp hm
    have e : x = y := by
      rcases List.mem_cons.mp ((h x).mp List.mem_cons_self) with e | e
      · exact e
      · rcases List.mem_cons.mp ((h y).mpr List.mem_cons_self) with e2 | e2
        · exact e2.symm
        · have := m1 x e
          have := l1 y e2
          omega
    subst e
    rw [asc_ext l2 m2 fun z => ?_]
    constructor
    · intro hz
      rcases List.mem_cons.mp ((h z).mp (List.mem_cons_of_mem _ hz)) with e | e
      · have := l1 z hz
        omega
      · exact e
    · intro hz
      rcases List.mem_cons.mp ((h z).mpr (List.mem_cons_of_mem _ hz)) with e | e
      · have := m1 z hz
        omega
      · exact e
/-- a list of lists of ints -/
structure LolAt (H : Hp) (refs : List V) (W : List (List Int)) (av : Addr → Prop) : Prop where
  len : refs.length = W.length
  at_ : ∀ (i : Nat) w, W[i]? = some w → ∃ a, refs[i]? = some (.ref a) ∧ H a = some (.lst ((w : List Int).map V.int)) ∧ ¬ av a
theorem LolAt.to {H H' : Hp} {refs : List V} {W : List (List Int)} {av : Addr → Prop} (h : LolAt H refs W av) (s : Same H H') : LolAt H' refs W av := ⟨h.len, fun i w e => let ⟨a, h1, h2, h3⟩ := h.at_ i w e; ⟨a, h1, s _ _ h2, h3⟩⟩
theorem LolAt.upd {H : Hp} {refs : List V} {W : List (List Int)} {av : Addr → Prop} {x : Addr} {o : HO} (h : LolAt H refs W av) (hx : av x) : LolAt (L2.upd H x o) refs W av := ⟨h.len, fun i w e => let ⟨a, h1, h2, h3⟩ := h.at_ i w e; ⟨a, h1, by rw [upd_ne (fun z => h3 (by rw [z]; exact hx))]; exact h2, h3⟩⟩
theorem LolAt.av {H : Hp} {refs : List V} {W : List (List Int)} {av av' : Addr → Prop} (h : LolAt H refs W av) (hx : ∀ a, av' a → av a ∨ H a = none) : LolAt H refs W av' := ⟨h.len, fun i w e => let ⟨a, h1, h2, h3⟩ := h.at_ i w e; ⟨a, h1, h2, fun z => (hx a z).elim h3 fun n => by rw [n] at h2; cases h2⟩⟩
theorem LolAt.app {H : Hp} {refs : List V} {W : List (List Int)} {av : Addr → Prop} {w : List Int} {a : Addr} (h : LolAt H refs W av) (e : H a = some (.lst (w.map V.int))) (n : ¬ av a) : LolAt H (refs ++ [.ref a]) (W ++ [w]) av := by
  refine ⟨by rw [List.length_append, List.length_append, h.len]; rfl, fun k q hk => ?_⟩
  by_cases c : k < W.length
  · rw [List.getElem?_append_left c] at hk
    obtain ⟨t, e1, e2⟩ := h.at_ k q hk
    exact ⟨t, by rw [List.getElem?_append_left (by rw [h.len]; exact c)]; exact e1, e2⟩
  · rw [List.getElem?_append_right (by omega)] at hk
    have e0 : k - W.length = 0 := by
      have := (List.getElem?_eq_some_iff.mp hk).1
      simp at this
      exact this
    rw [e0] at hk
    cases hk
    refine ⟨a, ?_, e, n⟩
    rw [List.getElem?_append_right (by rw [h.len]; omega), h.len, e0]
    rfl
theorem LolAt.nil {H : Hp} {av : Addr → Prop} : LolAt H [] [] av := ⟨rfl, fun i w e => by simp at e⟩
def encI (w : List Int) : PyData := .list (w.map PyData.int)
theorem LolAt.dp {K : PySem.W.Frag} {H : Hp} {av : Addr → Prop} : ∀ {refs : List V} {W : List (List Int)}, LolAt H refs W av → DpAll K H refs (W.map encI)
  | [], [], _ => .nil
  | [], _ :: _, h => absurd h.len (by simp)
  | _ :: _, [], h => absurd h.len (by simp)
  | x :: tr, r :: rs, h => by
    obtain ⟨t, e1, e2, _⟩ := h.at_ 0 r rfl
    cases Option.some.inj e1
    exact .cons (Dp.ints (.of e2)) (LolAt.dp ⟨Nat.succ.inj h.len, fun k r e => h.at_ (k + 1) r e⟩)
theorem le_enc (x y : V) (v w : List Int) : PySem.W.dataLe false (fun b : V × PyData => b.2) (x, encI v) (y, encI w) = decide (v ≤ w) := congrFun (congrFun (PySem.W.dataLe_rows (fun l : List Int => l)) v) w
theorem lol_sort {H : Hp} {refs : List V} {W : List (List Int)} {av : Addr → Prop} (h : LolAt H refs W av) (hs : W.Pairwise (· < ·)) : ((refs.zip (W.map encI)).mergeSort (PySem.W.dataLe false fun b => b.2)).map (·.1) = refs := by
  rw [List.mergeSort_of_pairwise (List.pairwise_iff_getElem.mpr fun i j hi hj ij => ?_)]
  · rw [List.map_fst_zip]
    rw [List.length_map, h.len]
    exact Nat.le_refl _
  · rw [List.length_zip, List.length_map] at hi hj
    rw [List.getElem_zip, List.getElem_zip, List.getElem_map, List.getElem_map, le_enc]
    refine decide_eq_true (List.not_lt.mp fun z => ?_)
    exact List.lt_irrefl _ (List.lt_trans (List.pairwise_iff_getElem.mp hs i j (by omega) (by omega) ij) z)
theorem lol_call {K : PySem.W.Frag} {H : Hp} {D : Addr} {refs : List V} {W : List (List Int)} {av : Addr → Prop} {Q : VK} (hD : SqL K H D refs) (h : LolAt H refs W av) (hs : W.Pairwise (· < ·)) (k : ∀ p, H p = none → Q (.ref p) (upd H p (.lst refs))) : rSortedDt K [.ref D] H Q :=
  ⟨D, refs, W.map encI, rfl, hD, h.dp, PySem.W.AllAlike.of fun b b' => PySem.W.alike_ints b b', PySem.W.Sortable.others fun b => ⟨(fun e => nomatch e), (fun _ e => nomatch e)⟩, fun d hd => by
    obtain ⟨w, _, rfl⟩ := List.mem_map.mp hd
    show PyData.depthAll (w.map PyData.int) + 1 ≤ 60
    rw [PySem.W.depth_ints]
    decide, fun p np => by
    rw [lol_sort h hs]
    exact k p np⟩
/-- the places that are new, told one after the other from a sorted list that may hold a place twice -/
def dedU (low : Int → Bool) (S0 : List Int) (l : List Int) : List Int := l.foldl (fun U y => if low y = true ∧ y ∉ S0 ++ U then U ++ [y] else U) []
theorem dedU_snoc {low : Int → Bool} {S0 l : List Int} {y : Int} : dedU low S0 (l ++ [y]) = if low y = true ∧ y ∉ S0 ++ dedU low S0 l then dedU low S0 l ++ [y] else dedU low S0 l := by
  unfold dedU
  rw [List.foldl_append]
  rfl
theorem dedU_ok {low : Int → Bool} {S0 : List Int} : ∀ (n : Nat) (l : List Int), l.length = n → l.Pairwise (· ≤ ·) → (dedU low S0 l).Pairwise (· < ·) ∧ ∀ x, x ∈ dedU low S0 l ↔ x ∈ l ∧ low x = true ∧ x ∉ S0
  | 0, l, e, _ => by
    rw [List.length_eq_zero_iff.mp e]
    exact ⟨.nil, fun x => ⟨fun h => (nomatch h), fun h => (nomatch h.1)⟩⟩
  | n + 1, l, e, hl => by
    obtain ⟨l', y, rfl⟩ : ∃ l' y, l = l' ++ [y] := by
      have hne : l ≠ [] := fun z => by rw [z] at e; cases e
      exact ⟨l.dropLast, l.getLast hne, (List.dropLast_concat_getLast hne).symm⟩
    rw [List.length_append] at e
    obtain ⟨p1, p2, p3⟩ := List.pairwise_append.mp hl
    obtain ⟨a1, a2⟩ := dedU_ok n l' (Nat.succ.inj e) p1
    rw [dedU_snoc]
    by_cases c : low y = true ∧ y ∉ S0 ++ dedU low S0 l'
    · rw [if_pos c]
      have c2 : y ∉ S0 ∧ y ∉ dedU low S0 l' := ⟨fun h => c.2 (List.mem_append.mpr (.inl h)), fun h => c.2 (List.mem_append.mpr (.inr h))⟩
      refine ⟨List.pairwise_append.mpr ⟨a1, List.pairwise_singleton _ _, fun x hx z hz => ?_⟩, fun x => ?_⟩
      · rw [List.mem_singleton.mp hz]
        have h1 := p3 x ((a2 x).mp hx).1 y List.mem_cons_self
        have h2 : x ≠ y := fun e => c2.2 (by rw [← e]; exact hx)
        omega
      · rw [List.mem_append, List.mem_append, List.mem_singleton, a2]
        constructor
        · rintro (⟨h1, h2⟩ | rfl)
          · exact ⟨.inl h1, h2⟩
          · exact ⟨.inr rfl, c.1, c2.1⟩
        · rintro ⟨h1 | rfl, h2⟩
          · exact .inl ⟨h1, h2⟩
          · exact .inr rfl
    · rw [if_neg c]
      refine ⟨a1, fun x => ?_⟩
      rw [List.mem_append, List.mem_singleton, a2]
      constructor
      · rintro ⟨h1, h2⟩
        exact ⟨.inl h1, h2⟩
      · rintro ⟨h1 | rfl, h2, h3⟩
        · exact ⟨h1, h2, h3⟩
        · by_cases d : x ∈ dedU low S0 l'
          · exact (a2 x).mp d
          · exact absurd ⟨h2, fun h => (List.mem_append.mp h).elim h3 d⟩ c
theorem dedU_len {low : Int → Bool} {S0 : List Int} : ∀ (n : Nat) (l : List Int), l.length = n → (dedU low S0 l).length ≤ l.length
  | 0, l, e => by
    rw [List.length_eq_zero_iff.mp e]
    exact Nat.le_refl _
  | n + 1, l, e => by
    obtain ⟨l', y, rfl⟩ : ∃ l' y, l = l' ++ [y] := by
      have hne : l ≠ [] := fun z => by rw [z] at e; cases e
      exact ⟨l.dropLast, l.getLast hne, (List.dropLast_concat_getLast hne).symm⟩
    rw [List.length_append] at e
    have := dedU_len (low := low) (S0 := S0) n l' (Nat.succ.inj e)
    rw [dedU_snoc, List.length_append]
    split
    · rw [List.length_append]
      show _ + 1 ≤ _ + 1
      omega
    · omega
theorem g_appVn {K : PySem.W.Frag} {σ : L2.St} {H : Hp} {D : Ends} {ta te : TE} {l : Addr} {xs ys : List V} (ho : Vl ta σ H (.ref l)) (hl : H l = some (.lst xs)) (hv : Vn te σ H ys) (hz : xs.length < sizeLine) (k : ∀ a H', Same H H' → H a = none → H' a = some (.lst ys) → D.nx σ (L2.upd H' l (.lst (xs ++ [.ref a])))) :
    tDrop (tBM K "list" rAppend ta (tCons te tNil)) D σ H := ho _ ⟨.inl ⟨rfl, _, .inl (.inl hl)⟩, hv _ fun a H' s na ea => ⟨l, xs, .ref a, rfl, rfl, s _ _ hl, hz, k a H' s na ea⟩⟩
theorem dedU_new {N : Net} (ok : NetOk N) {low : Int → Bool} {S0 l : List Int} {x : Int} (hl : l.Pairwise (· ≤ ·)) (hm : ∀ y, y ∈ l ↔ adj0 N.ls x y = true) : dedU low S0 l = newS (nbN N) low S0 x := by
  obtain ⟨a1, a2⟩ := dedU_ok (low := low) (S0 := S0) _ l rfl hl
  refine asc_ext a1 (List.Pairwise.filter _ (nbN_lt ok x)) fun y => ?_
  rw [a2, mem_newS, hm]
  exact and_congr_left' (near_mem ok).symm
abbrev sLWitness : Stmt := topS 26
theorem scLWitness : FnScope ["linked", "rank", "u", "v", "ways", "seen", "turn", "way", "ends", "longer", "other"] ["linked", "rank", "u", "v"] (defScope sLWitness) := ⟨rfl, rfl, rfl, by decide +kernel, rfl, by decide +kernel, by decide +kernel⟩
def spLWit (K : PySem.W.Frag) : Sp := fun vs H Q _ => ∃ (lk rd : Addr) (a b : Int) (N : Net) (os : List Int), vs = [.ref lk, .ref rd, .int a, .int b] ∧ LinkAt H lk N ∧ RankAt H rd os ∧ NetOk N ∧ OrdOk N.n os ∧ PairP N.ls os a b ∧
  ∀ H' q r, Same H H' → witF (nbN N) (lowU os a) a b (N.n.toNat + 1) = some r → H' q = some (.lst (r.map V.int)) → Q (.ref q) H'
section
variable {P : Program} {w : World} {K : PySem.W.Frag} {mg : Str → Option Value} {base : Heap}
theorem ok_lwitness {f : Addr} {fd : FuncData} {k : Nat} (F : Fun K "_law_witness" "_law_witness" sLWitness f fd) (mr : mg "range" = none) (ml : mg "len" = none) (mo : mg "sorted" = none) : FnOk P w K mg base CX0 (k + 1) f fd ["linked", "rank", "u", "v"] (spLWit K) := by
  refine F.ok scLWitness (fun vs H Q E h => ?_) (fun cdv A outer s H vs Q E hr h => ?_)
  · obtain ⟨lk, rd, a, b, N, os, rfl, _⟩ := h
    rfl
  · obtain ⟨lk, rd, a, b, N, os, rfl, hL, hR, ok, oo, hp, q⟩ := h
    have hu := hu_of hr
    refine ⟨_, pss_cons (ps_set (i := 4) scLWitness.nd rfl (.inl rfl) (pe_lst (pa_cons (pe_lst (pa_cons (pv 2) pa_nil)) pa_nil)))
      (pss_cons (ps_set (i := 5) scLWitness.nd rfl (.inl rfl) (pe_lst (pa_cons (pv 2) pa_nil)))
      (pss_cons (ps_for PassesOwn.never rfl (pi_range1 (by rfl) mr (pa_cons (pe_op op_add (pe_callB call_lenD (by rfl) ml PySem.boot_len (pa_cons (pv 0) pa_nil)) pe_int) pa_nil)) (pg_name (i := 6) scLWitness.nd rfl (.inl rfl))
      (pss_cons (ps_set (i := 8) scLWitness.nd rfl (.inl rfl) (pe_callB (call_sortedDt hr.units) (by rfl) mo (by decide +kernel) (pa_cons (pe_lc (own := [("way", 7)]) (g := gName 7) (tt := (tTest (tOp (rIn K false) (tVar 3) (tDGet (tVar 0) (tOp (rIxL K) (tVar 7) _))))) (te := (tOp rCat (tVar 7) (tLst (tCons (tVar 3) tNil)))) (by rfl) scLWitness.nd (pi_list (pv 4)) (blkOk_by (own := [("way", 7)]) (N := ["linked", "rank", "u", "v", "ways", "seen", "turn", "way", "ends", "longer", "other"]) (sc := defScope sLWitness) (by decide +kernel)) (fun _ _ _ _ _ => pg_name (i := 7) scLWitness.nd rfl (Or.inl rfl)) (fun _ _ _ _ _ => by exact (pts_one (pt_cmpR op_in_seq (pv 3) (pe_dget hu (pv 0) (pe_ix ix_list (pv 7) (pe_un un_neg pe_int) (fun _ _ => rfl)) (fun _ _ => rfl)) (by rfl)))) (fun _ _ _ _ _ => by exact (pe_op op_cat (pv 7) (pe_lst (pa_cons (pv 3) pa_nil))))) pa_nil)))
        (pss_cons (ps_if (pt_cmpR op_gt (pe_callB call_len_seq (by rfl) ml PySem.boot_len (pa_cons (pv 8) pa_nil)) pe_int (nomark _))
        (pss_one (ps_ret (pe_ix ix_list (pv 8) pe_int (fun _ _ => rfl))))
        pss_nil)
        (pss_cons (ps_set (i := 9) scLWitness.nd rfl (.inl rfl) (pe_lst pa_nil))
        (pss_cons (ps_for PassesOwn.never rfl (pi_list (pe_callB (call_sortedDt hr.units) (by rfl) mo (by decide +kernel) (pa_cons (pv 4) pa_nil))) (pg_name (i := 7) scLWitness.nd rfl (.inl rfl))
        (pss_one (ps_for PassesOwn.never rfl (pi_list (pe_callB cr_sortedI (by rfl) mo (by decide +kernel) (pa_cons (pe_dget hu (pv 0) (pe_ix ix_list (pv 7) (pe_un un_neg pe_int) (fun _ _ => rfl)) (fun _ _ => rfl)) pa_nil))) (pg_name (i := 10) scLWitness.nd rfl (.inl rfl))
          (pss_one (ps_if (PW.pt (pw_and (pt_cmpR op_lt (pe_dget hu (pv 1) (pv 10) (fun _ _ => rfl)) (pe_dget hu (pv 1) (pv 2) (fun _ _ => rfl)) (nomark _)) (pw_and1 (pt_cmpR op_notIn_seq (pv 10) (pv 5) (by rfl)))))
            (pss_cons (ps_expr (pe_bm PySem.F.plainAttrs_list PySem.F.slot_list_append PySem.F.type_list_append mt_append (pv 5) (pa_cons (pv 10) pa_nil)))
              (pss_one (ps_expr (pe_bm PySem.F.plainAttrs_list PySem.F.slot_list_append PySem.F.type_list_append mt_append (pv 9) (pa_cons (pe_op op_cat (pv 7) (pe_lst (pa_cons (pv 10) pa_nil))) pa_nil)))))
            pss_nil)))))
        (pss_one (ps_set (i := 4) scLWitness.nd rfl (.inl rfl) (pv 9))))))))
      (pss_one (ps_ret pe_non)))), ?_⟩
    have n40 := ok.n40
    have n1 := ok.n1
    have hin := hp.ins ok
    obtain ⟨kvl, ekl, lkl, hkl⟩ := hL.ex
    obtain ⟨kvr, ekr, hkr⟩ := hR.ex
    have hab := hp.1
    -- ways, seen
    refine q_asgE (mk_lst1 ?_)
    refine (vn_oneI (n := a) (te := tVar 2) (vl_var rfl)) _ fun L H1 s1 nL eL => ⟨by show 1 ≤ sizeLine; decide, fun wp nwp => ?_⟩
    have sw : Same H1 (upd H1 wp (.lst [.ref L])) := same_upd nwp
    refine q_asgN (vn_oneI (n := a) (vl_var rfl)) fun sp H2 s2 nsp esp => ?_
    have s02 := (s1.trans sw).trans s2
    have nspH : H sp = none := Same.free (s1.trans sw) nsp
    have wpsp : wp ≠ sp := ne_of_none upd_same nsp
    have hW0 : LolAt H2 [.ref L] [[a]] (fun z => z = sp) := ⟨rfl, fun i w e => by
      cases i with
      | zero =>
        cases e
        refine ⟨L, rfl, s2 _ _ (sw _ _ eL), fun z => ?_⟩
        rw [← z, sw _ _ eL] at nsp
        cases nsp
      | succ i => simp at e⟩
    refine q_forR (n := (kvl.length : Int) + 1) (va_cons (vl_I0 (g := fun i j => .int (i + j)) (vl_cb (va_cons (vl_var rfl) va_nil) fun _ k => ⟨lk, kvl, rfl, s02 _ _ ekl, k⟩) vl_c) va_nil) ⟨by omega, by omega⟩
      (fun t σ H3 => ∃ y6 y7 y8 y9 y10 wp refs, σ = [some (.ref lk), some (.ref rd), some (.int a), some (.int b), some (.ref wp), some (.ref sp), y6, y7, y8, y9, y10] ∧ Same H H3 ∧ wp ≠ sp ∧ H3 wp = some (.lst refs) ∧ LolAt H3 refs (layW N os a t).1 (fun z => z = sp) ∧ H3 sp = some (.lst (((layW N os a t).2).map V.int)) ∧ ∀ s, s < t → goesTo (nbN N) b (layW N os a s).1 = none)
      ⟨_, _, _, _, _, wp, _, rfl, s02, wpsp, s2 _ _ upd_same, hW0, esp, fun s h => absurd h (Nat.not_lt_zero _)⟩ (fun t σ H3 ht hP => ?_) (fun σ H3 hP => ?_)
    · obtain ⟨y6, y7, y8, y9, y10, wp, refs, rfl, s3, wpsp, ewp, hW, esp, hno⟩ := hP
      obtain ⟨hLk, hIk⟩ := lay_ok (low := lowU os a) (nbN_lt ok) a t
      have wne : ∀ w ∈ (layW N os a t).1, w ≠ [] := fun w hw e => by
        have := hLk.len w hw
        rw [e] at this
        cases this
      have ends_in : ∀ w ∈ (layW N os a t).1, 0 ≤ lastI w ∧ lastI w < N.n := fun w hw => (lay_seen ok hin.1 t _ (hLk.ends w hw)).1
      have eN : layW N os a (t + 1) = (layW N os a t).1.foldl (layStep (nbN N) (lowU os a)) ([], (layW N os a t).2) := rfl
      have lenW : (layW N os a t).1.length ≤ 100 := by
        have nd : ((layW N os a t).1.map lastI).Nodup := List.pairwise_map.mpr (hLk.srt.imp_of_mem fun ha hb hlt e => by
          rw [hLk.inj _ ha _ hb e] at hlt
          exact List.lt_irrefl _ hlt)
        have := sub_len (ys := rng N.n) nd fun x hx => by
          obtain ⟨w, hw, rfl⟩ := List.mem_map.mp hx
          exact mem_rng.mpr (ends_in w hw)
        rw [len_rng, List.length_map] at this
        omega
      have wl : ∀ w ∈ (layW N os a t).1, w.length ≤ 100 := fun w hw => by
        have := hLk.len w hw
        have := lay_n ok hin.1 (t := t) (fun e => by
          have hw : w ∈ (layW N os a t).1 := hw
          rw [e] at hw
          cases hw)
        omega
      generalize hW' : (layW N os a t).1 = W at *
      generalize hS' : (layW N os a t).2 = S at *
      -- ends
      have nbr : ∀ w ∈ W, ∃ al ns, valV kvl (.inl (lastI w)) = some (.ref al) ∧ H al = some (.lst ((ns : List Int).map V.int)) ∧ ns.length ≤ 4000 ∧ ∀ y, y ∈ ns ↔ adj0 N.ls (lastI w) y = true := fun w hw => by
        obtain ⟨al, ns, h1, h2, h3, h4⟩ := hkl (lastI w) (ends_in w hw).1 (ends_in w hw).2
        exact ⟨al, ns, h1, h2, h3, h4⟩
      refine q_asgE (mk_cb1 ?_)
      refine lc_openV (v := .ref wp) (vl_var rfl) ?_
      refine ⟨wp, rfl, ⟨_, .of ewp⟩, fun D nD => lc_list (xs := refs) (fun i H4 => ∃ rs, H4 D = some (.lst rs) ∧ Same H3 H4 ∧ LolAt H4 rs (((W.take i).filter fun w => decide (b ∈ nbN N (lastI w))).map fun w => w ++ [b]) (fun z => z = D)) ⟨[], upd_same, same_upd nD, LolAt.nil⟩ (fun i H4 _ hP => .of (hP.choose_spec.2.1 _ _ ewp)) (fun i x H4 hi hP => ?_) (fun H4 hP => ?_)⟩
      · obtain ⟨rs, eD, s4, hQ⟩ := hP
        have hil := (List.getElem?_eq_some_iff.mp hi).1
        have hg : W[i]? = some (W[i]'(by rw [← hW.len]; exact hil)) := List.getElem?_eq_getElem (by rw [← hW.len]; exact hil)
        generalize W[i]'(by rw [← hW.len]; exact hil) = w at hg
        obtain ⟨al, e1, e2, _⟩ := hW.at_ i w hg
        cases hi.symm.trans e1
        have hwm := List.mem_of_getElem? hg
        obtain ⟨bl, ns, k1, k2, k3, k4⟩ := nbr w hwm
        have dI' : decide (b ∈ ns) = decide (b ∈ nbN N (lastI w)) := by
          rw [decide_eq_decide, k4]
          exact (near_mem ok).symm
        refine ⟨rfl, ?_⟩
        refine (An.is (an_test (vl_inI (K := K) (x := b) (ns := ns) (vl_var rfl) (vl_dgetI (vl_var rfl) (vl_last (K := K) (vl_var rfl) (.of (s4 _ _ e2)) (wne w hwm)) ((s3.trans s4) _ _ ekl) k1) (.of ((s3.trans s4) _ _ k2)))) dI') _ ?_
        rw [take_snoc hg, List.filter_append]
        by_cases c1 : b ∈ nbN N (lastI w)
        · rw [decide_eq_true c1, if_pos rfl, List.filter_cons_of_pos (by exact decide_eq_true c1), List.filter_nil, List.map_append]
          refine vn_open (xs := (w ++ [b]).map V.int) ?_ fun L2 H5 s5 nL2 eL2 => ?_
          · exact vn_catL (vl_var rfl) (s4 _ _ e2) (vn_oneI (n := b) (vl_var rfl)) (by have := wl w hwm; show w.length + 1 ≤ 1000000; omega)
          have LD : L2 ≠ D := (ne_of_none eD nL2).symm
          refine ⟨rs, s5 _ _ eD, ?_, rs ++ [.ref L2], upd_same, same_upd' (s4.trans s5) nD, ?_⟩
          · rw [hQ.len, List.length_map]
            exact Nat.lt_of_le_of_lt (Nat.le_trans (List.length_filter_le _ _) (show (W.take i).length ≤ 10000 by rw [List.length_take]; omega)) (by decide)
          · exact LolAt.upd (LolAt.app (hQ.to s5) eL2 LD) rfl
        · rw [decide_eq_false c1, if_neg (by decide), List.filter_cons_of_neg (by exact fun z => c1 (of_decide_eq_true z)), List.filter_nil, List.append_nil]
          exact ⟨rs, eD, s4, hQ⟩
      obtain ⟨rs, eD, s4, hQ⟩ := hP
      rw [List.take_of_length_le (by rw [hW.len]; exact Nat.le_refl _)] at hQ
      have hWf : ((W.filter fun w => decide (b ∈ nbN N (lastI w))).map fun w => w ++ [b]).Pairwise (· < ·) := List.pairwise_map.mpr ((List.Pairwise.filter _ hLk.srt).imp_of_mem fun ha hb hlt => lex_app hlt (by rw [hLk.len _ (List.mem_filter.mp ha).1, hLk.len _ (List.mem_filter.mp hb).1]) b b)
      refine lol_call (.of eD) hQ hWf fun p2 np2 => ?_
      have s5 : Same H4 (upd H4 p2 (.lst rs)) := same_upd np2
      have ep2 : upd H4 p2 (.lst rs) p2 = some (.lst rs) := upd_same
      have hQ5 := hQ.to s5
      have s35 := s4.trans s5
      generalize upd H4 p2 (.lst rs) = H5 at s5 ep2 hQ5 s35 ⊢
      cases eW : W.filter fun w => decide (b ∈ nbN N (lastI w)) with
      | cons w0 Wr =>
        rw [eW] at hQ5
        obtain ⟨al, e1, e2, _⟩ := hQ5.at_ 0 (w0 ++ [b]) rfl
        have hrl : 0 < rs.length := by
          rw [hQ5.len]
          show 0 < _ + 1
          omega
        have hg : goesTo (nbN N) b W = some (w0 ++ [b]) := by
          unfold goesTo
          rw [← List.head?_filter, eW]
          rfl
        have ht' : t < N.n.toNat + 1 := by omega
        refine q_when (b := true) (an_test ((vl_I0 (g := fun i j => .bl (decide (j < i))) (vl_cb (va_cons (vl_var rfl) va_nil) fun _ k => ⟨p2, rs, rfl, .inl (.of ep2), k⟩) vl_c).is (congrArg V.bl (decide_eq_true (by omega))))) (fun _ => ?_) (fun h => by cases h)
        refine g_ret (vl_ixL (K := K) (vl_var rfl) vl_c (.of ep2) (atI_nat (j := 0) e1)) (q H5 al _ (s3.trans s35) (wit_at _ t ht' (by rw [show (lay (nbN N) (lowU os a) a t).1 = W from hW']; exact hg) hno) e2)
      | nil =>
        rw [eW] at hQ5
        have hrl : rs.length = 0 := hQ5.len
        have hg : goesTo (nbN N) b W = none := by
          unfold goesTo
          rw [← List.head?_filter, eW]
          rfl
        refine q_when (b := false) (an_test ((vl_I0 (g := fun i j => .bl (decide (j < i))) (vl_cb (va_cons (vl_var rfl) va_nil) fun _ k => ⟨p2, rs, rfl, .inl (.of ep2), k⟩) vl_c).is (congrArg V.bl (decide_eq_false (by omega))))) (fun h => by cases h) (fun _ => ?_)
        refine q_lnew fun lo nlo => ?_
        have s6 : Same H5 (upd H5 lo (.lst [])) := same_upd nlo
        have s36 := s35.trans s6
        have losp : lo ≠ sp := (ne_of_none (s35 _ _ esp) nlo).symm
        have wplo : wp ≠ lo := ne_of_none (s35 _ _ ewp) nlo
        have hW5 : LolAt (upd H5 lo (.lst [])) refs W (fun z => z = sp ∨ z = lo) := ((hW.to s35).av fun z hz => hz.imp id fun e => by rw [e]; exact nlo).to s6
        -- the ways, sorted
        refine q_forE (mk_cb1V (v := .ref wp) (vl_var rfl) ?_)
        refine lol_call (.of (s36 _ _ ewp)) hW5 hLk.srt fun p3 np3 => ?_
        have s7 : Same (upd H5 lo (.lst [])) (upd (upd H5 lo (.lst [])) p3 (.lst refs)) := same_upd np3
        have s37 := s36.trans s7
        have ep3 : upd (upd H5 lo (.lst [])) p3 (.lst refs) p3 = some (.lst refs) := upd_same
        have p3sp : p3 ≠ sp := (ne_of_none (s36 _ _ esp) np3).symm
        have p3lo : p3 ≠ lo := (ne_of_none upd_same np3).symm
        have elo0 : upd (upd H5 lo (.lst [])) p3 (.lst refs) lo = some (.lst []) := s7 _ _ upd_same
        have esp0 := s37 _ _ esp
        have hW7 := hW5.to s7
        have nloH : H lo = none := Same.free (s3.trans s35) nlo
        have s07 := s3.trans s37
        generalize upd (upd H5 lo (.lst [])) p3 (.lst refs) = H7 at ep3 elo0 esp0 hW7 s07 ⊢
        refine q_forL (K := K) (j := 7) (xs := refs) (fun Q q => q) (.of ep3)
          (fun i σ H8 => ∃ y7 y10 rl, σ = [some (.ref lk), some (.ref rd), some (.int a), some (.int b), some (.ref wp), some (.ref sp), some (.int (t : Int)), y7, some (.ref p2), some (.ref lo), y10] ∧ Same H H8 ∧ H8 p3 = some (.lst refs) ∧ LolAt H8 refs W (fun z => z = sp ∨ z = lo) ∧ H8 lo = some (.lst rl) ∧ LolAt H8 rl ((W.take i).foldl (layStep (nbN N) (lowU os a)) ([], S)).1 (fun z => z = sp ∨ z = lo) ∧ H8 sp = some (.lst ((((W.take i).foldl (layStep (nbN N) (lowU os a)) ([], S)).2).map V.int)))
          ⟨_, _, [], rfl, s07, ep3, hW7, elo0, LolAt.nil, esp0⟩ (fun i σ H8 hP => ?_) (fun i x σ H8 hi hP => ?_) (fun σ H8 hP => ?_)
        · obtain ⟨_, _, _, _, _, e, _⟩ := hP
          exact .of e
        · obtain ⟨y7, y10, rl, rfl, s8, ep8, hW8, elo8, hL8, esp8⟩ := hP
          have hil := (List.getElem?_eq_some_iff.mp hi).1
          have hg2 : W[i]? = some (W[i]'(by rw [← hW.len]; exact hil)) := List.getElem?_eq_getElem (by rw [← hW.len]; exact hil)
          generalize W[i]'(by rw [← hW.len]; exact hil) = w at hg2
          obtain ⟨al, e1, e2, e3⟩ := hW8.at_ i w hg2
          cases hi.symm.trans e1
          have hwm := List.mem_of_getElem? hg2
          obtain ⟨bl, ns, k1, k2, k3, k4⟩ := nbr w hwm
          have estep : (W.take (i + 1)).foldl (layStep (nbN N) (lowU os a)) ([], S) = layStep (nbN N) (lowU os a) ((W.take i).foldl (layStep (nbN N) (lowU os a)) ([], S)) w := by
            rw [take_snoc hg2, List.foldl_append]
            rfl
          have hS40 : ((W.take i).foldl (layStep (nbN N) (lowU os a)) ([], S)).2.length ≤ 40 := by
            obtain ⟨hL1, _⟩ := lay_ok (low := lowU os a) (nbN_lt ok) a (t + 1)
            have h1 : (layW N os a (t + 1)).2.length ≤ N.n.toNat := by
              have := sub_len (ys := rng N.n) hL1.nd fun x hx => mem_rng.mpr (lay_seen ok hin.1 (t + 1) x hx).1
              rw [len_rng] at this
              exact this
            have h2 := layFold_len (nb := nbN N) (low := lowU os a) (W.drop i) ((W.take i).foldl (layStep (nbN N) (lowU os a)) ([], S))
            rw [← List.foldl_append, List.take_append_drop, ← eN] at h2
            omega
          have hL40 : ((W.take i).foldl (layStep (nbN N) (lowU os a)) ([], S)).1.length ≤ 40 := by
            have hIi := LayI.fold (low := lowU os a) (nbN_lt ok) (W.take i) [] [] S (LayI.start (k := t + 1) hLk.nd) (by rw [List.nil_append]; exact List.Pairwise.sublist (List.take_sublist i W) hLk.srt) (by rw [List.nil_append]; exact fun z hz => hLk.len z (List.mem_of_mem_take hz))
            have := congrArg List.length hIi.seen
            rw [List.length_append, List.length_map] at this
            omega
          rw [estep]
          generalize (W.take i).foldl (layStep (nbN N) (lowU os a)) ([], S) = fi at *
          obtain ⟨L0, S0⟩ := fi
          refine g_forE (mk_cb1V (v := .ref bl) (vl_dgetI (vl_var rfl) (vl_last (K := K) (vl_var rfl) (.of e2) (wne w hwm)) (s8 _ _ ekl) k1) ?_)
          refine ⟨bl, ns, rfl, .of (s8 _ _ k2), fun cs p4 pm srt np4 => ?_⟩
          have s89 : Same H8 (upd H8 p4 (.lst (cs.map V.int))) := same_upd np4
          have ep4 : upd H8 p4 (.lst (cs.map V.int)) p4 = some (.lst (cs.map V.int)) := upd_same
          have p4sp : p4 ≠ sp := (ne_of_none esp8 np4).symm
          have p4lo : p4 ≠ lo := (ne_of_none elo8 np4).symm
          have csl : cs.length ≤ 4000 := by
            rw [pm.length_eq]
            exact k3
          have csm : ∀ y, y ∈ cs ↔ adj0 N.ls (lastI w) y = true := fun y => pm.mem_iff.trans (k4 y)
          have s9 := s8.trans s89
          have e91 := s89 _ _ ep8
          have e92 := hW8.to s89
          have e93 := s89 _ _ elo8
          have e94 := hL8.to s89
          have e95 := s89 _ _ esp8
          generalize upd H8 p4 (.lst (cs.map V.int)) = H9 at ep4 s9 e91 e92 e93 e94 e95 ⊢
          refine g_forL (K := K) (j := 10) (xs := cs.map V.int) (fun Q q => q) (.of ep4)
            (fun j σ H10 => ∃ y10 rl, σ = [some (.ref lk), some (.ref rd), some (.int a), some (.int b), some (.ref wp), some (.ref sp), some (.int (t : Int)), some (.ref al), some (.ref p2), some (.ref lo), y10] ∧ Same H H10 ∧ H10 p3 = some (.lst refs) ∧ H10 p4 = some (.lst (cs.map V.int)) ∧ LolAt H10 refs W (fun z => z = sp ∨ z = lo) ∧ H10 lo = some (.lst rl) ∧
              LolAt H10 rl (L0 ++ (dedU (lowU os a) S0 (cs.take j)).map fun y => w ++ [y]) (fun z => z = sp ∨ z = lo) ∧ H10 sp = some (.lst ((S0 ++ dedU (lowU os a) S0 (cs.take j)).map V.int)))
            ⟨_, rl, rfl, s9, e91, ep4, e92, e93, by
              have e0 : dedU (lowU os a) S0 (cs.take 0) = [] := rfl
              rw [e0, List.map_nil, List.append_nil]
              exact e94, by
              have e0 : dedU (lowU os a) S0 (cs.take 0) = [] := rfl
              rw [e0, List.append_nil]
              exact e95⟩ (fun j σ H10 hP => ?_) (fun j x1 σ H10 hj hP => ?_) (fun σ H10 hP => ?_)
          · obtain ⟨_, _, _, _, _, e, _⟩ := hP
            exact .of e
          · obtain ⟨y10, rl, rfl, s10, ep3', ep4', hW10, elo10, hL10, esp10⟩ := hP
            rw [List.getElem?_map] at hj
            cases hgj : cs[j]? with
            | none =>
              rw [hgj] at hj
              cases hj
            | some y0 =>
              rw [hgj] at hj
              cases hj
              have hy0 := (adj0_in ok ((csm y0).mp (List.mem_of_getElem? hgj))).2.1
              obtain ⟨al', f1, f2, f3⟩ := hW10.at_ i w hg2
              cases e1.symm.trans f1
              rw [take_snoc hgj, dedU_snoc]
              have Ul : (dedU (lowU os a) S0 (cs.take j)).length ≤ 4000 := by
                have := dedU_len (low := lowU os a) (S0 := S0) _ (cs.take j) rfl
                rw [List.length_take] at this
                omega
              generalize dedU (lowU os a) S0 (cs.take j) = U at *
              refine g_when (b := decide (posOf y0 os < posOf a os) && !decide (y0 ∈ S0 ++ U)) (an_and (k := decide (posOf y0 os < posOf a os)) (m := !decide (y0 ∈ S0 ++ U)) (an_test ((vl_I0 (g := fun i j => .bl (decide (i < j))) (vl_dgetI (vl_var rfl) (vl_var rfl) (s10 _ _ ekr) (hkr y0 (oo.mem.mpr hy0))) (vl_dgetI (vl_var rfl) (vl_var rfl) (s10 _ _ ekr) (hkr a (oo.mem.mpr hin.1)))).is (congrArg V.bl (by
                rw [decide_eq_decide]
                exact Int.ofNat_lt)))) fun _ => an_test (vl_notInI (vl_var rfl) (vl_var rfl) (.of esp10))) (fun hc => ?_) (fun hc => ?_)
              · rw [Bool.and_eq_true, Bool.not_eq_true', decide_eq_false_iff_not] at hc
                rw [if_pos (show lowU os a y0 = true ∧ y0 ∉ S0 ++ U from hc)]
                refine q_app (v := .int y0) (vl_var rfl) esp10 (vl_var rfl) (Nat.lt_of_le_of_lt (m := 10000) (by
                  rw [List.length_map, List.length_append]
                  show S0.length + U.length ≤ 10000
                  have : S0.length ≤ 40 := hS40
                  omega) (by decide)) ?_
                have alsp : al ≠ sp := fun z => f3 (.inl z)
                have elo11 : upd H10 sp (.lst ((S0 ++ U).map V.int ++ [.int y0])) lo = some (.lst rl) := by
                  rw [upd_ne losp]
                  exact elo10
                have eal11 : upd H10 sp (.lst ((S0 ++ U).map V.int ++ [.int y0])) al = some (.lst (w.map V.int)) := by
                  rw [upd_ne alsp]
                  exact f2
                have s11 : Same H (upd H10 sp (.lst ((S0 ++ U).map V.int ++ [.int y0]))) := same_upd' s10 nspH
                have g1 := hW10.upd (x := sp) (o := .lst ((S0 ++ U).map V.int ++ [.int y0])) (.inl rfl)
                have g2 := hL10.upd (x := sp) (o := .lst ((S0 ++ U).map V.int ++ [.int y0])) (.inl rfl)
                have g3 : upd H10 sp (.lst ((S0 ++ U).map V.int ++ [.int y0])) p3 = some (.lst refs) := by
                  rw [upd_ne p3sp]
                  exact ep3'
                have g4 : upd H10 sp (.lst ((S0 ++ U).map V.int ++ [.int y0])) p4 = some (.lst (cs.map V.int)) := by
                  rw [upd_ne p4sp]
                  exact ep4'
                have g5 : upd H10 sp (.lst ((S0 ++ U).map V.int ++ [.int y0])) sp = some (.lst ((S0 ++ (U ++ [y0])).map V.int)) := by
                  rw [upd_same, ← List.append_assoc, List.map_append (l₁ := S0 ++ U)]
                  rfl
                generalize upd H10 sp (.lst ((S0 ++ U).map V.int ++ [.int y0])) = H11 at elo11 eal11 s11 g1 g2 g3 g4 g5 ⊢
                refine g_appVn (ys := (w ++ [y0]).map V.int) (vl_var rfl) elo11 (vn_catL (vl_var rfl) eal11 (vn_oneI (n := y0) (vl_var rfl)) (by have := wl w hwm; show w.length + 1 ≤ 1000000; omega)) ?_ fun L2 H12 s12 nL2 eL2 => ?_
                · have := hL10.len
                  rw [List.length_append, List.length_map] at this
                  have : L0.length ≤ 40 := hL40
                  exact Nat.lt_of_le_of_lt (m := 10000) (by omega) (by decide)
                · have L2sp : L2 ≠ sp := (ne_of_none g5 nL2).symm
                  have L2lo : L2 ≠ lo := (ne_of_none elo11 nL2).symm
                  refine ⟨_, rl ++ [.ref L2], rfl, same_upd' (s11.trans s12) nloH, by rw [upd_ne p3lo]; exact s12 _ _ g3, by rw [upd_ne p4lo]; exact s12 _ _ g4, (g1.to s12).upd (.inr rfl), upd_same, ?_, by rw [upd_ne losp.symm]; exact s12 _ _ g5⟩
                  rw [List.map_append, ← List.append_assoc]
                  exact LolAt.upd (LolAt.app (g2.to s12) eL2 (fun z => z.elim L2sp L2lo)) (.inr rfl)
              · rw [if_neg (fun h => by
                  rw [show decide (posOf y0 os < posOf a os) = true from h.1, decide_eq_false h.2] at hc
                  cases hc)]
                exact ⟨_, rl, rfl, s10, ep3', ep4', hW10, elo10, hL10, esp10⟩
          · obtain ⟨y10, rl, rfl, s10, ep3', ep4', hW10, elo10, hL10, esp10⟩ := hP
            rw [List.length_map, List.take_length, dedU_new ok srt csm] at hL10 esp10
            exact ⟨_, _, rl, rfl, s10, ep3', hW10, elo10, hL10, esp10⟩
        · obtain ⟨y7, y10, rl, rfl, s8, ep8, hW8, elo8, hL8, esp8⟩ := hP
          rw [hW.len, List.take_length] at hL8 esp8
          exact g_asg (v := .ref lo) (vl_var rfl) ⟨_, _, _, _, _, lo, rl, rfl, s8, losp, elo8, by rw [eN]; exact hL8.av fun z hz => .inl (.inl hz), by rw [eN]; exact esp8, fun s hs => by
            by_cases c1 : s < t
            · exact hno s c1
            · rw [show s = t by omega, hW']
              exact hg⟩
    · obtain ⟨y6, y7, y8, y9, y10, wp, refs, rfl, s3, _, _, _, _, hno⟩ := hP
      exfalso
      obtain ⟨s, hs, hs2⟩ := pair_goes ok hp
      rw [hno s (by omega)] at hs2
      cases hs2
end
theorem shaped_int5 (r : List Int) : SeqAt.shaped (.list (r.map PyData.int)) = true := by
  have h : ∀ r : List Int, PyData.canLayAll0 (r.map PyData.int) = true ∧ PyData.depthAll (r.map PyData.int) = 0 := fun r => by
    induction r with
    | nil => exact ⟨rfl, rfl⟩
    | cons x r ih =>
      constructor
      · show (true && PyData.canLayAll0 (r.map PyData.int)) = true
        rw [ih.1]
        rfl
      · show max 0 (PyData.depthAll (r.map PyData.int)) = 0
        rw [ih.2]
        rfl
  show (PyData.canLayAll0 (r.map PyData.int) && decide (PyData.depthAll (r.map PyData.int) + 1 ≤ 64)) = true
  rw [(h r).1, (h r).2]
  rfl
theorem ax_op {σ : L2.St} {H : Hp} {ta tb : TE} {r : R2} {b : Bool} (h : ∀ Q : Bool → Hp → Prop, (∀ H', Same H H' → Q b H') → ta σ H fun x H1 => tb σ H1 fun y H2 => r x y H2 fun z H3 => ∃ b', z = .bl b' ∧ Q b' H3) : Ax (tTest (tOp r ta tb)) σ H b := h
theorem lay_lnk5 (l : Lnk) : (lnkD l).canLay0 = true ∧ (lnkD l).depth = 1 := by
  have h1 := lay_o l.t
  have h2 := lay_o l.k
  constructor
  · show (true && (true && ((oD l.t).canLay0 && ((oD l.k).canLay0 && true)))) = true
    rw [h1.1, h2.1]
    rfl
  · show max 0 (max 0 (max (oD l.t).depth (max (oD l.k).depth 0))) + 1 = 1
    rw [h1.2, h2.2]
    rfl
theorem shaped_net5 (N : Net) : SeqAt.shaped (netD N) = true := by
  have h : ∀ ls : List Lnk, PyData.canLayAll0 (ls.map lnkD) = true ∧ PyData.depthAll (ls.map lnkD) ≤ 1 := fun ls => by
    induction ls with
    | nil => exact ⟨rfl, Nat.zero_le _⟩
    | cons l ls ih =>
      have h2 := lay_lnk5 l
      constructor
      · show ((lnkD l).canLay0 && PyData.canLayAll0 (ls.map lnkD)) = true
        rw [h2.1, ih.1]
        rfl
      · show max (lnkD l).depth (PyData.depthAll (ls.map lnkD)) ≤ 1
        rw [h2.2]
        have := ih.2
        omega
  have h1 := h N.ls
  show ((true && ((PyData.list (N.ls.map lnkD)).canLay0 && true)) && decide (max 0 (max (PyData.list (N.ls.map lnkD)).depth 0) + 1 ≤ 64)) = true
  rw [show (PyData.list (N.ls.map lnkD)).canLay0 = true from h1.1]
  refine decide_eq_true ?_
  show max 0 (max (PyData.depthAll (N.ls.map lnkD) + 1) 0) + 1 ≤ 64
  have := h1.2
  omega
abbrev sTold5 : Stmt := topS 27
theorem scTold5 : FnScope ["net", "order", "u", "v", "is_net", "e"] ["net", "order", "u", "v", "is_net"] (defScope sTold5) := ⟨rfl, rfl, rfl, by decide +kernel, rfl, by decide +kernel, by decide +kernel⟩
def spTold5 (K : PySem.W.Frag) : Sp := fun vs H Q _ => ∃ (v : V) (N : Net) (p : Addr) (os : List Int) (a b : Int) (i : Bool), vs = [v, .ref p, .int a, .int b, .bl i] ∧ Dp K H v (netD N) ∧ NetOk N ∧ SqL K H p (os.map V.int) ∧ OrdOk N.n os ∧ ¬ PairP N.ls os a b ∧ ∀ H', Same H H' → Q (.int 0) H'
abbrev sLaw : Stmt := topS 29
theorem scLaw : FnScope ["script", "draws", "net", "order", "kept", "upper", "linked", "rank", "u", "v", "due", "told", "turn"] ["script"] (defScope sLaw) := ⟨rfl, rfl, rfl, by decide +kernel, rfl, by decide +kernel, by decide +kernel⟩
def spLaw (K : PySem.W.Frag) : Sp := fun vs H Q _ => ∃ (a : Addr) (ns : List Int), vs = [.ref a] ∧ SqL K H a (ns.map V.int) ∧ ns.length ≤ 63 ∧ ∀ H', Q (.bl true) H'
section
variable {P : Program} {w : World} {K : PySem.W.Frag} {mg : Str → Option Value} {base : Heap} {CW fI : Addr}
theorem ok_told5 {f : Addr} {fd : FuncData} {k k1 k2 : Nat} (l1 : k1 ≤ k) (l2 : k2 ≤ k) (F : Fun K "_law_told" "_law_told" sTold5 f fd) (hN : PySem.LowX.LowTxt K mg "NoPair" CW fI) (c_needing : KalX P w K mg base k1 "needing" ["net", "order", "u", "v"] (spNeed K CW)) (c_witness : KalX P w K mg base k2 "witness" ["net", "order", "u", "v"] (spWit K CW)) : FnOk P w K mg base CX0 (k + 1) f fd ["net", "order", "u", "v", "is_net"] (spTold5 K) := by
  refine F.ok scTold5 (fun vs H Q E h => ?_) (fun cdv A outer s H vs Q E hr h => ?_)
  · obtain ⟨v, N, p, os, a, b, i, rfl, _⟩ := h
    rfl
  · obtain ⟨v, N, p, os, a, b, i, rfl, hNt, ok, hS, oo, hnp, q⟩ := h
    refine ⟨_, pss_one (ps_try_cl (tb := fun W => tSeq (tIfS (tB (tVar 4)) (tRet (tCallS (spNeed K CW) (WE W) (tCons (tVar 0) (tCons (tVar 1) (tCons (tVar 2) (tCons (tVar 3) tNil)))))) tNext) (tRet (tCallS (spWit K CW) (WE W) (tCons (tVar 0) (tCons (tVar 1) (tCons (tVar 2) (tCons (tVar 3) tNil))))))) (Wout := fun _ _ _ _ => False) rfl rfl takes0 (fun W pn xe tk _ => (pss_cons (ps_if (pt_val (pv 4))
        (pss_one (ps_ret (pe_ks c_needing hr (by first | decide | omega) (by rfl) tk (pa_cons (pv 0) (pa_cons (pv 1) (pa_cons (pv 2) (pa_cons (pv 3) pa_nil)))))))
        pss_nil)
        (pss_one (ps_ret (pe_ks c_witness hr (by first | decide | omega) (by rfl) tk (pa_cons (pv 0) (pa_cons (pv 1) (pa_cons (pv 2) (pa_cons (pv 3) pa_nil))))))))) (.named (i := 5) (ts := fun a cls d => tRet (tByLow CW a cls d (tVar 5))) scTold5.nd rfl rfl ⟨rfl, by decide, .inl hN.gC⟩ (fun a oe cls d pn hz hf => (pss_one (ps_ret (pe_byLow hN hz hf (pv 5))))) .nil)), ?_⟩
    cases i with
    | true =>
      refine q_when (b := true) (an_B (vl_var rfl)) (fun _ => ?_) (fun h => by cases h)
      refine ⟨v, rfl, .ref p, rfl, .int a, rfl, .int b, rfl, v, N, p, os, a, b, rfl, hNt, ok, hS, oo, fun _ H' d s' hd => ⟨true, hN.te, fun _ a0 _ => ?_, fun z => nomatch z⟩, fun hp => absurd hp hnp⟩
      exact (vl_byLow (vl_var rfl) hd) _ (q H' s')
    | false =>
      refine q_when (b := false) (an_B (vl_var rfl)) (fun h => by cases h) (fun _ => ?_)
      refine ⟨v, rfl, .ref p, rfl, .int a, rfl, .int b, rfl, v, N, p, os, a, b, rfl, hNt, ok, hS, oo, fun _ H' d s' hd => ⟨true, hN.te, fun _ a0 _ => ?_, fun z => nomatch z⟩, fun hp => absurd hp hnp⟩
      exact (vl_byLow (vl_var rfl) hd) _ (q H' s')
theorem ok_law {f : Addr} {fd : FuncData} {k1 k2 k3 k4 k5 k6 k7 k8 k9 k10 k11 : Nat} (l1 : k1 ≤ 9) (l2 : k2 ≤ 9) (l3 : k3 ≤ 9) (l4 : k4 ≤ 9) (l5 : k5 ≤ 9) (l6 : k6 ≤ 9) (l7 : k7 ≤ 9) (l8 : k8 ≤ 9) (l9 : k9 ≤ 9) (l10 : k10 ≤ 9) (l11 : k11 ≤ 9) (F : Fun K "law" "law" sLaw f fd) (c_law_draws : Kal P w K mg base 1 "_law_draws" ["script"] (spDraws K)) (c_law_net : Kal P w K mg base k1 "_law_net" ["draws", "k", "most"] (spNet K)) (c_law_order : Kal P w K mg base k2 "_law_order" ["draws", "k", "size"] (spOrder K)) (c_law_upper : Kal P w K mg base k3 "_law_upper" ["net", "order"] (spUpperL K))
    (c_law_linked : Kal P w K mg base k4 "_law_linked" ["net"] (spLinked K)) (c_law_rank : Kal P w K mg base k5 "_law_rank" ["order"] (spRank K)) (c_law_witness : Kal P w K mg base k6 "_law_witness" ["linked", "rank", "u", "v"] (spLWit K)) (c_witness : KalX P w K mg base k7 "witness" ["net", "order", "u", "v"] (spWit K CW)) (c_needing : KalX P w K mg base k8 "needing" ["net", "order", "u", "v"] (spNeed K CW))
    (c_law_needing : Kal P w K mg base k9 "_law_needing" ["net", "way"] (spLNeed K)) (c_law_mix : Kal P w K mg base k10 "_law_mix" ["draws", "k", "many"] (spAt K)) (c_law_told : Kal P w K mg base k11 "_law_told" ["net", "order", "u", "v", "is_net"] (spTold5 K)) (mr : mg "range" = none) (ms : mg "isinstance" = none) (mL : mg "list" = none) (mrepr : mg "repr" = none) : FnG P w K mg base f fd ["script"] (spLaw K) := by
  refine okG (k := 9) F scLaw ⟨rfl, by decide, by decide⟩ (fun vs H Q E h => ?_) (fun cdv s H vs Q E hr h => ?_)
  · obtain ⟨a, ns, rfl, _⟩ := h
    rfl
  · obtain ⟨a, ns, rfl, hS, hlen, q⟩ := h
    have hu := hu_of hr
    refine ⟨_, pss_cons (ps_set (i := 1) scLaw.nd rfl (.inl rfl) (pe_k c_law_draws hr (by first | decide | omega) (by rfl) (pa_cons (pv 0) pa_nil)))
      (pss_cons (ps_set (i := 2) scLaw.nd rfl (.inl rfl) (pe_k c_law_net hr (by first | decide | omega) (by rfl) (pa_cons (pv 1) (pa_cons pe_int (pa_cons pe_int pa_nil)))))
      (pss_cons (ps_set (i := 3) scLaw.nd rfl (.inl rfl) (pe_k c_law_order hr (by first | decide | omega) (by rfl) (pa_cons (pv 1) (pa_cons pe_int (pa_cons (pe_ix ix_tup (pv 2) pe_int (fun _ _ => rfl)) pa_nil)))))
      (pss_cons (ps_set (i := 4) scLaw.nd rfl (.inl rfl) (pe_callB (call_reprD rfl hr.units) (by rfl) mrepr (by decide +kernel) (pa_cons (pe_tup (pa_cons (pv 2) (pa_cons (pv 3) pa_nil))) pa_nil)))
      (pss_cons (ps_set (i := 5) scLaw.nd rfl (.inl rfl) (pe_k c_law_upper hr (by first | decide | omega) (by rfl) (pa_cons (pv 2) (pa_cons (pv 3) pa_nil))))
      (pss_cons (ps_set (i := 6) scLaw.nd rfl (.inl rfl) (pe_k c_law_linked hr (by first | decide | omega) (by rfl) (pa_cons (pv 2) pa_nil)))
      (pss_cons (ps_set (i := 7) scLaw.nd rfl (.inl rfl) (pe_k c_law_rank hr (by first | decide | omega) (by rfl) (pa_cons (pv 3) pa_nil)))
      (pss_cons (ps_for PassesOwn.never rfl (pi_list (pv 3)) (pg_name (i := 8) scLaw.nd rfl (.inl rfl))
      (pss_one (ps_for PassesOwn.never rfl (pi_list (pe_dget hu (pv 5) (pv 8) (fun _ _ => rfl))) (pg_name (i := 9) scLaw.nd rfl (.inl rfl))
        (pss_cons (ps_set (i := 10) scLaw.nd rfl (.inl rfl) (pe_k c_law_witness hr (by first | decide | omega) (by rfl) (pa_cons (pv 6) (pa_cons (pv 7) (pa_cons (pv 8) (pa_cons (pv 9) pa_nil))))))
          (pss_cons (ps_set (i := 11) scLaw.nd rfl (.inl rfl) (pe_kx (E := fun _ _ _ => False) c_witness hr (by first | decide | omega) (by rfl) takes0 (pa_cons (pv 2) (pa_cons (pv 3) (pa_cons (pv 8) (pa_cons (pv 9) pa_nil))))))
          (pss_cons (ps_if (PW.pt (pw_or (pt_not (pt_val (pe_callB call_isi (by rfl) ms (by decide +kernel) (pa_cons (pv 11) (pa_cons (pe_bltn (v := .ty "list") (by rfl) mL (by decide +kernel) rfl) pa_nil))))) (pw_or1 (pt_cmpR (op_neD hr.units) (pv 11) (pv 10) (nomark _)))))
          (pss_one (ps_ret pe_bl))
          pss_nil)
          (pss_one (ps_if (pt_cmpR (op_neD hr.units) (pe_kx (E := fun _ _ _ => False) c_needing hr (by first | decide | omega) (by rfl) takes0 (pa_cons (pv 2) (pa_cons (pv 3) (pa_cons (pv 8) (pa_cons (pv 9) pa_nil))))) (pe_k c_law_needing hr (by first | decide | omega) (by rfl) (pa_cons (pv 2) (pa_cons (pv 10) pa_nil))) (nomark _))
          (pss_one (ps_ret pe_bl))
          pss_nil))))))))
      (pss_cons (ps_for PassesOwn.never rfl (pi_range1 (by rfl) mr (pa_cons pe_int pa_nil)) (pg_name (i := 12) scLaw.nd rfl (.inl rfl))
      (pss_cons (ps_set (i := 8) scLaw.nd rfl (.inl rfl) (pe_op op_sub (pe_k c_law_mix hr (by first | decide | omega) (by rfl) (pa_cons (pv 1) (pa_cons (pv 12) (pa_cons (pe_op op_add (pe_ix ix_tup (pv 2) pe_int (fun _ _ => rfl)) pe_int) pa_nil)))) pe_int))
        (pss_cons (ps_set (i := 9) scLaw.nd rfl (.inl rfl) (pe_op op_sub (pe_k c_law_mix hr (by first | decide | omega) (by rfl) (pa_cons (pv 1) (pa_cons (pe_op op_add (pv 12) pe_int) (pa_cons (pe_op op_add (pe_ix ix_tup (pv 2) pe_int (fun _ _ => rfl)) pe_int) pa_nil)))) pe_int))
        (pss_one (ps_if (PW.pt (pw_or (pt_cmp (pc_dnotin hu (pv 8) (pv 5))) (pw_or1 (pt_cmpR op_notIn_seq (pv 9) (pe_dget hu (pv 5) (pv 8) (fun _ _ => rfl)) (by rfl)))))
        (pss_one (ps_if (PW.pt (pw_or (pt_cmpR op_ne (pe_k c_law_told hr (by first | decide | omega) (by rfl) (pa_cons (pv 2) (pa_cons (pv 3) (pa_cons (pv 8) (pa_cons (pv 9) (pa_cons pe_bl pa_nil)))))) pe_int (nomark _)) (pw_or1 (pt_cmpR op_ne (pe_k c_law_told hr (by first | decide | omega) (by rfl) (pa_cons (pv 2) (pa_cons (pv 3) (pa_cons (pv 8) (pa_cons (pv 9) (pa_cons pe_bl pa_nil)))))) pe_int (nomark _)))))
          (pss_one (ps_ret pe_bl))
          pss_nil))
        pss_nil)))))
      (pss_one (ps_ret (pe_cmpR op_eq (pe_callB (call_reprD rfl hr.units) (by rfl) mrepr (by decide +kernel) (pa_cons (pe_tup (pa_cons (pv 2) (pa_cons (pv 3) pa_nil))) pa_nil)) (pv 4) (nomark _)))))))))))), ?_⟩
    -- draws
    refine q_asgE ⟨.ref a, rfl, a, ns, rfl, hS, hlen, fun H1 d ds s1 nd hd hok => ?_⟩
    have hD1 : SqL K H1 d (ds.map V.int) := .of hd
    refine q_asgE ⟨.ref d, rfl, d, ds, 10, 10, rfl, hD1, by decide, by decide, by decide, fun H2 v N s2 hN ok hn => ?_⟩
    obtain ⟨p, c, xs, rfl, hp, hc, hx⟩ := id hN
    have n1 := ok.n1
    have n40 := ok.n40
    refine q_asgE ⟨.ref d, rfl, (vl_ixT (K := K) (vl_var rfl) vl_c (.of hp) (atI_nat (j := 0) rfl)) _ ⟨d, ds, 90, N.n, rfl, s2.seq hD1, by decide, by omega, by omega, fun H3 po os s3 npo epo oo => ?_⟩⟩
    have ol := oo.len
    have hN3 := hN.to s3
    have shi := showOk_ints (ns := os) (fun x hx => by
      have := oo.mem.mp hx
      omega) (by omega)
    have sh := showOk_pair (showOk_net ok) (b := .list (os.map PyData.int)) ⟨shi.sh, shi.nd, shi.dep, Nat.le_trans shi.len (by decide)⟩
    have pairDp : ∀ T H', Same H3 H' → H' T = some (.tup [.ref p, .ref po]) → Dp K H' (.ref T) (.tuple [netD N, .list (os.map PyData.int)]) := fun T H' s' e => .tup (.of e) (.cons (hN3.to s').dp (.cons (Dp.ints (.of (s' _ _ epo))) .nil))
    -- kept
    refine q_asgV (ve_repr (va_cons (vl_var rfl) (va_cons (vl_var rfl) va_nil)) (by show 2 ≤ sizeLine; decide) pairDp sh.1 sh.2.1 sh.2.2.1 (Nat.le_trans sh.2.2.2 (by decide))) fun H4 s4 => ?_
    have hN4 := hN3.to s4
    have epo4 := s4 _ _ epo
    refine q_asgE ⟨.ref p, rfl, .ref po, rfl, .ref p, N, po, os, rfl, hN4.dp, ok, .of epo4, oo, fun H5 up s5 hU => ?_⟩
    refine q_asgE ⟨.ref p, rfl, .ref p, N, rfl, (hN4.to s5).dp, ok, fun H6 lk s6 hL => ?_⟩
    refine q_asgE ⟨.ref po, rfl, po, os, rfl, .of (s6 _ _ (s5 _ _ epo4)), oo.nodup, by omega, fun H7 rd s7 hR => ?_⟩
    have s47 := s5.trans (s6.trans s7)
    have s37 := s4.trans s47
    have hN7 := hN4.to s47
    have epo7 := s47 _ _ epo4
    have hU7 := hU.to (s6.trans s7)
    have hL7 := hL.to s7
    have hD7 := (s2.trans (s3.trans s37)).seq hD1
    have ep7 := s37 _ _ (s3 _ _ hp)
    obtain ⟨ku, hu1, hu2, hu3⟩ := hU7.ex
    refine q_forL (K := K) (j := 8) (xs := os.map V.int) (vl_var rfl) (.of epo7)
      (fun i σ H8 => ∃ y8 y9 y10 y11, σ = [some (.ref a), some (.ref d), some (.ref p), some (.ref po), some (.str (PyData.tuple [netD N, .list (os.map PyData.int)]).shown), some (.ref up), some (.ref lk), some (.ref rd), y8, y9, y10, y11, none] ∧ Same H7 H8)
      ⟨_, _, _, _, rfl, Same.refl _⟩ (fun i σ H8 hP => ?_) (fun i x σ H8 hi hP => ?_) (fun σ H8 hP => ?_)
    · obtain ⟨_, _, _, _, _, s8⟩ := hP
      exact .of (s8 _ _ epo7)
    · obtain ⟨y8, y9, y10, y11, rfl, s8⟩ := hP
      rw [List.getElem?_map] at hi
      cases hg : os[i]? with
      | none =>
        rw [hg] at hi
        cases hi
      | some u =>
        rw [hg] at hi
        cases hi
        have huo := List.mem_of_getElem? hg
        obtain ⟨ua, hua1, hua2⟩ := hu3 u huo
        refine g_forL (K := K) (j := 9) (xs := (upP N.ls os u).map V.int) (vl_dgetI (vl_var rfl) (vl_var rfl) (s8 _ _ hu1) hua1) (.of (s8 _ _ hua2))
          (fun j σ H9 => ∃ y9 y10 y11, σ = [some (.ref a), some (.ref d), some (.ref p), some (.ref po), some (.str (PyData.tuple [netD N, .list (os.map PyData.int)]).shown), some (.ref up), some (.ref lk), some (.ref rd), some (.int u), y9, y10, y11, none] ∧ Same H7 H9)
          ⟨_, _, _, rfl, s8⟩ (fun j σ H9 hP => ?_) (fun j x σ H9 hj hP => ?_) (fun σ H9 hP => ?_)
        · obtain ⟨_, _, _, _, s9⟩ := hP
          exact .of (s9 _ _ hua2)
        · obtain ⟨y9, y10, y11, rfl, s9⟩ := hP
          rw [List.getElem?_map] at hj
          cases hgj : (upP N.ls os u)[j]? with
          | none =>
            rw [hgj] at hj
            cases hj
          | some w =>
            rw [hgj] at hj
            cases hj
            have hpr : PairP N.ls os u w := (mem_upP ok oo).mp (List.mem_of_getElem? hgj)
            refine q_asgE ⟨.ref lk, rfl, .ref rd, rfl, .int u, rfl, .int w, rfl, lk, rd, u, w, N, os, rfl, hL7.to s9, hR.to s9, ok, oo, hpr, fun H10 q1 r1 s10 hr1 eq1 => ?_⟩
            have s710 := s9.trans s10
            refine q_asgE ⟨.ref p, rfl, .ref po, rfl, .int u, rfl, .int w, rfl, .ref p, N, po, os, u, w, rfl, (hN7.to s710).dp, ok, .of (s710 _ _ epo7), oo, fun h => absurd hpr h, fun _ H11 q2 r2 s11 nq2 hr2 eq2 => ?_⟩
            obtain rfl : r1 = r2 := Option.some.inj (hr1.symm.trans hr2)
            have s711 := s710.trans s11
            have rl := wit_len ok hpr hr1
            have eq1' := s11 _ _ eq1
            refine q_whenx (b := false) (Ax.is (ax_or (k := false) (ax_of (An.is (an_not (an_B (b := true) (vl_cb (va_cons (vl_var rfl) (va_cons vl_c va_nil)) fun _ k => ⟨.ref q2, .ty "list", .type "list", .type "list", true, rfl, .ty _, .base (.lst eq2), kit_ty (by decide +kernel), k⟩))) rfl))
              (fun _ H12 t12 => ax_op (b := false) fun Q k => ⟨.ref q2, rfl, .ref q1, rfl, _, _, Dp.ints (.of (t12 _ _ eq2)), Dp.ints (.of (t12 _ _ eq1')), shaped_int5 _, shaped_int5 _, _, rfl, ?_⟩)) rfl) (fun z => nomatch z) (fun _ H12 s12 => ?_)
            · rw [SeqAt.eqv_refl _ (Bool.and_eq_true_iff.mp (shaped_int5 r1)).1]
              exact k _ (Same.refl _)
            have s712 := s711.trans s12
            refine g_whenx (b := false) (ax_op fun Q k => ⟨.ref p, rfl, .ref po, rfl, .int u, rfl, .int w, rfl, .ref p, N, po, os, u, w, rfl, (hN7.to s712).dp, ok, .of (s712 _ _ epo7), oo, fun h => absurd hpr h, fun _ H13 q3 r3 s13 hr3 d3 => ?_⟩) (fun z => nomatch z) (fun _ H13 s13 => ?_)
            · obtain rfl : r1 = r3 := Option.some.inj (hr1.symm.trans hr3)
              refine ⟨.ref p, rfl, .ref q1, rfl, .ref p, N, q1, r1, rfl, (hN7.to (s712.trans s13)).dp, ok, .of ((s12.trans s13) _ _ eq1'), rl.1, by omega, fun H14 q4 s14 d4 => ?_⟩
              refine ⟨_, _, Dp.to d3 s14, d4, shaped_net5 _, shaped_net5 _, _, rfl, ?_⟩
              rw [SeqAt.eqv_refl _ (Bool.and_eq_true_iff.mp (shaped_net5 (needN N r1))).1]
              exact k H14 (s13.trans s14)
            · exact ⟨_, _, _, rfl, s712.trans s13⟩
        · obtain ⟨y9, y10, y11, rfl, s9⟩ := hP
          exact ⟨_, _, _, _, rfl, s9⟩
    · obtain ⟨y8, y9, y10, y11, rfl, s8⟩ := hP
      refine q_forR (n := 5) (va_cons vl_c va_nil) ⟨by decide, by decide⟩
        (fun i σ H9 => ∃ y8 y9 y10 y11 y12, σ = [some (.ref a), some (.ref d), some (.ref p), some (.ref po), some (.str (PyData.tuple [netD N, .list (os.map PyData.int)]).shown), some (.ref up), some (.ref lk), some (.ref rd), y8, y9, y10, y11, y12] ∧ Same H7 H9)
        ⟨_, _, _, _, _, rfl, s8⟩ (fun i σ H9 hi hP => ?_) (fun σ H9 hP => ?_)
      · obtain ⟨y8, y9, y10, y11, y12, rfl, s9⟩ := hP
        have n2 : ∀ σ : L2.St, σ[2]? = some (some (.ref p)) → Vl (tOp (rI0 fun i j => .int (i + j)) (tOp (rIxT K) (tVar 2) (tC (.int 0))) (tC (.int 2))) σ H9 (.int (N.n + 2)) := fun σ e => vl_I0 (vl_ixT (K := K) (vl_var e) vl_c (.of (s9 _ _ ep7)) (atI_nat (j := 0) rfl)) vl_c
        refine q_asgI (P := fun _ => True) (vi_I0 (vi_call (P := fun _ => True) (va_cons (vl_var rfl) (va_cons (vl_var rfl) (va_cons (n2 _ rfl) va_nil))) fun Q E q => ⟨d, ds, i, N.n + 2, rfl, s9.seq hD7, by omega, by omega, fun r _ => q r trivial⟩) (vi_of vl_c) (fun _ _ _ _ => trivial)) (fun u _ => ?_)
        refine q_asgI (P := fun _ => True) (vi_I0 (vi_call (P := fun _ => True) (va_cons (vl_var rfl) (va_cons (vl_I0 (g := fun i j => .int (i + j)) (vl_var rfl) vl_c) (va_cons (n2 _ rfl) va_nil))) fun Q E q => ⟨d, ds, (i : Int) + 3, N.n + 2, rfl, s9.seq hD7, by omega, by omega, fun r _ => q r trivial⟩) (vi_of vl_c) (fun _ _ _ _ => trivial)) (fun w _ => ?_)
        have hu19 := s9 _ _ hu1
        have tests : (∃ b, b = false ∧ PairP N.ls os u w) ∨ ¬ PairP N.ls os u w := by
          by_cases h : PairP N.ls os u w
          · exact .inl ⟨false, rfl, h⟩
          · exact .inr h
        by_cases hpr : PairP N.ls os u w
        · have huo : u ∈ os := oo.mem.mpr (hpr.ins ok).1
          obtain ⟨ua, hua1, hua2⟩ := hu3 u huo
          refine g_when (b := false) ((an_or (k := false) (m := false) ((vl_dnI (K := K) (vl_var rfl) (vl_var rfl) hu19).is (by rw [hua1]; rfl)) fun _ => An.is (an_test (vl_notInI (vl_var rfl) (vl_dgetI (vl_var rfl) (vl_var rfl) hu19 hua1) (.of (s9 _ _ hua2)))) (by rw [decide_eq_true ((mem_upP ok oo).mpr hpr)]; rfl)).is rfl) (fun h => by cases h) (fun _ => ⟨_, _, _, _, _, rfl, s9⟩)
        · have htest : ∃ b, An (tOr (tB (tDNotIn (tVar 8) (tVar 5))) (tTest (tOp (rIn K true) (tVar 9) (tDGet (tVar 5) (tVar 8))))) [some (.ref a), some (.ref d), some (.ref p), some (.ref po), some (.str (PyData.tuple [netD N, .list (os.map PyData.int)]).shown), some (.ref up), some (.ref lk), some (.ref rd), some (.int u), some (.int w), y10, y11, some (.int (i : Int))] H9 b := by
            by_cases huo : u ∈ os
            · obtain ⟨ua, hua1, hua2⟩ := hu3 u huo
              exact ⟨_, an_or (k := false) ((vl_dnI (K := K) (vl_var rfl) (vl_var rfl) hu19).is (by rw [hua1]; rfl)) fun _ => an_test (vl_notInI (vl_var rfl) (vl_dgetI (vl_var rfl) (vl_var rfl) hu19 hua1) (.of (s9 _ _ hua2)))⟩
            · have hno : valV ku (.inl u) = none := by
                cases e : valV ku (.inl u) with
                | none => rfl
                | some y =>
                  exfalso
                  unfold valV at e
                  obtain ⟨kv, hkv, _⟩ := Option.map_eq_some_iff.mp e
                  have h1 := List.mem_of_find?_eq_some hkv
                  have h2 : kv.1 = Sum.inl u := by simpa using List.find?_some hkv
                  have h3 : kv.1 ∈ ku.map (·.1) := List.mem_map_of_mem h1
                  rw [hu2, h2] at h3
                  obtain ⟨z, hz, e2⟩ := List.mem_map.mp h3
                  rw [Sum.inl.inj e2] at hz
                  exact huo hz
              exact ⟨true, an_or (k := true) (m := true) ((vl_dnI (K := K) (vl_var rfl) (vl_var rfl) hu19).is (by rw [hno]; rfl)) fun h => by cases h⟩
          obtain ⟨b, hb⟩ := htest
          refine g_when hb (fun _ => ?_) (fun _ => ⟨_, _, _, _, _, rfl, s9⟩)
          refine g_whenx (b := false) (Ax.is (ax_or (k := false) (ax_op (b := false) fun Q k => ⟨.ref p, rfl, .ref po, rfl, .int u, rfl, .int w, rfl, .ref p, N, po, os, u, w, false, rfl, (hN7.to s9).dp, ok, .of (s9 _ _ epo7), oo, hpr, fun H10 s10 => ⟨rfl, _, rfl, k H10 s10⟩⟩)
            (fun _ H10 s10 => ax_op (b := false) fun Q k => ⟨.ref p, rfl, .ref po, rfl, .int u, rfl, .int w, rfl, .ref p, N, po, os, u, w, true, rfl, (hN7.to (s9.trans s10)).dp, ok, .of ((s9.trans s10) _ _ epo7), oo, hpr, fun H11 s11 => ⟨rfl, _, rfl, k H11 s11⟩⟩)) rfl) (fun z => nomatch z) (fun _ H10 s10 => ⟨_, _, _, _, _, rfl, s9.trans s10⟩)
      · obtain ⟨y8, y9, y10, y11, y12, rfl, s9⟩ := hP
        refine (ve_repr (va_cons (vl_var rfl) (va_cons (vl_var rfl) va_nil)) (by show 2 ≤ sizeLine; decide) (fun T H'' s'' e => pairDp T H'' ((s37.trans s9).trans s'') e) sh.1 sh.2.1 sh.2.2.1 (Nat.le_trans sh.2.2.2 (by decide))) _ fun H10 s10 => ⟨_, rfl, rfl, ?_⟩
        rw [decide_eq_true rfl]
        exact q _
end
/-! ### what the top has written; the law's own head -/
theorem df_mk {K : PySem.W.Frag} {h : Heap} {mg : Str → Option Value} {x : Str} {st : Stmt} {ps : List Str} {f : Addr} {oc : Value} {od an : Option Addr} {osl : Array (Option Value)} {kV doc pm cdv ct : Value} (X : K.In h) (G : h.Ns mainGlobals mg)
    (a : PySem.W.nsIn K mainGlobals x = some (some (.ref f))) (l : K.lookup f = some ⟨oc, od, .func (PySem.W.fnOf x x (defArgs st) (defBody st) (defScope st) .none kV doc pm an cdv ct), osl⟩) (c : PySem.W.codeIn K cdv x = true) (k : PySem.W.keepIn K (.ref f) = true)
    (hb : ∀ (kV doc pm : Value) (an : Option Addr) (cdv ct : Value) (us : List Value), us.length = ps.length → bindArgs (PySem.W.fnOf x x (defArgs st) (defBody st) (defScope st) .none kV doc pm an cdv ct) ⟨us, []⟩ = pure (ps.zip us)) : Df K mg x st ps :=
  ⟨f, _, fun_mk l c k, PySem.W.mg_of X G a, (fun_mk l c k).binds hb⟩
theorem exm_two {K : PySem.W.Frag} {S : Addr} {c : Value} {b : Bool} (h1 : PySem.W.subIn K (.ref S) (.type "BaseException") = some true) (h2 : PySem.W.isClsIn K S = true) (h3 : PySem.W.typeIn K (.ref S) = some (.type "type")) (h4 : PySem.W.subIn K c (.ref S) = some b) : PySem.W.exmOne K c (.ref S) = some b := by
  have e1 : (PySem.W.subIn K (.ref S) (.type "BaseException") == some true) = true := by rw [h1] <;> rfl
  have e2 : ((PySem.W.clsIn K S).isSome && PySem.W.typeIn K (.ref S) == some (.type "type")) = true := by
    have h2' : (PySem.W.clsIn K S).isSome = true := h2
    rw [h2', h3] <;> rfl
  show (if (PySem.W.subIn K (.ref S) (.type "BaseException") == some true) = true then (if ((PySem.W.clsIn K S).isSome && PySem.W.typeIn K (.ref S) == some (.type "type")) = true then PySem.W.subIn K c (.ref S) else none) else none) = some b
  rw [if_pos e1, if_pos e2]
  exact h4
/-- what is asked of an error's class -/
structure ErrAt (K : PySem.W.Frag) (x : Str) (C CO fI : Addr) : Prop where
  a : PySem.W.nsIn K mainGlobals x = some (some (.ref C))
  xL : ∃ nm q N bs sn sub ab col dd m0 m1 m2 m3 m5, K.lookup C = some (excClassObj nm q C N bs [.ref CO, .type "ValueError", .type "Exception", .type "BaseException", .type "object"] true sn sub ab col dd m0 m1 m2 m3 m5 "ValueError.__new__")
  sa : PySem.W.findIn K (.ref C) "__setattr__" = some (some (.builtin "object.__setattr__"))
  ga : PySem.W.findIn K (.ref C) "__getattribute__" = some (some (.builtin "BaseException.__getattribute__"))
  gg : PySem.W.findIn K (.ref C) "__getattr__" = some none
  nb : PySem.W.findIn K (.ref C) "at" = some none
  ii : PySem.W.findIn K (.ref C) "__init__" = some (some (.ref fI))
  kC : PySem.W.keepIn K (.ref C) = true
  eC : PySem.W.subIn K (.ref C) (.type "BaseException") = some true
  tC : PySem.W.typeIn K (.ref C) = some (.type "type")
  hC : PySem.W.hasDictIn K C = true
  iC : PySem.W.isClsIn K C = true
  sC : PySem.W.subIn K (.ref C) (.ref C) = some true
structure InitAt (K : PySem.W.Frag) (fI : Addr) : Prop where
  t : PySem.W.typeIn K (.ref fI) = some (.type "function")
  l : ∃ oc od dc pm an cd ct sl, K.lookup fI = some ⟨oc, od, .func (PySem.W.fnOf "__init__" "OverpassesError.__init__" (PySem.LowX.iA ⟨4, 17, 4, 21⟩ ⟨4, 23, 4, 25⟩) (PySem.LowX.iB ⟨5, 8, 5, 12⟩ ⟨5, 8, 5, 15⟩ ⟨5, 18, 5, 20⟩ ⟨5, 8, 5, 20⟩) PySem.LowX.iS .none .none dc pm an cd ct), sl⟩ ∧ PySem.W.codeIn K cd "OverpassesError.__init__" = true
theorem low_mk {K : PySem.W.Frag} {h : Heap} {mg : Str → Option Value} {x : Str} {C CO fI : Addr} (X : K.In h) (G : h.Ns mainGlobals mg) (E : ErrAt K x C CO fI) (I : InitAt K fI) : PySem.LowX.LowTxt K mg x C fI := by
  obtain ⟨nm, q, N, bs, sn, sub, ab, col, dd, m0, m1, m2, m3, m5, xL⟩ := E.xL
  obtain ⟨oc, od, dc, pm, an, cd, ct, sl, l1, c1⟩ := I.l
  exact { gC := PySem.W.mg_of X G E.a, cls := ⟨nm, q, N, bs, _, sn, sub, ab, col, dd, m0, m1, m2, m3, m5, xL, rfl⟩, sa := E.sa, ga := E.ga, gg := E.gg, noN := E.nb, iC := E.ii, tC := I.t, kC := E.kC, exC := E.eC, tyC := E.tC, hdC := E.hC, te := exm_two E.eC E.iC E.tC E.sC, fn := ⟨_, _, _, _, _, _, _, _, _, _, _, _, _, _, l1, c1⟩ }
theorem all_mk {l : PySem.W.OpenLaw} {w : World} {K : PySem.W.Frag} {h : Heap} {mg : Str → Option Value} {fa f0 f1 f2 f3 f4 f5 f6 f7 f8 f9 f10 f11 f12 f13 f14 f15 f16 f17 : Addr} (X : K.In h) (G : h.Ns mainGlobals mg) (hfa : mg "law" = some (.ref fa))
    {od0 an0 od1 an1 od2 an2 od3 an3 od4 an4 od5 an5 od6 an6 od7 an7 od8 an8 od9 an9 od10 an10 od11 an11 od12 an12 od13 an13 od14 an14 od15 an15 od16 an16 od17 an17 : Option Addr} {sl0 sl1 sl2 sl3 sl4 sl5 sl6 sl7 sl8 sl9 sl10 sl11 sl12 sl13 sl14 sl15 sl16 sl17 : Array (Option Value)} {oc0 kV0 dc0 pm0 cd0 ct0 oc1 kV1 dc1 pm1 cd1 ct1 oc2 kV2 dc2 pm2 cd2 ct2 oc3 kV3 dc3 pm3 cd3 ct3 oc4 kV4 dc4 pm4 cd4 ct4 oc5 kV5 dc5 pm5 cd5 ct5 oc6 kV6 dc6 pm6 cd6 ct6 oc7 kV7 dc7 pm7 cd7 ct7 oc8 kV8 dc8 pm8 cd8 ct8 oc9 kV9 dc9 pm9 cd9 ct9 oc10 kV10 dc10 pm10 cd10 ct10 oc11 kV11 dc11 pm11 cd11 ct11 oc12 kV12 dc12 pm12 cd12 ct12 oc13 kV13 dc13 pm13 cd13 ct13 oc14 kV14 dc14 pm14 cd14 ct14 oc15 kV15 dc15 pm15 cd15 ct15 oc16 kV16 dc16 pm16 cd16 ct16 oc17 kV17 dc17 pm17 cd17 ct17 : Value}
    (a0 : PySem.W.nsIn K mainGlobals "neighbours" = some (some (.ref f0))) (l0 : K.lookup f0 = some ⟨oc0, od0, .func (PySem.W.fnOf "neighbours" "neighbours" (defArgs sNear) (defBody sNear) (defScope sNear) .none kV0 dc0 pm0 an0 cd0 ct0), sl0⟩) (c0 : PySem.W.codeIn K cd0 "neighbours" = true) (k0 : PySem.W.keepIn K (.ref f0) = true)
    (a1 : PySem.W.nsIn K mainGlobals "check_places" = some (some (.ref f1))) (l1 : K.lookup f1 = some ⟨oc1, od1, .func (PySem.W.fnOf "check_places" "check_places" (defArgs sChkPl) (defBody sChkPl) (defScope sChkPl) .none kV1 dc1 pm1 an1 cd1 ct1), sl1⟩) (c1 : PySem.W.codeIn K cd1 "check_places" = true) (k1 : PySem.W.keepIn K (.ref f1) = true)
    (a2 : PySem.W.nsIn K mainGlobals "ranks" = some (some (.ref f2))) (l2 : K.lookup f2 = some ⟨oc2, od2, .func (PySem.W.fnOf "ranks" "ranks" (defArgs sRanks) (defBody sRanks) (defScope sRanks) .none kV2 dc2 pm2 an2 cd2 ct2), sl2⟩) (c2 : PySem.W.codeIn K cd2 "ranks" = true) (k2 : PySem.W.keepIn K (.ref f2) = true)
    (a3 : PySem.W.nsIn K mainGlobals "witness" = some (some (.ref f3))) (l3 : K.lookup f3 = some ⟨oc3, od3, .func (PySem.W.fnOf "witness" "witness" (defArgs sWitness) (defBody sWitness) (defScope sWitness) .none kV3 dc3 pm3 an3 cd3 ct3), sl3⟩) (c3 : PySem.W.codeIn K cd3 "witness" = true) (k3 : PySem.W.keepIn K (.ref f3) = true)
    (a4 : PySem.W.nsIn K mainGlobals "needing" = some (some (.ref f4))) (l4 : K.lookup f4 = some ⟨oc4, od4, .func (PySem.W.fnOf "needing" "needing" (defArgs sNeeding) (defBody sNeeding) (defScope sNeeding) .none kV4 dc4 pm4 an4 cd4 ct4), sl4⟩) (c4 : PySem.W.codeIn K cd4 "needing" = true) (k4 : PySem.W.keepIn K (.ref f4) = true)
    (a5 : PySem.W.nsIn K mainGlobals "_law_draws" = some (some (.ref f5))) (l5 : K.lookup f5 = some ⟨oc5, od5, .func (PySem.W.fnOf "_law_draws" "_law_draws" (defArgs sDraws) (defBody sDraws) (defScope sDraws) .none kV5 dc5 pm5 an5 cd5 ct5), sl5⟩) (c5 : PySem.W.codeIn K cd5 "_law_draws" = true) (k5 : PySem.W.keepIn K (.ref f5) = true)
    (a6 : PySem.W.nsIn K mainGlobals "_law_mix" = some (some (.ref f6))) (l6 : K.lookup f6 = some ⟨oc6, od6, .func (PySem.W.fnOf "_law_mix" "_law_mix" (defArgs sMix) (defBody sMix) (defScope sMix) .none kV6 dc6 pm6 an6 cd6 ct6), sl6⟩) (c6 : PySem.W.codeIn K cd6 "_law_mix" = true) (k6 : PySem.W.keepIn K (.ref f6) = true)
    (a7 : PySem.W.nsIn K mainGlobals "_law_price" = some (some (.ref f7))) (l7 : K.lookup f7 = some ⟨oc7, od7, .func (PySem.W.fnOf "_law_price" "_law_price" (defArgs sPrice) (defBody sPrice) (defScope sPrice) .none kV7 dc7 pm7 an7 cd7 ct7), sl7⟩) (c7 : PySem.W.codeIn K cd7 "_law_price" = true) (k7 : PySem.W.keepIn K (.ref f7) = true)
    (a8 : PySem.W.nsIn K mainGlobals "_law_net" = some (some (.ref f8))) (l8 : K.lookup f8 = some ⟨oc8, od8, .func (PySem.W.fnOf "_law_net" "_law_net" (defArgs sNet) (defBody sNet) (defScope sNet) .none kV8 dc8 pm8 an8 cd8 ct8), sl8⟩) (c8 : PySem.W.codeIn K cd8 "_law_net" = true) (k8 : PySem.W.keepIn K (.ref f8) = true)
    (a9 : PySem.W.nsIn K mainGlobals "_law_order" = some (some (.ref f9))) (l9 : K.lookup f9 = some ⟨oc9, od9, .func (PySem.W.fnOf "_law_order" "_law_order" (defArgs sOrder) (defBody sOrder) (defScope sOrder) .none kV9 dc9 pm9 an9 cd9 ct9), sl9⟩) (c9 : PySem.W.codeIn K cd9 "_law_order" = true) (k9 : PySem.W.keepIn K (.ref f9) = true)
    (a10 : PySem.W.nsIn K mainGlobals "_law_linked" = some (some (.ref f10))) (l10 : K.lookup f10 = some ⟨oc10, od10, .func (PySem.W.fnOf "_law_linked" "_law_linked" (defArgs sLinked) (defBody sLinked) (defScope sLinked) .none kV10 dc10 pm10 an10 cd10 ct10), sl10⟩) (c10 : PySem.W.codeIn K cd10 "_law_linked" = true) (k10 : PySem.W.keepIn K (.ref f10) = true)
    (a11 : PySem.W.nsIn K mainGlobals "_law_reached" = some (some (.ref f11))) (l11 : K.lookup f11 = some ⟨oc11, od11, .func (PySem.W.fnOf "_law_reached" "_law_reached" (defArgs sReached) (defBody sReached) (defScope sReached) .none kV11 dc11 pm11 an11 cd11 ct11), sl11⟩) (c11 : PySem.W.codeIn K cd11 "_law_reached" = true) (k11 : PySem.W.keepIn K (.ref f11) = true)
    (a12 : PySem.W.nsIn K mainGlobals "_law_rank" = some (some (.ref f12))) (l12 : K.lookup f12 = some ⟨oc12, od12, .func (PySem.W.fnOf "_law_rank" "_law_rank" (defArgs sRank) (defBody sRank) (defScope sRank) .none kV12 dc12 pm12 an12 cd12 ct12), sl12⟩) (c12 : PySem.W.codeIn K cd12 "_law_rank" = true) (k12 : PySem.W.keepIn K (.ref f12) = true)
    (a13 : PySem.W.nsIn K mainGlobals "_law_upper" = some (some (.ref f13))) (l13 : K.lookup f13 = some ⟨oc13, od13, .func (PySem.W.fnOf "_law_upper" "_law_upper" (defArgs sUpperL) (defBody sUpperL) (defScope sUpperL) .none kV13 dc13 pm13 an13 cd13 ct13), sl13⟩) (c13 : PySem.W.codeIn K cd13 "_law_upper" = true) (k13 : PySem.W.keepIn K (.ref f13) = true)
    (a14 : PySem.W.nsIn K mainGlobals "_law_witness" = some (some (.ref f14))) (l14 : K.lookup f14 = some ⟨oc14, od14, .func (PySem.W.fnOf "_law_witness" "_law_witness" (defArgs sLWitness) (defBody sLWitness) (defScope sLWitness) .none kV14 dc14 pm14 an14 cd14 ct14), sl14⟩) (c14 : PySem.W.codeIn K cd14 "_law_witness" = true) (k14 : PySem.W.keepIn K (.ref f14) = true)
    (a15 : PySem.W.nsIn K mainGlobals "_law_told" = some (some (.ref f15))) (l15 : K.lookup f15 = some ⟨oc15, od15, .func (PySem.W.fnOf "_law_told" "_law_told" (defArgs sTold5) (defBody sTold5) (defScope sTold5) .none kV15 dc15 pm15 an15 cd15 ct15), sl15⟩) (c15 : PySem.W.codeIn K cd15 "_law_told" = true) (k15 : PySem.W.keepIn K (.ref f15) = true)
    (a16 : PySem.W.nsIn K mainGlobals "_law_needing" = some (some (.ref f16))) (l16 : K.lookup f16 = some ⟨oc16, od16, .func (PySem.W.fnOf "_law_needing" "_law_needing" (defArgs sLNeeding) (defBody sLNeeding) (defScope sLNeeding) .none kV16 dc16 pm16 an16 cd16 ct16), sl16⟩) (c16 : PySem.W.codeIn K cd16 "_law_needing" = true) (k16 : PySem.W.keepIn K (.ref f16) = true)
    (a17 : PySem.W.nsIn K mainGlobals "law" = some (some (.ref f17))) (l17 : K.lookup f17 = some ⟨oc17, od17, .func (PySem.W.fnOf "law" "law" (defArgs sLaw) (defBody sLaw) (defScope sLaw) .none kV17 dc17 pm17 an17 cd17 ct17), sl17⟩) (c17 : PySem.W.codeIn K cd17 "law" = true) (k17 : PySem.W.keepIn K (.ref f17) = true)
    {CO fI : Addr} {C0 C1 C2 : Addr} {ocI : Value} {odI anI : Option Addr} {slI : Array (Option Value)} {dcI pmI cdI ctI : Value}
    (tI : PySem.W.typeIn K (.ref fI) = some (.type "function")) (lI : K.lookup fI = some ⟨ocI, odI, .func (PySem.W.fnOf "__init__" "OverpassesError.__init__" (PySem.LowX.iA ⟨4, 17, 4, 21⟩ ⟨4, 23, 4, 25⟩) (PySem.LowX.iB ⟨5, 8, 5, 12⟩ ⟨5, 8, 5, 15⟩ ⟨5, 18, 5, 20⟩ ⟨5, 8, 5, 20⟩) PySem.LowX.iS .none .none dcI pmI anI cdI ctI), slI⟩) (cI : PySem.W.codeIn K cdI "OverpassesError.__init__" = true)
    {nm100 : Str} {q100 : Str} {N100 : Addr} {bs100 : List Value} {sn100 : List Str} {sub100 : List Value} {ab100 : Bool} {col100 : Option Bool} {dd100 : Option Addr} {m0100 : Option Value} {m1100 : Option Value} {m2100 : Option Value} {m3100 : Option Value} {m5100 : Option Value}
    (ea0 : PySem.W.nsIn K mainGlobals "NoPlace" = some (some (.ref C0))) (ex0 : K.lookup C0 = some (excClassObj nm100 q100 C0 N100 bs100 [.ref CO, .type "ValueError", .type "Exception", .type "BaseException", .type "object"] true sn100 sub100 ab100 col100 dd100 m0100 m1100 m2100 m3100 m5100 "ValueError.__new__"))
    (es0 : PySem.W.findIn K (.ref C0) "__setattr__" = some (some (.builtin "object.__setattr__"))) (eg0 : PySem.W.findIn K (.ref C0) "__getattribute__" = some (some (.builtin "BaseException.__getattribute__"))) (eh0 : PySem.W.findIn K (.ref C0) "__getattr__" = some none) (en0 : PySem.W.findIn K (.ref C0) "at" = some none) (ei0 : PySem.W.findIn K (.ref C0) "__init__" = some (some (.ref fI)))
    (ek0 : PySem.W.keepIn K (.ref C0) = true) (eb0 : PySem.W.subIn K (.ref C0) (.type "BaseException") = some true) (et0 : PySem.W.typeIn K (.ref C0) = some (.type "type")) (ed0 : PySem.W.hasDictIn K C0 = true) (ec0 : PySem.W.isClsIn K C0 = true) (ef0 : PySem.W.subIn K (.ref C0) (.ref C0) = some true)
    {nm101 : Str} {q101 : Str} {N101 : Addr} {bs101 : List Value} {sn101 : List Str} {sub101 : List Value} {ab101 : Bool} {col101 : Option Bool} {dd101 : Option Addr} {m0101 : Option Value} {m1101 : Option Value} {m2101 : Option Value} {m3101 : Option Value} {m5101 : Option Value}
    (ea1 : PySem.W.nsIn K mainGlobals "NotAnOrder" = some (some (.ref C1))) (ex1 : K.lookup C1 = some (excClassObj nm101 q101 C1 N101 bs101 [.ref CO, .type "ValueError", .type "Exception", .type "BaseException", .type "object"] true sn101 sub101 ab101 col101 dd101 m0101 m1101 m2101 m3101 m5101 "ValueError.__new__"))
    (es1 : PySem.W.findIn K (.ref C1) "__setattr__" = some (some (.builtin "object.__setattr__"))) (eg1 : PySem.W.findIn K (.ref C1) "__getattribute__" = some (some (.builtin "BaseException.__getattribute__"))) (eh1 : PySem.W.findIn K (.ref C1) "__getattr__" = some none) (en1 : PySem.W.findIn K (.ref C1) "at" = some none) (ei1 : PySem.W.findIn K (.ref C1) "__init__" = some (some (.ref fI)))
    (ek1 : PySem.W.keepIn K (.ref C1) = true) (eb1 : PySem.W.subIn K (.ref C1) (.type "BaseException") = some true) (et1 : PySem.W.typeIn K (.ref C1) = some (.type "type")) (ed1 : PySem.W.hasDictIn K C1 = true) (ec1 : PySem.W.isClsIn K C1 = true) (ef1 : PySem.W.subIn K (.ref C1) (.ref C1) = some true)
    {nm102 : Str} {q102 : Str} {N102 : Addr} {bs102 : List Value} {sn102 : List Str} {sub102 : List Value} {ab102 : Bool} {col102 : Option Bool} {dd102 : Option Addr} {m0102 : Option Value} {m1102 : Option Value} {m2102 : Option Value} {m3102 : Option Value} {m5102 : Option Value}
    (ea2 : PySem.W.nsIn K mainGlobals "NoPair" = some (some (.ref C2))) (ex2 : K.lookup C2 = some (excClassObj nm102 q102 C2 N102 bs102 [.ref CO, .type "ValueError", .type "Exception", .type "BaseException", .type "object"] true sn102 sub102 ab102 col102 dd102 m0102 m1102 m2102 m3102 m5102 "ValueError.__new__"))
    (es2 : PySem.W.findIn K (.ref C2) "__setattr__" = some (some (.builtin "object.__setattr__"))) (eg2 : PySem.W.findIn K (.ref C2) "__getattribute__" = some (some (.builtin "BaseException.__getattribute__"))) (eh2 : PySem.W.findIn K (.ref C2) "__getattr__" = some none) (en2 : PySem.W.findIn K (.ref C2) "at" = some none) (ei2 : PySem.W.findIn K (.ref C2) "__init__" = some (some (.ref fI)))
    (ek2 : PySem.W.keepIn K (.ref C2) = true) (eb2 : PySem.W.subIn K (.ref C2) (.type "BaseException") = some true) (et2 : PySem.W.typeIn K (.ref C2) = some (.type "type")) (ed2 : PySem.W.hasDictIn K C2 = true) (ec2 : PySem.W.isClsIn K C2 = true) (ef2 : PySem.W.subIn K (.ref C2) (.ref C2) = some true)
    (z0 : PySem.W.nsIn K mainGlobals "range" = some none) (z1 : PySem.W.nsIn K mainGlobals "min" = some none) (z2 : PySem.W.nsIn K mainGlobals "max" = some none) (z3 : PySem.W.nsIn K mainGlobals "len" = some none) (z4 : PySem.W.nsIn K mainGlobals "abs" = some none) (z5 : PySem.W.nsIn K mainGlobals "int" = some none) (z6 : PySem.W.nsIn K mainGlobals "list" = some none) (z7 : PySem.W.nsIn K mainGlobals "isinstance" = some none) (z8 : PySem.W.nsIn K mainGlobals "enumerate" = some none) (z9 : PySem.W.nsIn K mainGlobals "sorted" = some none) (z10 : PySem.W.nsIn K mainGlobals "repr" = some none) (z11 : PySem.W.nsIn K mainGlobals "zip" = some none) :
    ∃ fd : FuncData, (∀ (s : Shared) (v : Value), BindsTo s fd ⟨[v], []⟩ [("script", v)]) ∧ ∀ base : Heap, K.In base → base.Ns mainGlobals mg → FnG l.prog w K mg base fa fd ["script"] (spLaw K) := by
  have e := hfa.symm.trans (PySem.W.mg_of X G a17)
  cases e
  have D_neighbours : Df K mg "neighbours" sNear ["net", "a"] := df_mk X G a0 l0 c0 k0 (fun _ _ _ _ _ _ us hl => match us, hl with | [_, _], _ => rfl)
  have D_check_places : Df K mg "check_places" sChkPl ["n", "places"] := df_mk X G a1 l1 c1 k1 (fun _ _ _ _ _ _ us hl => match us, hl with | [_, _], _ => rfl)
  have D_ranks : Df K mg "ranks" sRanks ["order"] := df_mk X G a2 l2 c2 k2 (fun _ _ _ _ _ _ us hl => match us, hl with | [_], _ => rfl)
  have D_witness : Df K mg "witness" sWitness ["net", "order", "u", "v"] := df_mk X G a3 l3 c3 k3 (fun _ _ _ _ _ _ us hl => match us, hl with | [_, _, _, _], _ => rfl)
  have D_needing : Df K mg "needing" sNeeding ["net", "order", "u", "v"] := df_mk X G a4 l4 c4 k4 (fun _ _ _ _ _ _ us hl => match us, hl with | [_, _, _, _], _ => rfl)
  have D__law_draws : Df K mg "_law_draws" sDraws ["script"] := df_mk X G a5 l5 c5 k5 (fun _ _ _ _ _ _ us hl => match us, hl with | [_], _ => rfl)
  have D__law_mix : Df K mg "_law_mix" sMix ["draws", "k", "many"] := df_mk X G a6 l6 c6 k6 (fun _ _ _ _ _ _ us hl => match us, hl with | [_, _, _], _ => rfl)
  have D__law_price : Df K mg "_law_price" sPrice ["draws", "k"] := df_mk X G a7 l7 c7 k7 (fun _ _ _ _ _ _ us hl => match us, hl with | [_, _], _ => rfl)
  have D__law_net : Df K mg "_law_net" sNet ["draws", "k", "most"] := df_mk X G a8 l8 c8 k8 (fun _ _ _ _ _ _ us hl => match us, hl with | [_, _, _], _ => rfl)
  have D__law_order : Df K mg "_law_order" sOrder ["draws", "k", "size"] := df_mk X G a9 l9 c9 k9 (fun _ _ _ _ _ _ us hl => match us, hl with | [_, _, _], _ => rfl)
  have D__law_linked : Df K mg "_law_linked" sLinked ["net"] := df_mk X G a10 l10 c10 k10 (fun _ _ _ _ _ _ us hl => match us, hl with | [_], _ => rfl)
  have D__law_reached : Df K mg "_law_reached" sReached ["linked", "rank", "u"] := df_mk X G a11 l11 c11 k11 (fun _ _ _ _ _ _ us hl => match us, hl with | [_, _, _], _ => rfl)
  have D__law_rank : Df K mg "_law_rank" sRank ["order"] := df_mk X G a12 l12 c12 k12 (fun _ _ _ _ _ _ us hl => match us, hl with | [_], _ => rfl)
  have D__law_upper : Df K mg "_law_upper" sUpperL ["net", "order"] := df_mk X G a13 l13 c13 k13 (fun _ _ _ _ _ _ us hl => match us, hl with | [_, _], _ => rfl)
  have D__law_witness : Df K mg "_law_witness" sLWitness ["linked", "rank", "u", "v"] := df_mk X G a14 l14 c14 k14 (fun _ _ _ _ _ _ us hl => match us, hl with | [_, _, _, _], _ => rfl)
  have D__law_told : Df K mg "_law_told" sTold5 ["net", "order", "u", "v", "is_net"] := df_mk X G a15 l15 c15 k15 (fun _ _ _ _ _ _ us hl => match us, hl with | [_, _, _, _, _], _ => rfl)
  have D__law_needing : Df K mg "_law_needing" sLNeeding ["net", "way"] := df_mk X G a16 l16 c16 k16 (fun _ _ _ _ _ _ us hl => match us, hl with | [_, _], _ => rfl)
  have b_range := PySem.W.mg_none_of X G z0
  have b_min := PySem.W.mg_none_of X G z1
  have b_max := PySem.W.mg_none_of X G z2
  have b_len := PySem.W.mg_none_of X G z3
  have b_abs := PySem.W.mg_none_of X G z4
  have b_int := PySem.W.mg_none_of X G z5
  have b_list := PySem.W.mg_none_of X G z6
  have b_isinstance := PySem.W.mg_none_of X G z7
  have b_enumerate := PySem.W.mg_none_of X G z8
  have b_sorted := PySem.W.mg_none_of X G z9
  have b_repr := PySem.W.mg_none_of X G z10
  have b_zip := PySem.W.mg_none_of X G z11
  have E_NoPlace : PySem.LowX.LowTxt K mg "NoPlace" C0 fI := low_mk X G ⟨ea0, ⟨_, _, _, _, _, _, _, _, _, _, _, _, _, _, ex0⟩, es0, eg0, eh0, en0, ei0, ek0, eb0, et0, ed0, ec0, ef0⟩ ⟨tI, _, _, _, _, _, _, _, _, lI, cI⟩
  have E_NotAnOrder : PySem.LowX.LowTxt K mg "NotAnOrder" C1 fI := low_mk X G ⟨ea1, ⟨_, _, _, _, _, _, _, _, _, _, _, _, _, _, ex1⟩, es1, eg1, eh1, en1, ei1, ek1, eb1, et1, ed1, ec1, ef1⟩ ⟨tI, _, _, _, _, _, _, _, _, lI, cI⟩
  have E_NoPair : PySem.LowX.LowTxt K mg "NoPair" C2 fI := low_mk X G ⟨ea2, ⟨_, _, _, _, _, _, _, _, _, _, _, _, _, _, ex2⟩, es2, eg2, eh2, en2, ei2, ek2, eb2, et2, ed2, ec2, ef2⟩ ⟨tI, _, _, _, _, _, _, _, _, lI, cI⟩
  have F_law := fun_mk (st := sLaw) l17 c17 k17
  refine ⟨PySem.W.fnOf "law" "law" (defArgs sLaw) (defBody sLaw) (defScope sLaw) .none kV17 dc17 pm17 an17 cd17 ct17, fun s v => .of_eq rfl, fun base _ _ => ?_⟩
  have cD := kal_of D__law_draws (fun f fd F => ok_draws (P := l.prog) (w := w) (base := base) (k := 0) F b_range b_min b_len b_abs b_int)
  have cM := kal_of D__law_mix (fun f fd F => ok_mix (P := l.prog) (w := w) (base := base) (k := 0) F b_len b_int)
  have cPr := kal_of D__law_price (fun f fd F => ok_price F cM b_int)
  have cN := kal_of D__law_net (fun f fd F => ok_net F cM cPr b_range)
  have cO := kal_of D__law_order (fun f fd F => ok_order F cM b_range)
  have cRk := kalx_of D_ranks (fun f fd F => ok_ranks (P := l.prog) (w := w) (base := base) F E_NotAnOrder b_len b_enumerate)
  have cCp := kalx_of D_check_places (fun f fd F => ok_chkPl (P := l.prog) (w := w) (base := base) F E_NoPlace)
  have cNb := kalx_of D_neighbours (fun f fd F => ok_near F cCp)
  have cWi := kalx_of D_witness (fun f fd F => ok_witness (k := 3) (by decide) (by decide) F E_NoPair cRk cNb b_range)
  have cNe := kalx_of D_needing (fun f fd F => ok_needing F cWi b_zip b_min b_max)
  have cLk := kal_of D__law_linked (fun f fd F => ok_linked (P := l.prog) (w := w) (base := base) (k := 0) F b_range)
  have cRe := kal_of D__law_reached (fun f fd F => ok_reached (P := l.prog) (w := w) (base := base) (k := 0) F b_len b_range)
  have cRa := kal_of D__law_rank (fun f fd F => ok_rank (P := l.prog) (w := w) (base := base) (k := 0) F b_len b_range)
  have cUL := kal_of D__law_upper (fun f fd F => ok_upperL F cRa cLk cRe)
  have cLW := kal_of D__law_witness (fun f fd F => ok_lwitness (P := l.prog) (w := w) (base := base) (k := 0) F b_range b_len b_sorted)
  have cLN := kal_of D__law_needing (fun f fd F => ok_lneeding (P := l.prog) (w := w) (base := base) (k := 0) F b_range b_len b_int b_min b_max)
  have cTo := kal_of D__law_told (fun f fd F => ok_told5 (k := 5) (by decide) (by decide) F E_NoPair cNe cWi)
  exact ok_law (by decide) (by decide) (by decide) (by decide) (by decide) (by decide) (by decide) (by decide) (by decide) (by decide) (by decide) F_law cD cN cO cUL cLk cRa cLW cWi cNe cLN cM cTo b_range b_isinstance b_list b_repr
end Ovc
open PySem PySem.W PyProof.Rows
set_option maxHeartbeats 0 in
theorem PySem.Challenge.cw_overpasses_k05_witnesses_of_pairs_holds : PySem.Challenge.rw_overpasses_k05_witnesses_of_pairs.Holds := by
  w_on; o_law; k_head; (case hw => w_witness2)
  k_fill
  refine Ovc.walkG (l := PySem.Challenge.rw_overpasses_k05_witnesses_of_pairs) (n := 63) (x := "script") (sp := fun w => Ovc.spLaw _) rfl (by decide) rfl (fun w h Y => PySem.W.kIn_of Y) ?F (fun _ _ a ns hl _ hS => ⟨a, ns, rfl, hS, hl, fun _ => rfl⟩)
  case F =>
    intro w mg fa h KX G hmg
    refine' Ovc.all_mk KX G hmg ?a0 ?l0 ?c0 ?k0 ?a1 ?l1 ?c1 ?k1 ?a2 ?l2 ?c2 ?k2 ?a3 ?l3 ?c3 ?k3 ?a4 ?l4 ?c4 ?k4 ?a5 ?l5 ?c5 ?k5 ?a6 ?l6 ?c6 ?k6 ?a7 ?l7 ?c7 ?k7 ?a8 ?l8 ?c8 ?k8 ?a9 ?l9 ?c9 ?k9 ?a10 ?l10 ?c10 ?k10 ?a11 ?l11 ?c11 ?k11 ?a12 ?l12 ?c12 ?k12 ?a13 ?l13 ?c13 ?k13 ?a14 ?l14 ?c14 ?k14 ?a15 ?l15 ?c15 ?k15 ?a16 ?l16 ?c16 ?k16 ?a17 ?l17 ?c17 ?k17 ?tI ?lI ?cI ?ea0 ?ex0 ?es0 ?eg0 ?eh0 ?en0 ?ei0 ?ek0 ?eb0 ?et0 ?ed0 ?ec0 ?ef0 ?ea1 ?ex1 ?es1 ?eg1 ?eh1 ?en1 ?ei1 ?ek1 ?eb1 ?et1 ?ed1 ?ec1 ?ef1 ?ea2 ?ex2 ?es2 ?eg2 ?eh2 ?en2 ?ei2 ?ek2 ?eb2 ?et2 ?ed2 ?ec2 ?ef2 ?z0 ?z1 ?z2 ?z3 ?z4 ?z5 ?z6 ?z7 ?z8 ?z9 ?z10 ?z11
    (case a0 => k_is)
    (case l0 => k_is)
    (case c0 => k_is)
    (case k0 => k_is)
    (case a1 => k_is)
    (case l1 => k_is)
    (case c1 => k_is)
    (case k1 => k_is)
    (case a2 => k_is)
    (case l2 => k_is)
    (case c2 => k_is)
    (case k2 => k_is)
    (case a3 => k_is)
    (case l3 => k_is)
    (case c3 => k_is)
    (case k3 => k_is)
    (case a4 => k_is)
    (case l4 => k_is)
    (case c4 => k_is)
    (case k4 => k_is)
    (case a5 => k_is)
    (case l5 => k_is)
    (case c5 => k_is)
    (case k5 => k_is)
    (case a6 => k_is)
    (case l6 => k_is)
    (case c6 => k_is)
    (case k6 => k_is)
    (case a7 => k_is)
    (case l7 => k_is)
    (case c7 => k_is)
    (case k7 => k_is)
    (case a8 => k_is)
    (case l8 => k_is)
    (case c8 => k_is)
    (case k8 => k_is)
    (case a9 => k_is)
    (case l9 => k_is)
    (case c9 => k_is)
    (case k9 => k_is)
    (case a10 => k_is)
    (case l10 => k_is)
    (case c10 => k_is)
    (case k10 => k_is)
    (case a11 => k_is)
    (case l11 => k_is)
    (case c11 => k_is)
    (case k11 => k_is)
    (case a12 => k_is)
    (case l12 => k_is)
    (case c12 => k_is)
    (case k12 => k_is)
    (case a13 => k_is)
    (case l13 => k_is)
    (case c13 => k_is)
    (case k13 => k_is)
    (case a14 => k_is)
    (case l14 => k_is)
    (case c14 => k_is)
    (case k14 => k_is)
    (case a15 => k_is)
    (case l15 => k_is)
    (case c15 => k_is)
    (case k15 => k_is)
    (case a16 => k_is)
    (case l16 => k_is)
    (case c16 => k_is)
    (case k16 => k_is)
    (case a17 => k_is)
    (case l17 => k_is)
    (case c17 => k_is)
    (case k17 => k_is)
    (case ea0 => k_is)
    (case ex0 => k_is)
    (case es0 => k_is)
    (case eg0 => k_is)
    (case eh0 => k_is)
    (case en0 => k_is)
    (case ei0 => k_is)
    (case ek0 => k_is)
    (case eb0 => k_is)
    (case et0 => k_is)
    (case ed0 => k_is)
    (case ec0 => k_is)
    (case ef0 => first | rfl | k_is)
    (case ea1 => k_is)
    (case ex1 => k_is)
    (case es1 => k_is)
    (case eg1 => k_is)
    (case eh1 => k_is)
    (case en1 => k_is)
    (case ei1 => k_is)
    (case ek1 => k_is)
    (case eb1 => k_is)
    (case et1 => k_is)
    (case ed1 => k_is)
    (case ec1 => k_is)
    (case ef1 => first | rfl | k_is)
    (case ea2 => k_is)
    (case ex2 => k_is)
    (case es2 => k_is)
    (case eg2 => k_is)
    (case eh2 => k_is)
    (case en2 => k_is)
    (case ei2 => k_is)
    (case ek2 => k_is)
    (case eb2 => k_is)
    (case et2 => k_is)
    (case ed2 => k_is)
    (case ec2 => k_is)
    (case ef2 => first | rfl | k_is)
    (case z0 => k_is)
    (case z1 => k_is)
    (case z2 => k_is)
    (case z3 => k_is)
    (case z4 => k_is)
    (case z5 => k_is)
    (case z6 => k_is)
    (case z7 => k_is)
    (case z8 => k_is)
    (case z9 => k_is)
    (case z10 => k_is)
    (case z11 => k_is)
    (case tI => k_is)
    (case lI => k_is)
    (case cI => k_is)
