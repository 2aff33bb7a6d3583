import PyProof.Rows.All
import Wide.All
import OpenK.AllK
import Wide.FinOn
import PySem.Challenge.RW_overpasses_k06_check_of_pairs
import HandS.Base
import HandS.Call
import HandS.List
import HandS.Comp
import HandS.Dict
import HandS.Ends
import HandS.Iter
import HandS.Text
import HandS.Words
import HandS.Evl
import HandS.IsInst
import HandS.Style
import HandS.Exc
import HandS.TryOnly
import HandS.TryMany
import HandS.ExcOwn
import HandS.WordsExc
import HandS.TupLe
import HandS.TupLen
import HandS.SetKeys
import HandS.Conv
import HandS.Walk
import HandS.WordsDict
import HandS.More
import HandS.Deep
import HandS.DictComp
import HandS.DeepEq
import HandS.SortRule
import PyProof.ZipIter
import PyProof.CallType
import PyProof.Walk
import PyProof.WalkLemmas
import PyProof.RangeIter
import PyProof.RulesTry
set_option Elab.async false
set_option linter.all false
set_option maxRecDepth 100000
set_option maxHeartbeats 2000000
namespace Ovc
open PySem PySem.Spec PyProof.Rows L2
def topS (i : Nat) : Stmt := PySem.Challenge.pw_overpasses_k06_check_of_pairs.main.body.getD i (.Pass ⟨0, 0, 0, 0⟩)
/-! ### heaps -/
theorem same_upd {H : Hp} {p : Addr} {o : HO} (h : H p = none) : Same H (upd H p o) := fun b x e => by
  rw [upd_ne (ne_of_none e h)]
  exact e
theorem same_upd' {G H : Hp} {p : Addr} {o : HO} (s : Same G H) (h : G p = none) : Same G (upd H p o) := fun b x e => by
  rw [upd_ne (ne_of_none e h)]
  exact s b x e
/-- all of H but what stands at o -/
def but (H : Hp) (o : Addr) : Hp := fun b => if b = o then none else H b
theorem but_at {H : Hp} {o : Addr} : but H o o = none := if_pos rfl
theorem but_ne {H : Hp} {o b : Addr} (h : b ≠ o) : but H o b = H b := if_neg h
theorem but_same {H : Hp} {o : Addr} : Same (but H o) H := fun b x e => by
  by_cases h : b = o
  · rw [h, but_at] at e
    cases e
  · rw [but_ne h] at e
    exact e
theorem same_but {G H : Hp} {o : Addr} (s : Same G H) (n : G o = none) : Same G (but H o) := fun b x e => by
  rw [but_ne (ne_of_none e n)]
  exact s b x e
theorem but_mono {H H' : Hp} {o : Addr} (s : Same H H') : Same (but H o) (but H' o) := fun b x e => by
  by_cases h : b = o
  · rw [h, but_at] at e
    cases e
  · rw [but_ne h] at e ⊢
    exact s b x e
theorem but_upd {H : Hp} {o : Addr} {u : HO} : but (upd H o u) o = but H o := by
  funext b
  by_cases h : b = o
  · rw [h, but_at, but_at]
  · rw [but_ne h, but_ne h, upd_ne h]
/-- a store at o, seen from what stands beside it -/
theorem but_upd_same {H : Hp} {o : Addr} {u : HO} : Same (but H o) (upd H o u) := fun b x e => by
  by_cases h : b = o
  · rw [h, but_at] at e
    cases e
  · rw [but_ne h] at e
    rw [upd_ne h]
    exact e
theorem seqT {K : PySem.W.Frag} {H H' : Hp} {a : Addr} {xs : List V} (e : Same H H') (h : SqT K H a xs) : SqT K H' a xs := by
  rcases h with (h | ⟨o, h⟩) | h
  · exact .inl (.inl (e _ _ h))
  · exact .inl (.inr ⟨o, e _ _ h⟩)
  · exact .inr h
mutual
theorem dpS {K : PySem.W.Frag} {H H' : Hp} (s : Same H H') : ∀ (d : PyData) (v : V), Dp K H v d → Dp K H' v d
  | .none, _, h => by
    cases h
    exact .non
  | .bool b, _, h => by
    cases h
    exact .bl b
  | .int i, _, h => by
    cases h
    exact .int i
  | .str x, _, h => by
    cases h
    exact .str x
  | .list ds, _, h => by
    cases h with
    | lst hs ha => exact .lst (s.seq hs) (dpSAll s ds _ ha)
  | .tuple ds, _, h => by
    cases h with
    | tup hs ha => exact .tup (seqT s hs) (dpSAll s ds _ ha)
  | .dict _, _, h => by cases h
theorem dpSAll {K : PySem.W.Frag} {H H' : Hp} (s : Same H H') : ∀ (ds : List PyData) (vs : List V), DpAll K H vs ds → DpAll K H' vs ds
  | [], _, h => by
    cases h
    exact .nil
  | d :: ds, _, h => by
    cases h with
    | cons h1 h2 => exact .cons (dpS s d _ h1) (dpSAll s ds _ h2)
end
theorem Dp.to {K : PySem.W.Frag} {H H' : Hp} {v : V} {d : PyData} (h : Dp K H v d) (s : Same H H') : Dp K H' v d := dpS s d v h
theorem DpAll.to {K : PySem.W.Frag} {H H' : Hp} {vs : List V} {ds : List PyData} (h : DpAll K H vs ds) (s : Same H H') : DpAll K H' vs ds := dpSAll s ds vs h
theorem DpAll.len {K : PySem.W.Frag} {H : Hp} : ∀ {vs : List V} {ds : List PyData}, DpAll K H vs ds → vs.length = ds.length
  | _, _, .nil => rfl
  | _, _, .cons _ t => by
    rw [List.length_cons, List.length_cons, DpAll.len t]
theorem DpAll.get {K : PySem.W.Frag} {H : Hp} : ∀ {vs : List V} {ds : List PyData} {i : Nat} {d : PyData}, DpAll K H vs ds → ds[i]? = some d → ∃ v, vs[i]? = some v ∧ Dp K H v d
  | _, _, i, d, .nil, e => by simp at e
  | _, _, 0, d, .cons h _, e => by
    have e' := Option.some.inj e
    subst e'
    exact ⟨_, rfl, h⟩
  | _, _, i + 1, d, .cons _ t, e => DpAll.get (i := i) t e
theorem DpAll.app {K : PySem.W.Frag} {H : Hp} : ∀ {vs ws : List V} {ds es : List PyData}, DpAll K H vs ds → DpAll K H ws es → DpAll K H (vs ++ ws) (ds ++ es)
  | _, _, _, _, .nil, t => t
  | _, _, _, _, .cons h r, t => .cons h (DpAll.app r t)
theorem DpAll.take {K : PySem.W.Frag} {H : Hp} : ∀ {vs : List V} {ds : List PyData} (n : Nat), DpAll K H vs ds → DpAll K H (vs.take n) (ds.take n)
  | _, _, 0, _ => .nil
  | _, _, _ + 1, .nil => .nil
  | _, _, n + 1, .cons h t => .cons h (DpAll.take n t)
theorem DpAll.drop {K : PySem.W.Frag} {H : Hp} : ∀ {vs : List V} {ds : List PyData} (n : Nat), DpAll K H vs ds → DpAll K H (vs.drop n) (ds.drop n)
  | _, _, 0, h => h
  | _, _, _ + 1, .nil => .nil
  | _, _, n + 1, .cons _ t => DpAll.drop n t
theorem DpAll.one {K : PySem.W.Frag} {H : Hp} {v : V} {d : PyData} (h : Dp K H v d) : DpAll K H [v] [d] := .cons h .nil
theorem Dp.int_inv {K : PySem.W.Frag} {H : Hp} {v : V} {i : Int} (h : Dp K H v (.int i)) : v = .int i := by
  cases h
  rfl
theorem DpAll.ints {K : PySem.W.Frag} {H : Hp} : ∀ ns : List Int, DpAll K H (ns.map V.int) (ns.map PyData.int)
  | [] => .nil
  | n :: ns => .cons (.int n) (DpAll.ints ns)
theorem DpAll.ints_inv {K : PySem.W.Frag} {H : Hp} : ∀ {ns : List Int} {vs : List V}, DpAll K H vs (ns.map PyData.int) → vs = ns.map V.int
  | [], _, h => by
    cases h
    rfl
  | n :: ns, _, h => by
    cases h with
    | cons h1 h2 =>
      rw [Dp.int_inv h1, DpAll.ints_inv h2]
      rfl
theorem Dp.lst_inv {K : PySem.W.Frag} {H : Hp} {v : V} {ds : List PyData} (h : Dp K H v (.list ds)) : ∃ a xs, v = .ref a ∧ SqL K H a xs ∧ DpAll K H xs ds := by
  cases h with
  | lst hs ha => exact ⟨_, _, rfl, hs, ha⟩
theorem Dp.tup_inv {K : PySem.W.Frag} {H : Hp} {v : V} {ds : List PyData} (h : Dp K H v (.tuple ds)) : ∃ a xs, v = .ref a ∧ SqT K H a xs ∧ DpAll K H xs ds := by
  cases h with
  | tup hs ha => exact ⟨_, _, rfl, hs, ha⟩
/-! ### an int or None -/
def oV : Option Int → V
  | none => .non
  | some i => .int i
def oD : Option Int → PyData
  | none => .none
  | some i => .int i
theorem Dp.o {K : PySem.W.Frag} {H : Hp} : ∀ o : Option Int, Dp K H (oV o) (oD o)
  | none => .non
  | some i => .int i
theorem Dp.o_inv {K : PySem.W.Frag} {H : Hp} {v : V} : ∀ {o : Option Int}, Dp K H v (oD o) → v = oV o
  | none, h => by
    cases h
    rfl
  | some i, h => by
    cases h
    rfl
theorem oV_non {o : Option Int} : decide (oV o = .non) = o.isNone := by
  cases o <;> rfl
theorem eqv_o : ∀ a b : Option Int, PyData.eqv (oD a) (oD b) = decide (a = b)
  | none, none => by rfl
  | none, some _ => by rfl
  | some _, none => by rfl
  | some a, some b => by
    show (a == b) = _
    by_cases h : a = b
    · subst h
      rw [decide_eq_true rfl]
      exact beq_self_eq_true a
    · rw [decide_eq_false (fun e => h (Option.some.inj e))]
      exact beq_eq_false_iff_ne.mpr h
theorem shaped_o (a : Option Int) : SeqAt.shaped (oD a) = true := by
  cases a <;> rfl
/-! ### links and nets -/
structure Lnk where
  a : Int
  b : Int
  t : Option Int
  k : Option Int
structure Net where
  n : Int
  ls : List Lnk
def lnkV (l : Lnk) : List V := [.int l.a, .int l.b, oV l.t, oV l.k]
def lnkD (l : Lnk) : PyData := .tuple [.int l.a, .int l.b, oD l.t, oD l.k]
def netD (N : Net) : PyData := .tuple [.int N.n, .list (N.ls.map lnkD)]
theorem Dp.lnk_inv {K : PySem.W.Frag} {H : Hp} {v : V} {l : Lnk} (h : Dp K H v (lnkD l)) : ∃ a, v = .ref a ∧ SqT K H a (lnkV l) := by
  obtain ⟨a, xs, rfl, hs, ha⟩ := Dp.tup_inv h
  cases ha with
  | cons h1 r1 =>
    cases r1 with
    | cons h2 r2 =>
      cases r2 with
      | cons h3 r3 =>
        cases r3 with
        | cons h4 r4 =>
          cases r4
          rw [Dp.int_inv h1, Dp.int_inv h2, Dp.o_inv h3, Dp.o_inv h4] at hs
          exact ⟨a, rfl, hs⟩
theorem Dp.lnk {K : PySem.W.Frag} {H : Hp} {a : Addr} {l : Lnk} (h : SqT K H a (lnkV l)) : Dp K H (.ref a) (lnkD l) :=
  .tup h (.cons (.int _) (.cons (.int _) (.cons (Dp.o _) (.cons (Dp.o _) .nil))))
theorem Dp.net_inv {K : PySem.W.Frag} {H : Hp} {v : V} {N : Net} (h : Dp K H v (netD N)) : ∃ p q xs, v = .ref p ∧ SqT K H p [.int N.n, .ref q] ∧ SqL K H q xs ∧ DpAll K H xs (N.ls.map lnkD) := by
  obtain ⟨a, xs, rfl, hs, ha⟩ := Dp.tup_inv h
  cases ha with
  | cons h1 r1 =>
    cases r1 with
    | cons h2 r2 =>
      cases r2
      obtain ⟨q, ys, rfl, hl, hy⟩ := Dp.lst_inv h2
      rw [Dp.int_inv h1] at hs
      exact ⟨a, q, ys, rfl, hs, hl, hy⟩
theorem Dp.net {K : PySem.W.Frag} {H : Hp} {p q : Addr} {xs : List V} {N : Net} (h : SqT K H p [.int N.n, .ref q]) (hq : SqL K H q xs) (hx : DpAll K H xs (N.ls.map lnkD)) : Dp K H (.ref p) (netD N) :=
  .tup h (.cons (.int _) (.cons (.lst hq hx) .nil))
/-! ### pure expressions: what they evaluate to, the heap as it is -/
def Vl (te : TE) (σ : L2.St) (H : Hp) (v : V) : Prop := ∀ Q : VK, Q v H → te σ H Q
def An (t : TT) (σ : L2.St) (H : Hp) (b : Bool) : Prop := ∀ Q : Bool → Hp → Prop, Q b H → t σ H Q
def Va (ta : TA) (σ : L2.St) (H : Hp) (vs : List V) : Prop := ∀ Q : List V → Hp → Prop, Q vs H → ta σ H Q
section
variable {K : PySem.W.Frag} {σ : L2.St} {H : Hp} {i : Nat} {v x y z : V} {ta tb te tv : TE} {b : Bool} {a : Addr} {t u c : TT} {tr : TA} {D : Ends} {tz tw : TS}
theorem va_nil : Va tNil σ H [] := fun _ q => q
theorem va_cons {vs : List V} (h : Vl ta σ H x) (hr : Va tr σ H vs) : Va (tCons ta tr) σ H (x :: vs) := fun Q q => h _ (hr _ q)
theorem vl_var (h : σ[i]? = some (some v)) : Vl (tVar i) σ H v := fun _ q => ⟨v, h, q⟩
theorem vl_c : Vl (tC v) σ H v := fun _ q => q
theorem vl_op {r : R2} (ha : Vl ta σ H x) (hb : Vl tb σ H y) (hr : ∀ Q : VK, Q z H → r x y H Q) : Vl (tOp r ta tb) σ H z := fun Q q => ha _ (hb _ (hr _ q))
theorem vl_I0 {g : Int → Int → V} {p q : Int} (ha : Vl ta σ H (.int p)) (hb : Vl tb σ H (.int q)) : Vl (tOp (rI0 g) ta tb) σ H (g p q) := vl_op ha hb fun _ k => ⟨p, q, rfl, rfl, k⟩
theorem vl_I {C : Int → Int → Prop} {g : Int → Int → V} {p q : Int} (ha : Vl ta σ H (.int p)) (hb : Vl tb σ H (.int q)) (hc : C p q) : Vl (tOp (rI C g) ta tb) σ H (g p q) := vl_op ha hb fun _ k => ⟨p, q, rfl, rfl, hc, k⟩
theorem vl_un {r : V → Hp → VK → Prop} (ha : Vl ta σ H x) (hr : ∀ Q : VK, Q z H → r x H Q) : Vl (tUn r ta) σ H z := fun Q q => ha _ (hr _ q)
theorem vl_neg {p : Int} (ha : Vl ta σ H (.int p)) : Vl (tUn (rU fun i => .int (-i)) ta) σ H (.int (-p)) := vl_un ha fun _ k => ⟨p, rfl, k⟩
theorem vl_cb {r : List V → Hp → VK → Prop} {vs : List V} (h : Va tr σ H vs) (hr : ∀ Q : VK, Q z H → r vs H Q) : Vl (tCB r tr) σ H z := fun Q q => h _ (hr _ q)
theorem vl_int1 {p : Int} (ha : Vl ta σ H (.int p)) : Vl (tCB (fun xs H Q => (∃ i, xs = [V.int i] ∧ Q (V.int i) H) ∨ ∃ k, xs = [V.bl k] ∧ Q (V.int (if k then 1 else 0)) H) (tCons ta tNil)) σ H (.int p) :=
  vl_cb (va_cons ha va_nil) fun _ k => .inl ⟨p, rfl, k⟩
theorem vl_int1b {k : Bool} (ha : Vl ta σ H (.bl k)) : Vl (tCB (fun xs H Q => (∃ i, xs = [V.int i] ∧ Q (V.int i) H) ∨ ∃ k, xs = [V.bl k] ∧ Q (V.int (if k then 1 else 0)) H) (tCons ta tNil)) σ H (.int (if k then 1 else 0)) :=
  vl_cb (va_cons ha va_nil) fun _ q => .inr ⟨k, rfl, q⟩
theorem vl_abs {p : Int} (ha : Vl ta σ H (.int p)) : Vl (tCB (fun xs H Q => ∃ i, xs = [V.int i] ∧ Q (V.int (if i < 0 then -i else i)) H) (tCons ta tNil)) σ H (.int (if p < 0 then -p else p)) :=
  vl_cb (va_cons ha va_nil) fun _ k => ⟨p, rfl, k⟩
theorem vl_min2 {p q : Int} (ha : Vl ta σ H (.int p)) (hb : Vl tb σ H (.int q)) : Vl (tCB (fun xs H Q => ∃ i j, xs = [V.int i, V.int j] ∧ Q (V.int (if j < i then j else i)) H) (tCons ta (tCons tb tNil))) σ H (.int (if q < p then q else p)) :=
  vl_cb (va_cons ha (va_cons hb va_nil)) fun _ k => ⟨p, q, rfl, k⟩
theorem vl_max2 {p q : Int} (ha : Vl ta σ H (.int p)) (hb : Vl tb σ H (.int q)) : Vl (tCB (fun xs H Q => ∃ i j, xs = [V.int i, V.int j] ∧ Q (V.int (if j > i then j else i)) H) (tCons ta (tCons tb tNil))) σ H (.int (if q > p then q else p)) :=
  vl_cb (va_cons ha (va_cons hb va_nil)) fun _ k => ⟨p, q, rfl, k⟩
theorem vl_lenL {xs : List V} (ha : Vl ta σ H (.ref a)) (h : SqL K H a xs) : Vl (tCB (fun xs H Q => ∃ p ys, xs = [V.ref p] ∧ (SqL K H p ys ∨ SqT K H p ys) ∧ Q (V.int ys.length) H) (tCons ta tNil)) σ H (.int xs.length) :=
  vl_cb (va_cons ha va_nil) fun _ k => ⟨a, xs, rfl, .inl h, k⟩
theorem vl_ixL {xs : List V} {p : Int} (ha : Vl ta σ H (.ref a)) (hb : Vl tb σ H (.int p)) (h : SqL K H a xs) (hg : atI xs p = some z) : Vl (tOp (rIxL K) ta tb) σ H z :=
  vl_op ha hb fun _ k => ⟨a, xs, p, z, rfl, rfl, h, hg, k⟩
theorem vl_ixT {xs : List V} {p : Int} (ha : Vl ta σ H (.ref a)) (hb : Vl tb σ H (.int p)) (h : SqT K H a xs) (hg : atI xs p = some z) : Vl (tOp (rIxT K) ta tb) σ H z :=
  vl_op ha hb fun _ k => ⟨a, xs, p, z, rfl, rfl, h, hg, k⟩
theorem vl_eq (ha : Vl ta σ H x) (hb : Vl tb σ H y) (hs : scal x y = true) : Vl (tOp rEq ta tb) σ H (.bl (decide (x = y))) := vl_op ha hb fun _ k => ⟨hs, k⟩
theorem vl_ne (ha : Vl ta σ H x) (hb : Vl tb σ H y) (hs : scal x y = true) : Vl (tOp rNe ta tb) σ H (.bl (!decide (x = y))) := vl_op ha hb fun _ k => ⟨hs, k⟩
theorem vl_isN (ha : Vl ta σ H x) : Vl (tOp (fun x y H Q => y = V.non ∧ Q (V.bl (decide (x = V.non))) H) ta (tC .non)) σ H (.bl (decide (x = .non))) := vl_op ha vl_c fun _ k => ⟨rfl, k⟩
theorem vl_notN (ha : Vl ta σ H x) : Vl (tOp (fun x y H Q => y = V.non ∧ Q (V.bl (!decide (x = V.non))) H) ta (tC .non)) σ H (.bl (!decide (x = .non))) := vl_op ha vl_c fun _ k => ⟨rfl, k⟩
theorem vl_chain {r r' : R2} {tc : TE} {w : V} {k m : Bool} (ha : Vl ta σ H x) (hb : Vl tb σ H y) (hr : ∀ Q : VK, Q (.bl k) H → r x y H Q) (hc : Vl tc σ H w) (hr' : ∀ Q : VK, Q (.bl m) H → r' y w H Q) : Vl (tChain r r' ta tb tc) σ H (.bl (k && m)) := fun Q q =>
  ha _ (hb _ (hr _ ⟨k, rfl, by
    cases k with
    | true => exact iteT (hc _ (hr' _ q))
    | false => exact iteF q⟩))
theorem vl_chainI {g g' : Int → Int → Bool} {tc : TE} {p q s : Int} (ha : Vl ta σ H (.int p)) (hb : Vl tb σ H (.int q)) (hc : Vl tc σ H (.int s)) :
    Vl (tChain (rI0 fun i j => .bl (g i j)) (rI0 fun i j => .bl (g' i j)) ta tb tc) σ H (.bl (g p q && g' q s)) :=
  vl_chain ha hb (fun _ k => ⟨p, q, rfl, rfl, k⟩) hc (fun _ k => ⟨q, s, rfl, rfl, k⟩)
theorem vl_if {b : Bool} (h : An t σ H b) (h1 : b = true → Vl ta σ H v) (h2 : b = false → Vl tb σ H v) : Vl (tIf t ta tb) σ H v := fun Q q => h _ (by
  cases b with
  | true => exact iteT (h1 rfl _ q)
  | false => exact iteF (h2 rfl _ q))
theorem an_test {b : Bool} (h : Vl te σ H (.bl b)) : An (tTest te) σ H b := fun Q q => h _ ⟨b, rfl, q⟩
theorem an_B {b : Bool} (h : Vl te σ H (.bl b)) : An (tB te) σ H b := fun Q q => h _ ⟨b, rfl, q⟩
theorem an_not (h : An t σ H b) : An (tNot t) σ H (!b) := fun Q q => h _ q
theorem an_and {k m : Bool} (h1 : An t σ H k) (h2 : k = true → An u σ H m) : An (tAnd t u) σ H (k && m) := fun Q q => h1 _ (by
  cases k with
  | true => exact iteT (h2 rfl _ q)
  | false => exact iteF q)
theorem an_or {k m : Bool} (h1 : An t σ H k) (h2 : k = false → An u σ H m) : An (tOr t u) σ H (k || m) := fun Q q => h1 _ (by
  cases k with
  | true => exact iteT q
  | false => exact iteF (h2 rfl _ q))
theorem An.is {k m : Bool} (h : An t σ H k) (e : k = m) : An t σ H m := e ▸ h
theorem Vl.is {v w : V} (h : Vl te σ H v) (e : v = w) : Vl te σ H w := e ▸ h
/-! ### statements over them -/
theorem g_seq (h : tz { D with nx := tw D } σ H) : tSeq tz tw D σ H := h
theorem g_asg {i : Nat} (h : Vl te σ H v) (k : D.nx (σ.set i (some v)) H) : tAsg te (gName i) D σ H := h _ k
theorem g_ret (h : Vl te σ H v) (k : D.rt v H) : tRet te D σ H := h _ k
theorem g_if {b : Bool} (h : An t σ H b) (h1 : b = true → tz D σ H) (h2 : b = false → tw D σ H) : tIfS t tz tw D σ H := h _ (by
  cases b with
  | true => exact iteT (h1 rfl)
  | false => exact iteF (h2 rfl))
theorem g_app {l : Addr} {xs : List V} (ho : Vl ta σ H (.ref l)) (hl : H l = some (.lst xs)) (h : Vl te σ H v) (hz : xs.length < sizeLine) (k : D.nx σ (upd H l (.lst (xs ++ [v])))) :
    tDrop (tBM K "list" rAppend ta (tCons te tNil)) D σ H := ho _ ⟨.inl ⟨rfl, _, .inl (.inl hl)⟩, h _ ⟨l, xs, v, rfl, rfl, hl, hz, k⟩⟩
theorem at_int {ds : List Int} {k : Int} (h0 : 0 ≤ k) (h1 : k < (ds.length : Int)) : ∃ d, atI (ds.map V.int) k = some (.int d) ∧ ds[k.toNat]? = some d := by
  have hj : k.toNat < ds.length := by omega
  have g : (ds.map V.int)[k.toNat]? = some (.int ds[k.toNat]) := by
    rw [List.getElem?_map, List.getElem?_eq_getElem hj]
    rfl
  have g2 := atI_nat g
  rw [show ((k.toNat : Nat) : Int) = k by omega] at g2
  exact ⟨ds[k.toNat], g2, List.getElem?_eq_getElem hj⟩
/-! ### loops -/
theorem g_forR {j : Nat} {n : Int} (h : Va tr σ H [.int n]) (hn : -(2 ^ 62) ≤ n ∧ n < 2 ^ 62) (Pv : Nat → L2.St → Hp → Prop) (h0 : Pv 0 σ H)
    (hs : ∀ (i : Nat) σ H, (i : Int) < n → Pv i σ H → tz { D with nx := Pv (i + 1), ct := Pv (i + 1), bk := D.nx } (σ.set j (some (.int i))) H) (hd : ∀ σ H, Pv n.toNat σ H → D.nx σ H) :
    tFor (iRng1 tr) (gName j) tz D σ H := h _ ⟨n, rfl, hn.1, hn.2, for_range (lo := 0) (n := n.toNat) Pv h0 (fun i σ H hi p => by
      show tz _ (σ.set j (some (.int (0 + i)))) H
      rw [Int.zero_add]
      exact hs i σ H (by omega) p) hd⟩
theorem g_forR2 {j : Nat} {lo n : Int} (h : Va tr σ H [.int lo, .int n]) (hn : -(2 ^ 62) ≤ lo ∧ lo < 2 ^ 62 ∧ -(2 ^ 62) ≤ n ∧ n < 2 ^ 62) (Pv : Nat → L2.St → Hp → Prop) (h0 : Pv 0 σ H)
    (hs : ∀ (i : Nat) σ H, lo + (i : Int) < n → Pv i σ H → tz { D with nx := Pv (i + 1), ct := Pv (i + 1), bk := D.nx } (σ.set j (some (.int (lo + i)))) H) (hd : ∀ σ H, Pv (n - lo).toNat σ H → D.nx σ H) :
    tFor (iRng2 tr) (gName j) tz D σ H := h _ ⟨lo, n, rfl, hn, for_range (lo := lo) (n := (n - lo).toNat) Pv h0 (fun i σ H hi p => hs i σ H (by omega) p) hd⟩
theorem g_forL {j : Nat} {xs : List V} {tl : TE} (h : Vl tl σ H (.ref a)) (hx : SqL K H a xs) (Pv : Nat → L2.St → Hp → Prop) (h0 : Pv 0 σ H) (hl : ∀ i σ' H', Pv i σ' H' → SqL K H' a xs)
    (hs : ∀ (i : Nat) x σ H, xs[i]? = some x → Pv i σ H → tz { D with nx := Pv (i + 1), ct := Pv (i + 1), bk := D.nx } (σ.set j (some x)) H) (hd : ∀ σ H, Pv xs.length σ H → D.nx σ H) :
    tFor (iList K tl) (gName j) tz D σ H := h _ ⟨a, rfl, ⟨_, hx⟩, for_list (xs := xs) Pv h0 (fun i σ H _ p => hl i σ H p) hs hd⟩
/-- for a, b, there, back in links -/
theorem g_forLnk {j1 j2 j3 j4 : Nat} {Hb : Hp} {xs : List V} {ls : List Lnk} {tl : TE} (h : Vl tl σ H (.ref a)) (hx : SqL K Hb a xs) (hL : DpAll K Hb xs (ls.map lnkD)) (hb : Same Hb H) (Pv : Nat → L2.St → Hp → Prop) (h0 : Pv 0 σ H) (hl : ∀ i σ' H', Pv i σ' H' → Same Hb H')
    (hs : ∀ (i : Nat) l σ H, ls[i]? = some l → Pv i σ H → tz { D with nx := Pv (i + 1), ct := Pv (i + 1), bk := D.nx } ((((σ.set j1 (some (.int l.a))).set j2 (some (.int l.b))).set j3 (some (oV l.t))).set j4 (some (oV l.k))) H) (hd : ∀ σ H, Pv ls.length σ H → D.nx σ H) :
    tFor (iList K tl) (gTup K 4 (gCons (gName j1) (gCons (gName j2) (gCons (gName j3) (gCons (gName j4) gNil))))) tz D σ H := h _ ⟨a, rfl, ⟨_, hb.seq hx⟩, for_list (xs := xs) Pv h0 (fun i σ H _ p => (hl i σ H p).seq hx) (fun i x σ H hi p => by
      have e := DpAll.len hL
      rw [List.length_map] at e
      have hlt : i < xs.length := by
        by_cases hlt : i < xs.length
        · exact hlt
        · rw [List.getElem?_eq_none (by omega)] at hi
          cases hi
      have hg : ls[i]? = some ls[i] := List.getElem?_eq_getElem (by omega)
      obtain ⟨v, hv, dv⟩ := DpAll.get (i := i) (d := lnkD ls[i]) hL (by
        rw [List.getElem?_map, hg]
        rfl)
      cases hi.symm.trans hv
      obtain ⟨t, rfl, ht⟩ := Dp.lnk_inv dv
      exact ⟨t, _, rfl, seqT (hl i σ H p) ht, rfl, _, _, rfl, _, _, rfl, _, _, rfl, _, _, rfl, rfl, hs i _ σ H hg p⟩) (fun σ H p => by
      have e := DpAll.len hL
      rw [List.length_map] at e
      rw [e] at p
      exact hd σ H p)⟩
/-! ### the same with what follows -/
theorem q_asg {i : Nat} (h : Vl te σ H v) (k : tw D (σ.set i (some v)) H) : tSeq (tAsg te (gName i)) tw D σ H := h _ k
theorem q_if {b : Bool} {tu : TS} (h : An t σ H b) (h1 : b = true → tz { D with nx := tw D } σ H) (h2 : b = false → tu { D with nx := tw D } σ H) : tSeq (tIfS t tz tu) tw D σ H := g_if (D := { D with nx := tw D }) h h1 h2
/-- an if without else whose body leaves the def (or the turn) -/
theorem q_when {b : Bool} (h : An t σ H b) (h1 : b = true → tz { D with nx := tw D } σ H) (h2 : b = false → tw D σ H) : tSeq (tIfS t tz tNext) tw D σ H := g_if (D := { D with nx := tw D }) h h1 h2
theorem g_when {b : Bool} (h : An t σ H b) (h1 : b = true → tz D σ H) (h2 : b = false → D.nx σ H) : tIfS t tz tNext D σ H := g_if h h1 h2
theorem q_app {l : Addr} {xs : List V} (ho : Vl ta σ H (.ref l)) (hl : H l = some (.lst xs)) (h : Vl te σ H v) (hz : xs.length < sizeLine) (k : tw D σ (upd H l (.lst (xs ++ [v])))) :
    tSeq (tDrop (tBM K "list" rAppend ta (tCons te tNil))) tw D σ H := g_app (D := { D with nx := tw D }) ho hl h hz k
theorem q_forR {j : Nat} {n : Int} (h : Va tr σ H [.int n]) (hn : -(2 ^ 62) ≤ n ∧ n < 2 ^ 62) (Pv : Nat → L2.St → Hp → Prop) (h0 : Pv 0 σ H)
    (hs : ∀ (i : Nat) σ H, (i : Int) < n → Pv i σ H → tz { D with nx := Pv (i + 1), ct := Pv (i + 1), bk := tw D } (σ.set j (some (.int i))) H) (hd : ∀ σ H, Pv n.toNat σ H → tw D σ H) :
    tSeq (tFor (iRng1 tr) (gName j) tz) tw D σ H := g_forR (D := { D with nx := tw D }) h hn Pv h0 hs hd
theorem q_forR2 {j : Nat} {lo n : Int} (h : Va tr σ H [.int lo, .int n]) (hn : -(2 ^ 62) ≤ lo ∧ lo < 2 ^ 62 ∧ -(2 ^ 62) ≤ n ∧ n < 2 ^ 62) (Pv : Nat → L2.St → Hp → Prop) (h0 : Pv 0 σ H)
    (hs : ∀ (i : Nat) σ H, lo + (i : Int) < n → Pv i σ H → tz { D with nx := Pv (i + 1), ct := Pv (i + 1), bk := tw D } (σ.set j (some (.int (lo + i)))) H) (hd : ∀ σ H, Pv (n - lo).toNat σ H → tw D σ H) :
    tSeq (tFor (iRng2 tr) (gName j) tz) tw D σ H := g_forR2 (D := { D with nx := tw D }) h hn Pv h0 hs hd
theorem q_forL {j : Nat} {xs : List V} {tl : TE} (h : Vl tl σ H (.ref a)) (hx : SqL K H a xs) (Pv : Nat → L2.St → Hp → Prop) (h0 : Pv 0 σ H) (hl : ∀ i σ' H', Pv i σ' H' → SqL K H' a xs)
    (hs : ∀ (i : Nat) x σ H, xs[i]? = some x → Pv i σ H → tz { D with nx := Pv (i + 1), ct := Pv (i + 1), bk := tw D } (σ.set j (some x)) H) (hd : ∀ σ H, Pv xs.length σ H → tw D σ H) :
    tSeq (tFor (iList K tl) (gName j) tz) tw D σ H := g_forL (D := { D with nx := tw D }) h hx Pv h0 hl hs hd
theorem q_forLnk {j1 j2 j3 j4 : Nat} {Hb : Hp} {xs : List V} {ls : List Lnk} {tl : TE} (h : Vl tl σ H (.ref a)) (hx : SqL K Hb a xs) (hL : DpAll K Hb xs (ls.map lnkD)) (hb : Same Hb H) (Pv : Nat → L2.St → Hp → Prop) (h0 : Pv 0 σ H) (hl : ∀ i σ' H', Pv i σ' H' → Same Hb H')
    (hs : ∀ (i : Nat) l σ H, ls[i]? = some l → Pv i σ H → tz { D with nx := Pv (i + 1), ct := Pv (i + 1), bk := tw D } ((((σ.set j1 (some (.int l.a))).set j2 (some (.int l.b))).set j3 (some (oV l.t))).set j4 (some (oV l.k))) H) (hd : ∀ σ H, Pv ls.length σ H → tw D σ H) :
    tSeq (tFor (iList K tl) (gTup K 4 (gCons (gName j1) (gCons (gName j2) (gCons (gName j3) (gCons (gName j4) gNil))))) tz) tw D σ H := g_forLnk (D := { D with nx := tw D }) h hx hL hb Pv h0 hl hs hd
theorem q_asgT2 {i j : Nat} {p : Addr} (h : Vl te σ H (.ref p)) (hp : SqT K H p [x, y]) (k : tw D ((σ.set i (some x)).set j (some y)) H) : tSeq (tAsg te (gTup K 2 (gCons (gName i) (gCons (gName j) gNil)))) tw D σ H :=
  h _ ⟨p, _, rfl, hp, rfl, _, _, rfl, _, _, rfl, rfl, k⟩
theorem q_dnewT {i : Nat} (k : ∀ p, H p = none → tw D (σ.set i (some (.ref p))) (upd H p (.dT []))) : tSeq (tAsg tDNewT (gName i)) tw D σ H := k
theorem q_lnew {i : Nat} (k : ∀ p, H p = none → tw D (σ.set i (some (.ref p))) (upd H p (.lst []))) : tSeq (tAsg (tLst tNil) (gName i)) tw D σ H := ⟨Nat.zero_le _, k⟩
theorem q_dput {td ty : TE} {o : Addr} {kvs : List (List Key × V)} {y1 y2 : Int} (hv : Vl te σ H v) (ho : Vl td σ H (.ref o)) (h1 : Vl ta σ H (.int y1)) (h2 : Vl tb σ H (.int y2)) (hd : H o = some (.dT kvs)) (hl : kvs.length < sizeLine)
    (k : ∀ T, H T = none → o ≠ T → tw D σ (upd (upd H T (.tup [.int y1, .int y2])) o (.dT (putK kvs [.inl y1, .inl y2] v)))) : tSeq (sDPut td (tTup (tCons ta (tCons tb tNil))) te) tw D σ H :=
  hv _ (ho _ (h1 _ (h2 _ ⟨by show 2 ≤ sizeLine; decide, fun T nT => by
    have oT : o ≠ T := ne_of_none hd nT
    exact ⟨o, _, rfl, DPut.t (k := [.inl y1, .inl y2]) (by rw [upd_ne oT]; exact hd) upd_same hl, k T nT oT⟩⟩)))
theorem q_dgetT {i : Nat} {td : TE} {o : Addr} {kvs : List (List Key × V)} {y1 y2 : Int} (ho : Vl td σ H (.ref o)) (h1 : ∀ H, Vl ta σ H (.int y1)) (h2 : ∀ H, Vl tb σ H (.int y2)) (hd : H o = some (.dT kvs))
    (k : ∀ T, H T = none → tw D (σ.set i (some ((valV kvs [.inl y1, .inl y2]).getD .non))) (upd H T (.tup [.int y1, .int y2]))) : tSeq (tAsg (tDGet1 td (tTup (tCons ta (tCons tb tNil)))) (gName i)) tw D σ H :=
  ho _ ⟨o, rfl, .inr ⟨_, .inl hd⟩, h1 _ _ (h2 _ _ ⟨by show 2 ≤ sizeLine; decide, fun T nT => by
    have oT : o ≠ T := ne_of_none hd nT
    exact ⟨_, DGet.t (k := [.inl y1, .inl y2]) (by rw [upd_ne oT]; exact hd) upd_same, k T nT⟩⟩)⟩
theorem q_asgE {i : Nat} (h : te σ H fun v H' => tw D (σ.set i (some v)) H') : tSeq (tAsg te (gName i)) tw D σ H := h
theorem g_asgE {i : Nat} (h : te σ H fun v H' => D.nx (σ.set i (some v)) H') : tAsg te (gName i) D σ H := h
theorem q_cut {M : L2.St → Hp → Prop} (h : tz { D with nx := M } σ H) (k : ∀ σ' H', M σ' H' → tw D σ' H') : Evl.tCut tz tw D σ H := ⟨M, h, k⟩
end
/-! ### defs that may be called by their names -/
structure Df (K : PySem.W.Frag) (mg : Str → Option Value) (x : Str) (st : Stmt) (ps : List Str) : Prop where
  ex : ∃ (f : Addr) (fd : FuncData), Fun K x x st f fd ∧ mg x = some (.ref f) ∧ Binds K fd ps []
structure Kal (P : Program) (w : World) (K : PySem.W.Frag) (mg : Str → Option Value) (base : Heap) (k : Nat) (x : Str) (ps : List Str) (sp : Sp) : Prop where
  ex : ∃ (f : Addr) (fd : FuncData), FnOk P w K mg base CX0 k f fd ps sp ∧ mg x = some (.ref f) ∧ PySem.W.keepIn K (.ref f) = true ∧ Binds K fd ps []
theorem kal_of {P : Program} {w : World} {K : PySem.W.Frag} {mg : Str → Option Value} {base : Heap} {k : Nat} {x : Str} {st : Stmt} {ps : List Str} {sp : Sp} (A : Df K mg x st ps)
    (ok : ∀ f fd, Fun K x x st f fd → FnOk P w K mg base CX0 k f fd ps sp) : Kal P w K mg base k x ps sp := by
  obtain ⟨f, fd, F, g, b⟩ := A.ex
  exact ⟨f, fd, ok f fd F, g, F.kp, b⟩
theorem pe_k {X : Cx} {k j : Nat} {x : Str} {ps : List Str} {sp : Sp} {p pos : Pos} {e : Expr} {es : List Expr} {t : TA} (c : Kal X.prog X.w X.K X.mg X.base k x ps sp) (hr : Room j X.A) (hk : k ≤ j) (hg : Gl X x) (ha : PA X (e :: es) t)
    (hdb : (x == ("__debug__" : Str)) = false := by decide) (he : starEach (e :: es) X.env = (false, eval e X.env) :: starEach es X.env := by rfl) (hpl : (backTo pos (starEach es X.env)).any (·.1) = false := by rfl) :
    PE X (.Call (.Name x p) (e :: es) [] pos) (tCall sp [] E0 t) := by
  obtain ⟨f, fd, F, hm, kp, b⟩ := c.ex
  exact pe_call F (hr.mono hk) hg hm kp b .nil pass0 ha hdb he hpl
/-! ### values that are not told: ints of which P holds -/
def Vi (te : TE) (σ : L2.St) (H : Hp) (P : Int → Prop) : Prop := ∀ Q : VK, (∀ r, P r → Q (.int r) H) → te σ H Q
section
variable {K : PySem.W.Frag} {σ : L2.St} {H : Hp} {i : Nat} {ta tb te : TE} {tr : TA} {D : Ends} {tz tw tu : TS} {P P1 P2 : Int → Prop}
theorem vi_of {n : Int} (h : Vl te σ H (.int n)) : Vi te σ H (fun r => r = n) := fun _ q => h _ (q n rfl)
theorem vi_I0 {g : Int → Int → Int} (ha : Vi ta σ H P1) (hb : Vi tb σ H P2) (h : ∀ p q, P1 p → P2 q → P (g p q)) : Vi (tOp (rI0 fun i j => .int (g i j)) ta tb) σ H P := fun _ k =>
  ha _ fun p hp => hb _ fun q hq => ⟨p, q, rfl, rfl, k _ (h p q hp hq)⟩
theorem vi_call {sp : Sp} {vs : List V} (h : Va tr σ H vs) (hs : ∀ Q E, (∀ r, P r → Q (.int r) H) → sp vs H Q E) : Vi (tCall sp [] E0 tr) σ H P := fun Q q => h _ (by
  show sp (vs ++ []) H Q E0
  rw [List.append_nil]
  exact hs Q E0 q)
theorem vi_mono (h : Vi te σ H P1) (hh : ∀ r, P1 r → P r) : Vi te σ H P := fun Q q => h Q fun r hr => q r (hh r hr)
theorem g_asgI {i : Nat} (h : Vi te σ H P) (k : ∀ r, P r → D.nx (σ.set i (some (.int r))) H) : tAsg te (gName i) D σ H := h _ k
theorem q_asgI {i : Nat} (h : Vi te σ H P) (k : ∀ r, P r → tw D (σ.set i (some (.int r))) H) : tSeq (tAsg te (gName i)) tw D σ H := h _ k
theorem g_retI (h : Vi te σ H P) (k : ∀ r, P r → D.rt (.int r) H) : tRet te D σ H := h _ k
end
local macro_rules
  | `(tactic| walk_at "ev") => `(tactic| repeat' (first
    | exact vl_c | exact vl_var rfl | apply vl_I0 | apply vl_I | apply vl_int1 | apply vl_abs | apply vl_min2 | apply vl_max2 | apply vl_neg | apply vl_chainI
    | apply vl_lenL | apply vl_ixL | apply vl_ixT | apply vl_isN | apply vl_notN | apply vl_eq | apply vl_ne
    | apply an_test | apply an_B | apply an_not
    | exact (show (0 : Int) < _ by decide) | exact (show (0 : Int) < _ ∧ _ < (1073741824 : Int) from ⟨by decide, by decide⟩)))
abbrev sDraws : Stmt := topS 16
theorem scDraws : FnScope ["script", "draws", "k", "rest", "turn", "mixed"] ["script"] (defScope sDraws) := ⟨rfl, rfl, rfl, by decide +kernel, rfl, by decide +kernel, by decide +kernel⟩
structure DrawsOk (m : Nat) (ds : List Int) : Prop where
  len : ds.length ≤ m
  all : ∀ d ∈ ds, 0 ≤ d ∧ d < 65536
theorem DrawsOk.app {m : Nat} {ds : List Int} {d : Int} (h : DrawsOk m ds) (h0 : 0 ≤ d) (h1 : d < 65536) : DrawsOk (m + 1) (ds ++ [d]) where
  len := by
    rw [List.length_append]
    exact Nat.succ_le_succ h.len
  all := fun e he => by
    rcases List.mem_append.mp he with h' | h'
    · exact h.all e h'
    · rw [List.mem_singleton.mp h']
      exact ⟨h0, h1⟩
theorem DrawsOk.mono {m n : Nat} {ds : List Int} (h : DrawsOk m ds) (le : m ≤ n) : DrawsOk n ds := ⟨Nat.le_trans h.len le, h.all⟩
def spDraws (K : PySem.W.Frag) : Sp := fun vs H Q _ => ∃ (a : Addr) (ns : List Int), vs = [.ref a] ∧ SqL K H a (ns.map V.int) ∧ ns.length ≤ 63 ∧
  ∀ H' p ds, Same H H' → H p = none → H' p = some (.lst (ds.map V.int)) → DrawsOk 3780 ds → Q (.ref p) H'
section
variable {P : Program} {w : World} {K : PySem.W.Frag} {mg : Str → Option Value} {base : Heap}
theorem ok_draws {f : Addr} {fd : FuncData} {k : Nat} (F : Fun K "_law_draws" "_law_draws" sDraws f fd) (mr : mg "range" = none) (mm : mg "min" = none) (ml : mg "len" = none) (ma : mg "abs" = none) (mi : mg "int" = none) :
    FnOk P w K mg base CX0 (k + 1) f fd ["script"] (spDraws K) := by
  refine F.ok scDraws (fun vs H Q E h => ?_) (fun cdv A outer s H vs Q E hr h => ?_)
  · obtain ⟨a, ns, rfl, _⟩ := h
    rfl
  · obtain ⟨a, ns, rfl, hS, hlen, q⟩ := h
    refine ⟨_, pss_cons (ps_set (i := 1) scDraws.nd rfl (.inl rfl) (pe_lst pa_nil))
      (pss_cons (ps_for PassesOwn.never rfl (pi_range1 (by rfl) mr (pa_cons (pe_callB (call_min2 rfl) (by rfl) mm (by decide +kernel) (pa_cons pe_int (pa_cons (pe_callB call_len_seq (by rfl) ml PySem.boot_len (pa_cons (pv 0) pa_nil)) pa_nil))) pa_nil)) (pg_name (i := 2) scDraws.nd rfl (.inl rfl))
        (pss_cons (ps_set (i := 3) scDraws.nd rfl (.inl rfl) (pe_callB call_abs (by rfl) ma (by decide +kernel) (pa_cons (pe_ix ix_list (pv 0) (pv 2) (fun _ _ => rfl)) pa_nil)))
        (pss_one (ps_if (pt_cmpR op_ge (pv 3) (pe_op op_pow pe_int pe_int) (nomark _))
          (pss_one (ps_for PassesOwn.never rfl (pi_range1 (by rfl) mr (pa_cons pe_int pa_nil)) (pg_name (i := 4) scDraws.nd rfl (.inl rfl))
            (pss_one (ps_if (pt_cmpR op_gt (pv 3) pe_int (nomark _))
              (pss_cons (ps_expr (pe_bm PySem.F.plainAttrs_list PySem.F.slot_list_append PySem.F.type_list_append mt_append (pv 1) (pa_cons (pe_op op_mod (pe_callTy call_int1 (by rfl) mi (by decide +kernel) (pa_cons (pv 3) pa_nil)) pe_int) pa_nil)))
              (pss_one (ps_set (i := 3) scDraws.nd rfl (.inl rfl) (pe_op op_fdiv (pv 3) pe_int)))) pss_nil))))
          (pss_cons (ps_set (i := 5) scDraws.nd rfl (.inl rfl) (pe_op op_mod (pe_callTy call_int1 (by rfl) mi (by decide +kernel) (pa_cons (pe_op op_add (pe_op op_mul (pv 3) pe_int) (pe_op op_mul (pe_op op_add (pv 2) pe_int) pe_int)) pa_nil)) pe_int))
          (pss_cons (ps_set (i := 5) scDraws.nd rfl (.inl rfl) (pe_op op_mod (pe_callTy call_int1 (by rfl) mi (by decide +kernel) (pa_cons (pe_op op_add (pe_op op_add (pe_op op_mul (pv 5) pe_int) (pe_op op_mul pe_int (pv 2))) pe_int) pa_nil)) pe_int))
          (pss_cons (ps_expr (pe_bm PySem.F.plainAttrs_list PySem.F.slot_list_append PySem.F.type_list_append mt_append (pv 1) (pa_cons (pe_op op_mod (pe_callTy call_int1 (by rfl) mi (by decide +kernel) (pa_cons (pv 5) pa_nil)) pe_int) pa_nil)))
          (pss_one (ps_expr (pe_bm PySem.F.plainAttrs_list PySem.F.slot_list_append PySem.F.type_list_append mt_append (pv 1) (pa_cons (pe_op op_mod (pe_callTy call_int1 (by rfl) mi (by decide +kernel) (pa_cons (pe_op op_fdiv (pv 5) pe_int) pa_nil)) pe_int) pa_nil)))))))))))
      (pss_one (ps_ret (pv 1)))), ?_⟩
    -- draws = []
    refine ⟨Nat.zero_le _, fun o no => ?_⟩
    have s1 : Same H (upd H o (.lst [])) := same_upd no
    have hS1 := s1.seq hS
    refine (q_forR (n := if (ns.length : Int) < 63 then (ns.length : Int) else 63) (va_cons (vl_min2 vl_c ((vl_lenL (vl_var rfl) hS1).is (by rw [List.length_map]))) va_nil) ⟨by split <;> omega, by split <;> omega⟩
      (fun i σ H3 => ∃ y2 y3 y4 y5 ds, σ = [some (.ref a), some (.ref o), y2, y3, y4, y5] ∧ Same H H3 ∧ H3 o = some (.lst (ds.map V.int)) ∧ DrawsOk (60 * i) ds)
      ⟨none, none, none, none, [], rfl, s1, upd_same, Nat.zero_le _, fun _ h => by cases h⟩ (fun i σ H3 hi hP => ?_) (fun σ H3 hP => ?_))
    · obtain ⟨y2, y3, y4, y5, ds, rfl, sm, ho, hd⟩ := hP
      have hi2 : i < ns.length := by
        split at hi <;> omega
      have hA := sm.seq hS
      have g1 : (ns.map V.int)[i]? = some (.int ns[i]) := by
        rw [List.getElem?_map, List.getElem?_eq_getElem hi2]
        rfl
      -- rest = abs(script[k])
      refine (q_asg (v := .int (if ns[i] < 0 then -ns[i] else ns[i])) (vl_abs (vl_ixL (vl_var rfl) (vl_var rfl) hA (atI_nat g1))) ?_)
      generalize hr0 : (if ns[i] < 0 then -ns[i] else ns[i]) = r
      have hr1 : 0 ≤ r := by
        rw [← hr0]
        split <;> omega
      refine g_if (b := decide ((10 : Int) ^ (18 : Int).toNat ≤ r)) (by exact an_test (vl_I0 (vl_var rfl) (vl_I vl_c vl_c ⟨by decide, by decide, by decide⟩))) (fun _ => ?_) (fun hlt => ?_)
      · refine g_forR (n := 60) (va_cons vl_c va_nil) ⟨by decide, by decide⟩
          (fun j σ H4 => ∃ y4 r ds', σ = [some (.ref a), some (.ref o), some (.int i), some (.int r), y4, y5] ∧ Same H H4 ∧ H4 o = some (.lst (ds'.map V.int)) ∧ DrawsOk (60 * i + j) ds')
          ⟨y4, r, ds, rfl, sm, ho, hd⟩ (fun j σ H4 hj hP => ?_) (fun σ H4 hP => ?_)
        · obtain ⟨z4, r', ds', rfl, sm', ho', hd'⟩ := hP
          refine g_if (by walk_at "ev") (fun _ => ?_) (fun _ => ?_)
          · have h0 : 0 ≤ r' % 65536 := Int.emod_nonneg _ (by decide)
            have h1 : r' % 65536 < 65536 := Int.emod_lt_of_pos _ (by decide)
            refine (q_app (vl_var rfl) ho' (v := .int (r' % 65536)) (by walk_at "ev") ?_ ?_)
            · rw [List.length_map]
              have := hd'.len
              exact Nat.lt_of_le_of_lt this (Nat.lt_of_le_of_lt (show 60 * i + j ≤ 10000 by omega) (by decide))
            · refine g_asg (v := .int (r' / 65536)) (by walk_at "ev") ?_
              refine ⟨_, _, ds' ++ [r' % 65536], rfl, same_upd' sm' no, ?_, hd'.app h0 h1⟩
              rw [upd_same, List.map_append]
              rfl
          · exact ⟨_, _, ds', rfl, sm', ho', hd'.mono (Nat.le_succ _)⟩
        · obtain ⟨z4, r', ds', rfl, sm', ho', hd'⟩ := hP
          exact ⟨_, _, _, _, ds', rfl, sm', ho', hd'⟩
      · have hlt : r < 1000000000000000000 := by
          have := of_decide_eq_false hlt
          have e : (10 : Int) ^ (18 : Int).toNat = 1000000000000000000 := by decide
          omega
        refine (q_asg (v := .int ((r * 48271 + ((i : Int) + 1) * 69621) % 2147483647)) (by walk_at "ev"; exact .inl ⟨by omega, by omega⟩; exact .inl ⟨by omega, by omega⟩) ?_)
        generalize hm : (r * 48271 + ((i : Int) + 1) * 69621) % 2147483647 = m
        have hm0 : 0 ≤ m := by
          rw [← hm]
          exact Int.emod_nonneg _ (by decide)
        have hm1 : m < 2147483647 := by
          rw [← hm]
          exact Int.emod_lt_of_pos _ (by decide)
        refine (q_asg (v := .int ((m * 16807 + 11 * (i : Int) + 5) % 2147483629)) (by walk_at "ev"; exact .inl ⟨by omega, by omega⟩; exact .inl ⟨by decide, by decide⟩) ?_)
        generalize (m * 16807 + 11 * (i : Int) + 5) % 2147483629 = m2
        have h0 : 0 ≤ m2 % 65536 := Int.emod_nonneg _ (by decide)
        have h1 : m2 % 65536 < 65536 := Int.emod_lt_of_pos _ (by decide)
        have h2 : 0 ≤ (m2 / 65536) % 32768 := Int.emod_nonneg _ (by decide)
        have h3 : (m2 / 65536) % 32768 < 65536 := Int.lt_trans (Int.emod_lt_of_pos _ (by decide)) (by decide)
        have hl := hd.len
        refine (q_app (vl_var rfl) ho (v := .int (m2 % 65536)) (by walk_at "ev") ?_ ?_)
        · rw [List.length_map]
          exact Nat.lt_of_le_of_lt (show ds.length ≤ 10000 by omega) (by decide)
        · refine g_app (vl_var rfl) upd_same (v := .int ((m2 / 65536) % 32768)) (by walk_at "ev") ?_ ?_
          · rw [List.length_append, List.length_map]
            exact Nat.lt_of_le_of_lt (show ds.length + 1 ≤ 10000 by omega) (by decide)
          · refine ⟨_, _, _, _, (ds ++ [m2 % 65536]) ++ [(m2 / 65536) % 32768], rfl, same_upd' (same_upd' sm no) no, ?_, ((hd.app h0 h1).app h2 h3).mono (by omega)⟩
            rw [upd_same, List.map_append, List.map_append]
            rfl
    · obtain ⟨y2, y3, y4, y5, ds, rfl, sm, ho, hd⟩ := hP
      refine g_ret (vl_var rfl) (q H3 o ds sm no ho (hd.mono ?_))
      split <;> omega
end
abbrev sAt : Stmt := topS 17
abbrev sIsI : Stmt := topS 18
abbrev sMix : Stmt := topS 19
abbrev sPrice : Stmt := topS 20
theorem scAt : FnScope ["draws", "k", "many"] ["draws", "k", "many"] (defScope sAt) := ⟨rfl, rfl, rfl, by decide +kernel, rfl, by decide +kernel, by decide +kernel⟩
theorem scIsI : FnScope ["actual"] ["actual"] (defScope sIsI) := ⟨rfl, rfl, rfl, by decide +kernel, rfl, by decide +kernel, by decide +kernel⟩
theorem scMix : FnScope ["draws", "k", "many", "value"] ["draws", "k", "many"] (defScope sMix) := ⟨rfl, rfl, rfl, by decide +kernel, rfl, by decide +kernel, by decide +kernel⟩
theorem scPrice : FnScope ["draws", "k", "word"] ["draws", "k"] (defScope sPrice) := ⟨rfl, rfl, rfl, by decide +kernel, rfl, by decide +kernel, by decide +kernel⟩
local macro_rules
  | `(tactic| walk_at "ev") => `(tactic| repeat' (first
    | exact vl_c | exact vl_var rfl | apply vl_I0 | apply vl_I | apply vl_int1 | apply vl_abs | apply vl_min2 | apply vl_max2 | apply vl_neg | apply vl_chainI
    | apply vl_lenL | apply vl_ixL | apply vl_ixT | apply vl_isN | apply vl_notN | apply vl_eq | apply vl_ne
    | apply an_test | apply an_B | apply an_not
    | exact (show (0 : Int) < _ by decide) | exact (show (0 : Int) < _ ∧ _ < (1073741824 : Int) from ⟨by decide, by decide⟩)))
/-- an int in [0, m) for draws, k, m -/
def spAt (K : PySem.W.Frag) : Sp := fun vs H Q _ => ∃ (a : Addr) (ds : List Int) (k m : Int), vs = [.ref a, .int k, .int m] ∧ SqL K H a (ds.map V.int) ∧ 0 ≤ k ∧ 0 < m ∧ ∀ r, 0 ≤ r ∧ r < m → Q (.int r) H
def spIsI : Sp := fun vs H Q _ => ∃ i : Int, vs = [.int i] ∧ Q (.bl true) H
section
variable {P : Program} {w : World} {K : PySem.W.Frag} {mg : Str → Option Value} {base : Heap}
theorem ok_isI {f : Addr} {fd : FuncData} {k : Nat} (F : Fun K "_law_is_integer" "_law_is_integer" sIsI f fd) (ms : mg "isinstance" = none) (mi : mg "int" = none) (mb : mg "bool" = none) :
    FnOk P w K mg base CX0 (k + 1) f fd ["actual"] spIsI := by
  refine F.ok scIsI (fun vs H Q E h => ?_) (fun cdv A outer s H vs Q E hr h => ?_)
  · obtain ⟨i, rfl, _⟩ := h
    rfl
  · obtain ⟨i, rfl, q⟩ := h
    refine ⟨_, pss_one (ps_ret (pe_and (pe_callB call_isi (by rfl) ms (by decide +kernel) (pa_cons (pv 0) (pa_cons (pe_bltn (v := .ty "int") (by rfl) mi (by decide +kernel) rfl) pa_nil)))
      (pe_one (pe_not (pe_callB call_isi (by rfl) ms (by decide +kernel) (pa_cons (pv 0) (pa_cons (pe_bltn (v := .ty "bool") (by rfl) mb (by decide +kernel) rfl) pa_nil))))))), ?_⟩
    refine ⟨.int i, rfl, .int i, .ty "int", .type "int", .type "int", true, rfl, .ty _, .base (.int _), kit_ty (by decide +kernel), true, rfl, iteT ?_⟩
    exact ⟨.int i, rfl, .int i, .ty "bool", .type "int", .type "bool", false, rfl, .ty _, .base (.int _), kit_ty (by decide +kernel), false, rfl, q⟩
theorem ok_at {f : Addr} {fd : FuncData} {k : Nat} (F : Fun K "_law_at" "_law_at" sAt f fd) (ml : mg "len" = none) (mi : mg "int" = none) :
    FnOk P w K mg base CX0 (k + 1) f fd ["draws", "k", "many"] (spAt K) := by
  refine F.ok scAt (fun vs H Q E h => ?_) (fun cdv A outer s H vs Q E hr h => ?_)
  · obtain ⟨a, ds, k, m, rfl, _⟩ := h
    rfl
  · obtain ⟨a, ds, k, m, rfl, hS, hk, hm, q⟩ := h
    refine ⟨_, pss_cons (ps_if (pt_cmpR op_lt (pv 1) (pe_callB call_len_seq (by rfl) ml PySem.boot_len (pa_cons (pv 0) pa_nil)) (nomark _))
        (pss_one (ps_ret (pe_op op_mod (pe_callTy call_int1 (by rfl) mi (by decide +kernel) (pa_cons (pe_ix ix_list (pv 0) (pv 1) (fun _ _ => rfl)) pa_nil)) (pv 2)))) pss_nil)
      (pss_one (ps_ret pe_int)), ?_⟩
    refine q_when (b := decide (k < (ds.length : Int))) (by exact an_test (vl_I0 (vl_var rfl) ((vl_lenL (vl_var rfl) hS).is (by rw [List.length_map])))) (fun hb => ?_) (fun _ => ?_)
    · have hb := of_decide_eq_true hb
      obtain ⟨d, g', _⟩ := at_int hk hb
      refine g_ret (v := .int (d % m)) ?_ (q _ ⟨Int.emod_nonneg _ (by omega), Int.emod_lt_of_pos _ hm⟩)
      exact vl_I (vl_int1 (vl_ixL (vl_var rfl) (vl_var rfl) hS g')) (vl_var rfl) hm
    · exact g_ret vl_c (q 0 ⟨by omega, by omega⟩)
theorem ok_mix {f : Addr} {fd : FuncData} {k : Nat} (F : Fun K "_law_mix" "_law_mix" sMix f fd) (ml : mg "len" = none) (mi : mg "int" = none) :
    FnOk P w K mg base CX0 (k + 1) f fd ["draws", "k", "many"] (spAt K) := by
  refine F.ok scMix (fun vs H Q E h => ?_) (fun cdv A outer s H vs Q E hr h => ?_)
  · obtain ⟨a, ds, k, m, rfl, _⟩ := h
    rfl
  · obtain ⟨a, ds, k, m, rfl, hS, hk, hm, q⟩ := h
    refine ⟨_, pss_cons (ps_set (i := 3) scMix.nd rfl (.inl rfl) pe_int)
      (Evl.pss_cut (ps_if (pt_cmpR op_gt (pe_callB call_len_seq (by rfl) ml PySem.boot_len (pa_cons (pv 0) pa_nil)) pe_int (nomark _))
        (pss_one (ps_set (i := 3) scMix.nd rfl (.inl rfl) (pe_ix ix_list (pv 0) (pe_op op_mod (pe_callTy call_int1 (by rfl) mi (by decide +kernel) (pa_cons (pv 1) pa_nil)) (pe_callB call_len_seq (by rfl) ml PySem.boot_len (pa_cons (pv 0) pa_nil))) (fun _ _ => rfl)))) pss_nil)
      (pss_cons (ps_if (pt_cmpR op_lt (pv 1) (pe_callB call_len_seq (by rfl) ml PySem.boot_len (pa_cons (pv 0) pa_nil)) (nomark _))
        (pss_one (ps_ret (pe_op op_mod (pe_callTy call_int1 (by rfl) mi (by decide +kernel) (pa_cons (pv 3) pa_nil)) (pv 2)))) pss_nil)
      (pss_one (ps_ret (pe_op op_mod (pe_callTy call_int1 (by rfl) mi (by decide +kernel) (pa_cons (pe_op op_fdiv (pe_callTy call_int1 (by rfl) mi (by decide +kernel) (pa_cons (pe_op op_add (pe_op op_mul (pv 3) pe_int) (pe_op op_mul (pv 1) pe_int)) pa_nil)) pe_int) pa_nil)) (pv 2)))))), ?_⟩
    refine q_asg vl_c ?_
    refine q_cut (M := fun σ' H' => ∃ v : Int, σ' = [some (.ref a), some (.int k), some (.int m), some (.int v)] ∧ H' = H) ?_ ?_
    · refine g_when (b := decide ((0 : Int) < (ds.length : Int))) (by exact an_test (vl_I0 ((vl_lenL (vl_var rfl) hS).is (by rw [List.length_map])) vl_c)) (fun hb => ?_) (fun _ => ⟨0, rfl, rfl⟩)
      have hb := of_decide_eq_true hb
      have h0 : 0 ≤ k % (ds.length : Int) := Int.emod_nonneg _ (by omega)
      have h1 : k % (ds.length : Int) < (ds.length : Int) := Int.emod_lt_of_pos _ hb
      obtain ⟨d, g', _⟩ := at_int h0 h1
      exact g_asg (vl_ixL (vl_var rfl) (vl_I (vl_int1 (vl_var rfl)) ((vl_lenL (vl_var rfl) hS).is (by rw [List.length_map])) hb) hS g') ⟨_, rfl, rfl⟩
    · rintro σ' H' ⟨v, rfl, rfl⟩
      refine q_when (b := decide (k < (ds.length : Int))) (by exact an_test (vl_I0 (vl_var rfl) ((vl_lenL (vl_var rfl) hS).is (by rw [List.length_map])))) (fun hb => ?_) (fun _ => ?_)
      · exact g_ret (v := .int (v % m)) (vl_I (vl_int1 (vl_var rfl)) (vl_var rfl) hm) (q _ ⟨Int.emod_nonneg _ (by omega), Int.emod_lt_of_pos _ hm⟩)
      · refine g_ret (v := .int ((v * 7919 + k * 104729) / 3 % m)) (vl_I (vl_int1 (vl_I (vl_int1 (vl_I0 (vl_I (vl_var rfl) vl_c (.inr ⟨by decide, by decide⟩)) (vl_I (vl_var rfl) vl_c (.inr ⟨by decide, by decide⟩)))) vl_c ⟨by decide, by decide⟩)) (vl_var rfl) hm) (q _ ⟨Int.emod_nonneg _ (by omega), Int.emod_lt_of_pos _ hm⟩)
end
def PriceOk (o : Option Int) : Prop := ∀ x, o = some x → 1 ≤ x ∧ x ≤ 1000000
structure LnkOk (n : Int) (l : Lnk) : Prop where
  a0 : 0 ≤ l.a
  ab : l.a < l.b
  bn : l.b < n
  t : PriceOk l.t
  k : PriceOk l.k
def LnkLt (x y : Lnk) : Prop := x.a < y.a ∨ (x.a = y.a ∧ x.b < y.b)
structure NetOk (N : Net) : Prop where
  n1 : 1 ≤ N.n
  n40 : N.n ≤ 40
  ok : ∀ l ∈ N.ls, LnkOk N.n l
  lt : N.ls.Pairwise LnkLt
  len : N.ls.length ≤ 1600
/-- a net that stands in H by itself -/
def NetAt (K : PySem.W.Frag) (H : Hp) (v : V) (N : Net) : Prop := ∃ p q xs, v = .ref p ∧ H p = some (.tup [.int N.n, .ref q]) ∧ H q = some (.lst xs) ∧ DpAll K H xs (N.ls.map lnkD)
theorem NetAt.dp {K : PySem.W.Frag} {H : Hp} {v : V} {N : Net} (h : NetAt K H v N) : Dp K H v (netD N) := by
  obtain ⟨p, q, xs, rfl, hp, hq, hx⟩ := h
  exact Dp.net (.of hp) (.of hq) hx
theorem NetAt.to {K : PySem.W.Frag} {H H' : Hp} {v : V} {N : Net} (h : NetAt K H v N) (s : Same H H') : NetAt K H' v N := by
  obtain ⟨p, q, xs, rfl, hp, hq, hx⟩ := h
  exact ⟨p, q, xs, rfl, s _ _ hp, s _ _ hq, DpAll.to hx s⟩
def spPrice (K : PySem.W.Frag) : Sp := fun vs H Q _ => ∃ (a : Addr) (ds : List Int) (k : Int), vs = [.ref a, .int k] ∧ SqL K H a (ds.map V.int) ∧ 0 ≤ k ∧ ∀ H' o, Same H H' → PriceOk o → Q (oV o) H'
def spNet (K : PySem.W.Frag) : Sp := fun vs H Q _ => ∃ (a : Addr) (ds : List Int) (k m : Int), vs = [.ref a, .int k, .int m] ∧ SqL K H a (ds.map V.int) ∧ 0 ≤ k ∧ 1 ≤ m ∧ m ≤ 40 ∧
  ∀ H' v N, Same H H' → NetAt K H' v N → NetOk N → N.n ≤ m → Q v H'
section
variable {P : Program} {w : World} {K : PySem.W.Frag} {mg : Str → Option Value} {base : Heap}
theorem ok_price {f : Addr} {fd : FuncData} (F : Fun K "_law_price" "_law_price" sPrice f fd) (M : Kal P w K mg base 1 "_law_mix" ["draws", "k", "many"] (spAt K)) (mi : mg "int" = none) :
    FnOk P w K mg base CX0 2 f fd ["draws", "k"] (spPrice K) := by
  refine F.ok scPrice (fun vs H Q E h => ?_) (fun cdv A outer s H vs Q E hr h => ?_)
  · obtain ⟨a, ds, k, rfl, _⟩ := h
    rfl
  · obtain ⟨a, ds, k, rfl, hS, hk, q⟩ := h
    refine ⟨_, pss_cons (ps_set (i := 2) scPrice.nd rfl (.inl rfl) (pe_k M hr (by decide) (by rfl) (pa_cons (pv 0) (pa_cons (pv 1) (pa_cons pe_int pa_nil)))))
      (pss_cons (ps_if (pt_cmpR op_eq (pv 2) pe_int (nomark _)) (pss_one (ps_ret pe_non)) pss_nil)
      (pss_cons (ps_if (pt_cmpR op_eq (pv 2) pe_int (nomark _))
        (pss_one (ps_ret (pe_op op_sub pe_int (pe_k M hr (by decide) (by rfl) (pa_cons (pv 0) (pa_cons (pe_op op_add (pv 1) pe_int) (pa_cons pe_int pa_nil))))))) pss_nil)
      (pss_one (ps_ret (pe_op op_add pe_int (pe_k M hr (by decide) (by rfl) (pa_cons (pv 0) (pa_cons (pe_op op_add (pv 1) pe_int)
        (pa_cons (pe_ix ix_list (pe_lst (pa_cons pe_int (pa_cons pe_int (pa_cons pe_int pa_nil)))) (pe_op op_mod (pe_callTy call_int1 (by rfl) mi (by decide +kernel) (pa_cons (pv 2) pa_nil)) pe_int) (fun _ _ => rfl)) pa_nil))))))))), ?_⟩
    refine q_asgI (vi_call (P := fun r => 0 ≤ r ∧ r < 7) (va_cons (vl_var rfl) (va_cons (vl_var rfl) (va_cons vl_c va_nil))) fun Q E q => ⟨a, ds, k, 7, rfl, hS, hk, by decide, q⟩) (fun wd hw => ?_)
    refine q_when (b := decide (V.int wd = V.int 0)) (by exact an_test (vl_eq (vl_var rfl) vl_c rfl)) (fun _ => ?_) (fun _ => ?_)
    · exact g_ret vl_c (q H none (Same.refl H) (fun x e => by cases e))
    · refine q_when (b := decide (V.int wd = V.int 1)) (by exact an_test (vl_eq (vl_var rfl) vl_c rfl)) (fun _ => ?_) (fun _ => ?_)
      · refine g_retI (P := fun r => 1 ≤ r ∧ r ≤ 1000000) (vi_I0 (vi_of vl_c) (vi_call (P := fun r => 0 ≤ r ∧ r < 3) (va_cons (vl_var rfl) (va_cons (vl_I0 (vl_var rfl) vl_c) (va_cons vl_c va_nil))) fun Q E q => ⟨a, ds, k + 1, 3, rfl, hS, by omega, by decide, q⟩) (fun p r hp hr => ?_)) (fun r hr => ?_)
        · omega
        · exact q H (some r) (Same.refl H) (fun x e => by
            cases e
            exact hr)
      · refine ⟨.ref a, rfl, .int k, rfl, k, 1, rfl, rfl, by show 3 ≤ sizeLine; decide, fun p np => ?_⟩
        refine (vl_I (vl_int1 (vl_var rfl)) vl_c (by decide)) _ ?_
        obtain ⟨d, g', hd⟩ := at_int (ds := [4, 30, 1000000]) (k := wd % 3) (by omega) (by show wd % 3 < 3; omega)
        have hd1 : 1 ≤ d ∧ d ≤ 1000000 := by
          have := List.mem_of_getElem? hd
          simp only [List.mem_cons, List.not_mem_nil, or_false] at this
          omega
        refine ⟨p, _, _, _, rfl, rfl, .inl (.inl upd_same), g', ?_⟩
        refine ⟨a, ds, k + 1, d, rfl, (same_upd np).seq hS, by omega, by omega, fun r hr => ?_⟩
        exact ⟨1, r, rfl, rfl, q _ (some (1 + r)) (same_upd np) (fun x e => by
          cases e
          omega)⟩
end
abbrev sNet : Stmt := topS 21
theorem scNet : FnScope ["draws", "k", "most", "size", "dense", "links", "a", "b", "at"] ["draws", "k", "most"] (defScope sNet) := ⟨rfl, rfl, rfl, by decide +kernel, rfl, by decide +kernel, by decide +kernel⟩
/-- the links made so far: all of them before (i, c) -/
structure LsAt (n i c : Int) (ls : List Lnk) : Prop where
  ok : ∀ l ∈ ls, LnkOk n l
  to : ∀ l ∈ ls, l.a < i ∨ (l.a = i ∧ l.b < c)
  lt : ls.Pairwise LnkLt
theorem LsAt.nil {n i c : Int} : LsAt n i c [] := ⟨fun _ h => (nomatch h), fun _ h => (nomatch h), .nil⟩
theorem LsAt.mono {n i c i' c' : Int} {ls : List Lnk} (h : LsAt n i c ls) (e : i < i' ∨ (i = i' ∧ c ≤ c')) : LsAt n i' c' ls :=
  ⟨h.ok, fun l hl => by
    have := h.to l hl
    omega, h.lt⟩
theorem LsAt.app {n i c : Int} {ls : List Lnk} {t k : Option Int} (h : LsAt n i c ls) (h0 : 0 ≤ i) (h1 : i < c) (h2 : c < n) (ht : PriceOk t) (hk : PriceOk k) : LsAt n i (c + 1) (ls ++ [⟨i, c, t, k⟩]) where
  ok := fun l hl => by
    rcases List.mem_append.mp hl with h' | h'
    · exact h.ok l h'
    · rw [List.mem_singleton.mp h']
      exact ⟨h0, h1, h2, ht, hk⟩
  to := fun l hl => by
    rcases List.mem_append.mp hl with h' | h'
    · have := h.to l h'
      omega
    · rw [List.mem_singleton.mp h']
      exact .inr ⟨rfl, Int.lt_succ c⟩
  lt := List.pairwise_append.mpr ⟨h.lt, List.pairwise_singleton _ _, fun x hx y hy => by
    rw [List.mem_singleton.mp hy]
    exact h.to x hx⟩
section
variable {P : Program} {w : World} {K : PySem.W.Frag} {mg : Str → Option Value} {base : Heap}
theorem ok_net {f : Addr} {fd : FuncData} (F : Fun K "_law_net" "_law_net" sNet f fd) (M : Kal P w K mg base 1 "_law_mix" ["draws", "k", "many"] (spAt K)) (C : Kal P w K mg base 2 "_law_price" ["draws", "k"] (spPrice K)) (mr : mg "range" = none) :
    FnOk P w K mg base CX0 3 f fd ["draws", "k", "most"] (spNet K) := by
  refine F.ok scNet (fun vs H Q E h => ?_) (fun cdv A outer s H vs Q E hr h => ?_)
  · obtain ⟨a, ds, k, m, rfl, _⟩ := h
    rfl
  · obtain ⟨a, ds, k, m, rfl, hS, hk, hm1, hm2, q⟩ := h
    refine ⟨_, pss_cons (ps_set (i := 3) scNet.nd rfl (.inl rfl) (pe_op op_add pe_int (pe_k M hr (by decide) (by rfl) (pa_cons (pv 0) (pa_cons (pv 1) (pa_cons (pv 2) pa_nil))))))
      (pss_cons (ps_set (i := 4) scNet.nd rfl (.inl rfl) (pe_op op_add pe_int (pe_k M hr (by decide) (by rfl) (pa_cons (pv 0) (pa_cons (pe_op op_add (pv 1) pe_int) (pa_cons pe_int pa_nil))))))
      (pss_cons (ps_set (i := 5) scNet.nd rfl (.inl rfl) (pe_lst pa_nil))
      (pss_cons (ps_for PassesOwn.never rfl (pi_range1 (by rfl) mr (pa_cons (pv 3) pa_nil)) (pg_name (i := 6) scNet.nd rfl (.inl rfl))
        (pss_one (ps_for PassesOwn.never rfl (pi_range2 (by rfl) mr (pa_cons (pe_op op_add (pv 6) pe_int) (pa_cons (pv 3) pa_nil))) (pg_name (i := 7) scNet.nd rfl (.inl rfl))
          (pss_cons (ps_set (i := 8) scNet.nd rfl (.inl rfl) (pe_op op_add (pe_op op_add (pv 1) pe_int) (pe_op op_mul pe_int (pe_op op_add (pe_op op_mul (pv 6) (pv 3)) (pv 7)))))
          (pss_one (ps_if (pt_cmpR op_eq (pe_k M hr (by decide) (by rfl) (pa_cons (pv 0) (pa_cons (pv 8)
              (pa_cons (pe_ix ix_list (pe_lst (pa_cons pe_int (pa_cons pe_int (pa_cons pe_int (pa_cons (pv 3) (pa_cons (pv 3) pa_nil)))))) (pe_op op_sub (pv 4) pe_int) (fun _ _ => rfl)) pa_nil)))) pe_int (nomark _))
            (pss_one (ps_expr (pe_bm PySem.F.plainAttrs_list PySem.F.slot_list_append PySem.F.type_list_append mt_append (pv 5)
              (pa_cons (pe_tup (pa_cons (pv 6) (pa_cons (pv 7) (pa_cons (pe_k C hr (by decide) (by rfl) (pa_cons (pv 0) (pa_cons (pe_op op_add (pv 8) pe_int) pa_nil)))
                (pa_cons (pe_k C hr (by decide) (by rfl) (pa_cons (pv 0) (pa_cons (pe_op op_add (pv 8) pe_int) pa_nil))) pa_nil))))) pa_nil)))) pss_nil))))))
      (pss_one (ps_ret (pe_tup (pa_cons (pv 3) (pa_cons (pv 5) pa_nil)))))))), ?_⟩
    refine q_asgI (P := fun r => 1 ≤ r ∧ r ≤ m) (vi_I0 (vi_of vl_c) (vi_call (P := fun r => 0 ≤ r ∧ r < m) (va_cons (vl_var rfl) (va_cons (vl_var rfl) (va_cons (vl_var rfl) va_nil))) fun Q E q => ⟨a, ds, k, m, rfl, hS, hk, by omega, q⟩) (fun p r hp hr => by omega)) (fun n hn => ?_)
    refine q_asgI (P := fun r => 1 ≤ r ∧ r ≤ 5) (vi_I0 (vi_of vl_c) (vi_call (P := fun r => 0 ≤ r ∧ r < 5) (va_cons (vl_var rfl) (va_cons (vl_I0 (vl_var rfl) vl_c) (va_cons vl_c va_nil))) fun Q E q => ⟨a, ds, k + 1, 5, rfl, hS, by omega, by decide, q⟩) (fun p r hp hr => by omega)) (fun dn hdn => ?_)
    refine ⟨Nat.zero_le _, fun o no => ?_⟩
    refine q_forR (n := n) (va_cons (vl_var rfl) va_nil) ⟨by omega, by omega⟩
      (fun i σ H3 => ∃ y6 y7 y8 xs ls, σ = [some (.ref a), some (.int k), some (.int m), some (.int n), some (.int dn), some (.ref o), y6, y7, y8] ∧ H3 o = some (.lst xs) ∧ Same H (but H3 o) ∧ DpAll K (but H3 o) xs (ls.map lnkD) ∧ LsAt n i 0 ls ∧ ls.length ≤ i * 40)
      ⟨none, none, none, [], [], rfl, upd_same, same_but (same_upd no) no, .nil, .nil, by simp⟩ (fun i σ H3 hi hP => ?_) (fun σ H3 hP => ?_)
    · obtain ⟨y6, y7, y8, xs, ls, rfl, ho, sm, hx, hl, hlen⟩ := hP
      refine g_forR2 (lo := (i : Int) + 1) (n := n) (va_cons (vl_I0 (vl_var rfl) vl_c) (va_cons (vl_var rfl) va_nil)) ⟨by omega, by omega, by omega, by omega⟩
        (fun j σ H3 => ∃ y7 y8 xs ls, σ = [some (.ref a), some (.int k), some (.int m), some (.int n), some (.int dn), some (.ref o), some (.int i), y7, y8] ∧ H3 o = some (.lst xs) ∧ Same H (but H3 o) ∧ DpAll K (but H3 o) xs (ls.map lnkD) ∧ LsAt n i ((i : Int) + 1 + j) ls ∧ ls.length ≤ i * 40 + j)
        ⟨y7, y8, xs, ls, rfl, ho, sm, hx, hl.mono (.inr ⟨rfl, by omega⟩), hlen⟩ (fun j σ H3 hj hP => ?_) (fun σ H3 hP => ?_)
      · obtain ⟨y7, y8, xs, ls, rfl, ho, sm, hx, hl, hlen⟩ := hP
        refine q_asg (v := .int (k + 3 + 2 * (i * n + ((i : Int) + 1 + j)))) (vl_I0 (vl_I0 (vl_var rfl) vl_c) (vl_I vl_c (vl_I0 (vl_I (vl_var rfl) (vl_var rfl) (.inl ⟨by omega, by omega⟩)) (vl_var rfl)) (.inl ⟨by decide, by decide⟩))) ?_
        have hin : 0 ≤ (i : Int) * n := Int.mul_nonneg (by omega) (by omega)
        generalize hat : k + 3 + 2 * ((i : Int) * n + ((i : Int) + 1 + j)) = at_
        have hat0 : 0 ≤ at_ := by omega
        refine ⟨.ref a, rfl, .int at_, rfl, .int n, rfl, .int n, rfl, by show 5 ≤ sizeLine; decide, fun p np => ?_⟩
        refine (vl_I0 (vl_var rfl) vl_c) _ ?_
        have npo : o ≠ p := ne_of_none ho np
        obtain ⟨d, g', hd⟩ := at_int (ds := [2, 3, 4, n, n]) (k := dn - 1) (by omega) (by show dn - 1 < 5; omega)
        have hd1 : 1 ≤ d := by
          have := List.mem_of_getElem? hd
          simp only [List.mem_cons, List.not_mem_nil, or_false] at this
          omega
        have s3 : Same H3 (upd H3 p (.lst [.int 2, .int 3, .int 4, .int n, .int n])) := same_upd np
        have sH : Same H H3 := sm.trans but_same
        refine ⟨p, _, _, _, rfl, rfl, .inl (.inl upd_same), g', ?_⟩
        refine ⟨a, ds, at_, d, rfl, (sH.trans s3).seq hS, hat0, by omega, fun r hr => ?_⟩
        refine ⟨rfl, _, rfl, ite2 (fun _ => ?_) (fun _ => ?_)⟩
        · -- links.append
          have ho4 := s3 _ _ ho
          refine ⟨.ref o, rfl, .inl ⟨rfl, _, .inl (.inl ho4)⟩, .int i, rfl, .int ((i : Int) + 1 + j), rfl, ?_⟩
          refine ⟨.ref a, rfl, .int at_, rfl, at_, 1, rfl, rfl, a, ds, at_ + 1, rfl, (sH.trans s3).seq hS, by omega, fun H5 t s5 ht => ?_⟩
          refine ⟨.ref a, rfl, .int at_, rfl, at_, 2, rfl, rfl, a, ds, at_ + 2, rfl, ((sH.trans s3).trans s5).seq hS, by omega, fun H6 u s6 hu => ?_⟩
          refine ⟨by show 4 ≤ sizeLine; decide, fun T nT => ?_⟩
          have s36 : Same H3 H6 := (s3.trans s5).trans s6
          have ho6 := s36 _ _ ho
          have nTo : o ≠ T := ne_of_none ho6 nT
          have s7 : Same H6 (upd H6 T (.tup [.int i, .int ((i : Int) + 1 + j), oV t, oV u])) := same_upd nT
          refine ⟨o, xs, .ref T, rfl, rfl, s7 _ _ ho6, ?_, ?_⟩
          · rw [DpAll.len hx, List.length_map]
            exact Nat.lt_of_le_of_lt (show ls.length ≤ 10000 by omega) (by decide)
          · have sb : Same (but H3 o) (but (upd (upd H6 T (.tup [.int i, .int ((i : Int) + 1 + j), oV t, oV u])) o (.lst (xs ++ [.ref T]))) o) := by
              rw [but_upd]
              exact but_mono (s36.trans s7)
            refine ⟨_, _, xs ++ [.ref T], ls ++ [⟨i, (i : Int) + 1 + j, t, u⟩], rfl, upd_same, sm.trans sb, ?_, ?_, ?_⟩
            · rw [List.map_append]
              refine DpAll.app (DpAll.to hx sb) (DpAll.one (Dp.lnk (l := ⟨i, (i : Int) + 1 + j, t, u⟩) (.of ?_)))
              rw [but_upd, but_ne nTo.symm, upd_same]
              rfl
            · rw [show (i : Int) + 1 + ((j + 1 : Nat) : Int) = (i : Int) + 1 + j + 1 by omega]
              exact hl.app (by omega) (by omega) (by omega) ht hu
            · rw [List.length_append]
              show ls.length + 1 ≤ i * 40 + (j + 1)
              omega
        · have sb : Same (but H3 o) (but (upd H3 p (.lst [.int 2, .int 3, .int 4, .int n, .int n])) o) := but_mono s3
          exact ⟨_, _, xs, ls, rfl, s3 _ _ ho, sm.trans sb, DpAll.to hx sb, hl.mono (.inr ⟨rfl, by omega⟩), by omega⟩
      · obtain ⟨y7, y8, xs, ls, rfl, ho, sm, hx, hl, hlen⟩ := hP
        exact ⟨_, _, _, xs, ls, rfl, ho, sm, hx, hl.mono (.inl (by omega)), by omega⟩
    · obtain ⟨y6, y7, y8, xs, ls, rfl, ho, sm, hx, hl, hlen⟩ := hP
      refine ⟨.int n, rfl, .ref o, rfl, by show 2 ≤ sizeLine; decide, fun T nT => ?_⟩
      have s3 : Same H3 (upd H3 T (.tup [.int n, .ref o])) := same_upd nT
      exact q _ _ ⟨n, ls⟩ ((sm.trans but_same).trans s3) ⟨T, o, xs, rfl, upd_same, s3 _ _ ho, DpAll.to hx (but_same.trans s3)⟩ ⟨by show 1 ≤ n; omega, by show n ≤ 40; omega, hl.ok, hl.lt, by show ls.length ≤ 1600; omega⟩ (by show n ≤ m; omega)
end
/-! ### data that is the same is equal -/
theorem lay_o : ∀ o : Option Int, (oD o).canLay0 = true ∧ (oD o).depth = 0
  | none => ⟨rfl, rfl⟩
  | some _ => ⟨rfl, rfl⟩
theorem lay_lnks : ∀ ls : List Lnk, PyData.canLayAll0 (ls.map lnkD) = true ∧ PyData.depthAll (ls.map lnkD) ≤ 1
  | [] => ⟨rfl, Nat.zero_le _⟩
  | l :: ls => by
    have h1 := lay_o l.t
    have h2 := lay_o l.k
    have ih := lay_lnks ls
    constructor
    · show (((true && (true && ((oD l.t).canLay0 && ((oD l.k).canLay0 && true)))) && PyData.canLayAll0 (ls.map lnkD)) = true)
      rw [h1.1, h2.1, ih.1]
      rfl
    · show max (max 0 (max 0 (max (oD l.t).depth (max (oD l.k).depth 0))) + 1) (PyData.depthAll (ls.map lnkD)) ≤ 1
      rw [h1.2, h2.2]
      have := ih.2
      simp only [Nat.max_self, Nat.zero_add]
      omega
theorem shaped_net (N : Net) : SeqAt.shaped (netD N) = true := by
  have h := lay_lnks N.ls
  show ((true && (PyData.canLayAll0 (N.ls.map lnkD) && true)) && decide (max 0 (max (PyData.depthAll (N.ls.map lnkD) + 1) 0) + 1 ≤ 64)) = true
  rw [h.1, decide_eq_true (show max 0 (max (PyData.depthAll (N.ls.map lnkD) + 1) 0) + 1 ≤ 64 by
    have := h.2
    omega)]
  rfl
theorem eqv_net (N : Net) : PyData.eqv (netD N) (netD N) = true := SeqAt.eqv_refl _ (Bool.and_eq_true_iff.mp (shaped_net N)).1
/-! ### new lists -/
def Vn (te : TE) (σ : L2.St) (H : Hp) (xs : List V) : Prop := ∀ Q : VK, (∀ p H', Same H H' → H p = none → H' p = some (.lst xs) → Q (.ref p) H') → te σ H Q
section
variable {K : PySem.W.Frag} {σ : L2.St} {H : Hp} {ta tb te : TE} {tr : TA} {xs ys : List V} {a : Addr} {D : Ends} {tw : TS}
theorem vn_lst (h : Va tr σ H xs) (hz : xs.length ≤ sizeLine) : Vn (tLst tr) σ H xs := fun Q q => h _ ⟨hz, fun p np => q p _ (same_upd np) np upd_same⟩
theorem vn_slice {tl th : TO} {lo hi : Option Int} (h : Vl te σ H (.ref a)) (hl : ∀ Q : Option Int → Hp → Prop, Q lo H → tl σ H Q) (hh : ∀ Q : Option Int → Hp → Prop, Q hi H → th σ H Q) (hx : SqL K H a xs) : Vn (tSl (rSlL K) te tl th) σ H (cutV xs lo hi) := fun Q q =>
  h _ (hl _ (hh _ ⟨a, xs, rfl, hx, fun p np => q p _ (same_upd np) np upd_same⟩))
theorem vn_rev (h : Vl te σ H (.ref a)) (hx : SqL K H a xs) : Vn (tRevL K te) σ H xs.reverse := fun Q q => h _ ⟨a, xs, rfl, hx, fun p np => q p _ (same_upd np) np upd_same⟩
theorem vn_cat (ha : Vn ta σ H xs) (hb : ∀ H', Same H H' → Vn tb σ H' ys) (hz : xs.length + ys.length ≤ sizeLine) : Vn (tOp rCat ta tb) σ H (xs ++ ys) := fun Q q => ha _ fun p H1 s1 np hp => hb H1 s1 _ fun r H2 s2 nr hr =>
  ⟨p, r, xs, ys, rfl, rfl, s2 _ _ hp, hr, hz, fun t nt => q t _ ((s1.trans s2).trans (same_upd nt)) (Same.free (s1.trans s2) nt) upd_same⟩
theorem vn_listOf (h : Vl te σ H (.ref a)) (hx : SqL K H a xs) : Vn (tCB (fun xs H Q => ∃ p ys, xs = [V.ref p] ∧ (SqL K H p ys ∨ SqT K H p ys) ∧ ∀ l, H l = none → Q (V.ref l) (upd H l (.lst ys))) (tCons te tNil)) σ H xs := fun Q q =>
  h _ ⟨a, xs, rfl, .inl hx, fun p np => q p _ (same_upd np) np upd_same⟩
theorem q_asgN {i : Nat} (h : Vn te σ H xs) (k : ∀ p H', Same H H' → H p = none → H' p = some (.lst xs) → tw D (σ.set i (some (.ref p))) H') : tSeq (tAsg te (gName i)) tw D σ H := h _ k
end
theorem cut_to {xs : List V} {n : Nat} (h : n ≤ xs.length) : cutV xs none (some (n : Int)) = xs.take n := by
  unfold cutV
  rw [HT.sIx_none, HT.sIx_nat, Nat.min_eq_left h, Nat.sub_zero, List.drop_zero]
theorem cut_from {xs : List V} {n : Nat} (h : n ≤ xs.length) : cutV xs (some (n : Int)) none = xs.drop n := by
  unfold cutV
  rw [HT.sIx_none, HT.sIx_nat, Nat.min_eq_left h]
  exact List.take_of_length_le (by rw [List.length_drop]; exact Nat.le_refl _)
/-- lists of lists of ints -/
theorem Dp.ints {K : PySem.W.Frag} {H : Hp} {p : Addr} {ns : List Int} (h : SqL K H p (ns.map V.int)) : Dp K H (.ref p) (.list (ns.map PyData.int)) := .lst h (DpAll.ints ns)
theorem Dp.ints_inv {K : PySem.W.Frag} {H : Hp} {v : V} {ns : List Int} (h : Dp K H v (.list (ns.map PyData.int))) : ∃ p, v = .ref p ∧ SqL K H p (ns.map V.int) := by
  obtain ⟨a, xs, rfl, hs, ha⟩ := Dp.lst_inv h
  rw [DpAll.ints_inv ha] at hs
  exact ⟨a, rfl, hs⟩
end Ovc
namespace PySem
namespace LowX
open PySem.W PySem.Calls PyProof.Rows PySem.HandSPX
/-! ### the text of __init__ -/
def iA (p1 p2 : Pos) : Arguments := { posonlyargs := [], args := [{ arg := "self", annotation := none, pos := p1 }, { arg := "at", annotation := none, pos := p2 }], vararg := none, kwonlyargs := [], kw_defaults := [], kwarg := none, defaults := [] }
def iB (q1 q2 q3 q4 : Pos) : List Stmt := [.Assign [.Attribute (.Name "self" q1) "at" q2] (.Name "at" q3) q4]
def iS : Scope := { kind := .function, names := [(PySem.Str.ofString "self", .local), (PySem.Str.ofString "at", .local)], isGenerator := false, isCoroutine := false, more := [] }
/-- what the written part says of Low, at C, and of its __init__, at fI -/
structure LowTxt (K : Frag) (mg : Str → Option Value) (xN : Str) (C fI : Addr) : Prop where
  gC : mg xN = some (.ref C)
  cls : ∃ nm q N bs bm sn sub ab col dd k0 k1 k2 k3 k5, K.lookup C = some (excClassObj nm q C N bs bm true sn sub ab col dd k0 k1 k2 k3 k5 "ValueError.__new__") ∧ refsVE bm = true
  sa : findIn K (.ref C) "__setattr__" = some (some (.builtin "object.__setattr__"))
  ga : findIn K (.ref C) "__getattribute__" = some (some (.builtin "BaseException.__getattribute__"))
  gg : findIn K (.ref C) "__getattr__" = some none
  noN : findIn K (.ref C) "at" = some none
  iC : findIn K (.ref C) "__init__" = some (some (.ref fI))
  tC : typeIn K (.ref fI) = some (.type "function")
  kC : keepIn K (.ref C) = true
  exC : subIn K (.ref C) (.type "BaseException") = some true
  tyC : typeIn K (.ref C) = some (.type "type")
  hdC : hasDictIn K C = true
  te : exmOne K (.ref C) (.ref C) = some true
  fn : ∃ (oc : Value) (od : Option Addr) (doc pm : Value) (an : Option Addr) (cdv ct : Value) (osl : Array (Option Value)) (p1 p2 q1 q2 q3 q4 : Pos),
    K.lookup fI = some ⟨oc, od, .func (fnOf "__init__" "OverpassesError.__init__" (iA p1 p2) (iB q1 q2 q3 q4) iS .none .none doc pm an cdv ct), osl⟩ ∧ codeIn K cdv "OverpassesError.__init__" = true
theorem one_size (v : Value) : [v].length ≤ sizeLine := by
  rw [sizeLine_eq]
  exact (by decide : 1 ≤ 16777216)
theorem kept_but {K : Frag} {h h' : Heap} {x : Addr} (X : K.In h) (hx : K.lookup x = none) (k : ∀ b o, b ≠ x → h.get? b = some o → h'.get? b = some o) : K.In h' := fun a o e =>
  k a o (fun z => by rw [z, hx] at e; cases e) (X a o e)
theorem ldC {M : Model} {s : Shared} {name : Str} {scope : Scope} {L a : Addr} {cd : Value} {m : Str → Option Value} {x : Str} {pos : Pos} {v : Value} {Q : Value → Shared → Prop} {A : Around} {E : Value → Shared → Prop} (hn : s.heap.Ns L m) (hv : m x = some v) (h : Q v s)
    (hk : scope.kind = .function := by rfl) (hl : (envOfC name scope L a cd).kindOf x = some .local := by rfl) (hd : (x == ("__debug__" : Str)) = false := by decide) :
    wpAny M A (eval (.Name x pos) (envOfC name scope L a cd)) Q E s := wpAny_Name (wpAny_loadName_local hk hl hn hv h) hd
/-- what __init__ leaves of a fresh exception at x -/
structure InitEnd (h h' : Heap) (x C dx t1 : Addr) (v : Value) : Prop where
  keep : ∀ b o, b ≠ x → h.get? b = some o → h'.get? b = some o
  obj : h'.get? x = some { cls := .ref C, dict := some dx, data := .fields #[.ref t1, .none, .none, .none, .bool false, .none] }
  dbig : h.objs.size ≤ dx
  dne : dx ≠ x
  ns : h'.Ns1 dx (fun y => if y = "at" then some v else none)
/-- a made Low -/
structure OwnMade (h h' : Heap) (e C d : Addr) (v : Value) : Prop where
  keep : ∀ b o, h.get? b = some o → h'.get? b = some o
  new : h.objs.size ≤ e
  obj : ∃ oe vs, h'.get? e = some oe ∧ oe.cls = .ref C ∧ oe.dict = some d ∧ oe.data = .fields vs ∧ vs[1]? = some .none
  dbig : h.objs.size ≤ d
  dne : d ≠ e
  ns : h'.Ns1 d (fun y => if y = "at" then some v else none)
section
variable {prog : Program} {w : World} {A : Around} {E : Value → Shared → Prop} {R : Result → Shared → Prop} {s : Shared} {K : Frag} {mg : Str → Option Value} {xN : Str} {C fI : Addr}
theorem low_init (T : LowTxt K mg xN C fI) {x t0 : Addr} {v : Value} (X : K.In s.heap) (hlim : s.heap.NoLimit) (hx : s.heap.get? x = some (excO C t0)) (hnx : K.lookup x = none) (hroom : A.depth < recursionLimit)
    (hq : ∀ h' tk dx, InitEnd s.heap h' x C dx t0 v → R (.ok (.ret .none)) { s with heap := h', toks := tk }) :
    codeAny (model prog w) A (.call (.ref fI) ⟨[.ref x, v], []⟩) R s := by
  obtain ⟨oc, od, doc, pm, an, cdv, ct, osl, p1, p2, q1, q2, q3, q4, ho, hcd⟩ := T.fn
  obtain ⟨nm, q, N, bs, bm, sn, sub, ab, col, dd, k0, k1, k2, k3, k5, hC, hbm⟩ := T.cls
  have hcl : clsIn K C = some { name := nm, bases := bs, mro := .ref C :: bm, ns := N, qualname := q, hasDict := true, slotNames := sn, subclasses := sub, abstract := ab, collection := col, hasDel := false } := by unfold clsIn; rw [hC] <;> rfl
  refine Att.call_fn (binds := [("self", .ref x), ("at", v)]) X hlim ho hcd hroom (BindsTo.of_eq (by first | rfl | with_unfolding_all rfl)) (by first | rfl | decide | with_unfolding_all rfl) (fun s₁ IC => ?_) rfl rfl rfl
  obtain ⟨h₁, tk₁, rfl⟩ := IC.toInCall.same
  have k : ∀ b o, s.heap.get? b = some o → h₁.get? b = some o := IC.toInCall.keep
  have hn := IC.toInCall.ns
  have hxL : s.heap.objs.size ≠ x := Nat.ne_of_gt (Heap.lt_size hx)
  have X₁ : K.In h₁ := X.keeps k
  have hx₁ := k _ _ hx
  -- self.by = by
  show wpAny _ _ (execs _ _) _ _ _
  refine wpAny_execs_cons (plainObj_wpAny_Assign_Attribute ?_)
  refine ldC (v := v) hn (by first | rfl | with_unfolding_all rfl | kernel_rfl) (ldC (v := .ref x) hn (by first | rfl | with_unfolding_all rfl | kernel_rfl) ?_)
  refine set_plain X₁ (ox := excO C t0) (od := none) ⟨hx₁, rfl, rfl, trivial⟩ T.sa ?_
  refine exc_osa X₁ hx₁ hcl (show refsVE (.ref C :: bm) = true from hbm) rfl T.noN (fun h₃ tk₃ dx k₃ dn dne hx₃ hn₃ => ?_)
  show wpAny _ _ (execs _ _) _ _ _
  have z : s.heap.objs.size < h₁.objs.size := hn.lt
  exact wpAny_execs_nil (hq h₃ tk₃ dx ⟨fun b o hb e => k₃ b o hb (k b o e), hx₃, Nat.le_of_lt (Nat.lt_of_lt_of_le z dn), dne, hn₃⟩)
theorem low_made (T : LowTxt K mg xN C fI) {v : Value} (X : K.In s.heap) (hlim : s.heap.NoLimit) (hroom : A.depth + 1 < recursionLimit)
    (hq : ∀ h' tk e d, OwnMade s.heap h' e C d v → R (.ok (.ret (.ref e))) { s with heap := h', toks := tk }) :
    codeAny (model prog w) A (.call (.ref C) ⟨[v], []⟩) R s := by
  obtain ⟨nm, q, N, bs, bm, sn, sub, ab, col, dd, k0, k1, k2, k3, k5, hC, hbm⟩ := T.cls
  obtain ⟨hp, g, dr, tk, os⟩ := s
  have k : ∀ b o, hp.get? b = some o → ((hp.push (kdv_tup [v])).push (excO C hp.objs.size)).get? b = some o := fun b o e => Heap.get?_push_of_some _ (Heap.get?_push_of_some _ e)
  have hget : ((hp.push (kdv_tup [v])).push (excO C hp.objs.size)).get? (hp.objs.size + 1) = some (excO C hp.objs.size) := by heap_get
  have hnx : K.lookup (hp.objs.size + 1) = none := by
    cases e : K.lookup (hp.objs.size + 1) with
    | none => rfl
    | some o =>
      have z : hp.get? (hp.objs.size + 1) = some o := X _ _ e
      exact absurd (Nat.lt_of_succ_lt (Heap.lt_size z)) (Nat.lt_irrefl _)
  refine call_own F.excBase_ValueError (fun X => refsVE_contains X bm hbm) (X _ _ hC) (looks_findIn X T.iC) (fun self => bind_fn X self T.tC) (one_size v) ?_
  refine low_init (s := ⟨(hp.push (kdv_tup [v])).push (excO C hp.objs.size), g, dr, tk, os⟩) T (X.keeps k) (hlim.keeps k) hget hnx ?_ fun h' tk' dx ⟨k', hx, dn, dne, hns⟩ => ?_
  · show A.depth + 1 < recursionLimit
    exact hroom
  · have old : ∀ b o, hp.get? b = some o → h'.get? b = some o := fun b o e => k' b o (Nat.ne_of_lt (Nat.lt_succ_of_lt (Heap.lt_size e))) (k b o e)
    have z : hp.objs.size + 1 + 1 ≤ dx := by
      first
        | (simpa only [Heap.size_push] using dn)
        | exact dn
        | (have q := dn; rw [Heap.size_push, Heap.size_push] at q; exact q)
    exact ⟨rfl, hq h' tk' (hp.objs.size + 1) dx ⟨old, Nat.le_succ _, ⟨_, _, hx, rfl, rfl, rfl, rfl⟩, Nat.le_trans (Nat.le_trans (Nat.le_succ _) (Nat.le_succ _)) z, dne, hns⟩⟩
end
end LowX
end PySem
namespace L2
open PySem PySem.Spec PyProof.Rows
theorem relO_low {v : V} {v' : Value} (r : RelV v v') (f : Str) : RelO (List.lookup f [(("at" : Str), v)]) (if f = "at" then some v' else none) := by
  by_cases hw : f = "at"
  · subst hw
    rw [if_pos rfl]
    have q : List.lookup ("at" : Str) [(("at" : Str), v)] = some v := by simp [List.lookup]
    rw [q]
    exact r
  · rw [if_neg hw]
    have qw : (f == ("at" : Str)) = false := by simpa using hw
    have q2 : List.lookup f [(("at" : Str), v)] = none := by simp [List.lookup, qw]
    rw [q2]
    trivial
section
variable {X : Cx} {xN : Str} {C fI : Addr}
/-- Low(e) -/
def tMkLow (C : Addr) (ta : TA) : St → Hp → XK → Prop := fun σ H Q => ta σ H fun vs H1 => ∃ v, vs = [v] ∧ ∀ d, H1 d = none → Q (.ref C) (some d) (upd H1 d (.xd [(("at" : Str), v)]))
theorem pmk_low {a : Expr} {ta : TA} {p pos : Pos} {k : Nat} (T : PySem.LowX.LowTxt X.K X.mg xN C fI) (hr : Room k X.A) (ha : PA X [a] ta) (hg : Gl X xN := by rfl) (hdb : (xN == ("__debug__" : Str)) = false := by decide)
    (he : starEach (a :: []) X.env = (false, eval a X.env) :: starEach [] X.env := by rfl) (hpl : (backTo pos (starEach [] X.env)).any (·.1) = false := by rfl) :
    PMk X (.Call (.Name xN p) [a] [] pos) (tMkLow C ta) := by
  intro pins s σ H Q I h
  refine wpAny_Call_Name_kw (ld_glob I hg T.gC ?_ hdb)
  refine PySem.W.callWith_K (h₀ := X.base) I.ok.mod.kin T.kC (thn (ha.run pos pins s σ H _ I h) fun us s1 hh => ?_) he hpl
  obtain ⟨vs, H1, I1, r1, v, ev, q1⟩ := hh
  subst ev
  refine ⟨I1.kIn, ?_⟩
  cases r1 with
  | cons rv rn =>
    rename_i v' us'
    cases rn
    show wpAny _ _ (call (.ref C) [v']) _ _ _
    have hlim := I1.nolimit
    obtain ⟨hp, g, dr, tk, os⟩ := s1
    refine wpAny_call (PySem.LowX.low_made T I1.kIn hlim (by have := hr.dp; omega) fun h' tk' e d M => ?_)
    show MkP X pins σ Q (.ref e) ⟨h', g, dr, tk', os⟩
    obtain ⟨oe, fv, hoe, hc, hd, hdat, h1⟩ := M.obj
    have hns := M.ns
    obtain ⟨G', g1, g2⟩ := restrict h' fun b => decide (b ≠ e)
    have gk : ∀ b, b ≠ e → G'.get? b = h'.get? b := fun b hb => g1 b (decide_eq_true hb)
    have ge : G'.get? e = none := g2 e (by simp)
    have old : ∀ b o, hp.get? b = some o → G'.get? b = some o := fun b o q => (gk b (Nat.ne_of_lt (Nat.lt_of_lt_of_le (Heap.lt_size q) M.new))).trans (M.keep b o q)
    have ob : ObjOk X.prog X.w (upd H1 d (.xd [(("at" : Str), v)])) G' d (.xd [(("at" : Str), v)]) :=
      ⟨_, hns.at (fun o q => (gk d M.dne).trans q), fun f => relO_low rv f⟩
    have J : Inv X pins σ (upd H1 d (.xd [(("at" : Str), v)])) ⟨G', g, dr, tk', os⟩ := I1.laid (t' := tk') old M.dbig ob
    refine ⟨e, oe, fv, ⟨G', g, dr, tk', os⟩, _, .ref C, some d, rfl, J, fun b o q => ?_, ge, hoe, ⟨hc, hd⟩, hdat, h1, ?_, rfl, I1.bare, raises_own T.exC T.tyC, q1 d (I1.hok.fresh M.dbig)⟩
    · by_cases hb : b = e
      · have q' : G'.get? b = some o := q
        rw [hb, ge] at q'; cases q'
      · exact (gk b hb).symm.trans q
    · rw [upd_ne (Ne.symm M.dne)]
      exact I1.hok.fresh M.new
/-- raise Low(e) -/
def tRaiseLow (C : Addr) (W : WX) (ta : TA) : TS := fun _ σ H => tMkLow C ta σ H fun cls d H' => W cls d σ H'
theorem ps_raiseLow {a : Expr} {ta : TA} {W : WX} {p pos pos2 : Pos} {k : Nat} (hc : X.calm = true) (T : PySem.LowX.LowTxt X.K X.mg xN C fI) (hr : Room k X.A) (tk : Takes X W) (ha : PA X [a] ta) (hg : Gl X xN := by rfl) (hdb : (xN == ("__debug__" : Str)) = false := by decide)
    (he : starEach (a :: []) X.env = (false, eval a X.env) :: starEach [] X.env := by rfl) (hpl : (backTo pos (starEach [] X.env)).any (·.1) = false := by rfl) :
    PS X (.Raise (some (.Call (.Name xN p) [a] [] pos)) none pos2) (tRaiseLow C W ta) := ps_raise hc tk (pmk_low T hr ha hg hdb he hpl)
/-- low.by, low the exception that the suite holds (at a; its class cls, its dict d) -/
def tByLow (C : Addr) (a : Addr) (cls : Value) (d : Option Addr) (te : TE) : TE := fun σ H Q => te σ H fun x H1 => x = .ref a ∧ cls = .ref C ∧ ∃ (dd : Addr) (v : V), d = some dd ∧ H1 dd = some (.xd [(("at" : Str), v)]) ∧ Q v H1
theorem pe_byLow {a : Addr} {oe : Obj} {cls : Value} {d : Option Addr} {pn : List (Addr × Obj)} {e : Expr} {te : TE} {pos : Pos} (T : PySem.LowX.LowTxt X.K X.mg xN C fI) (hz : Zc cls d oe) (hf : ∃ vs, oe.data = .fields vs) (he : PE (X.suite a ((a, oe) :: pn)) e te)
    (hb : attributeBase e "at" X.env (eval e X.env) = eval e X.env := by rfl) :
    PE (X.suite a ((a, oe) :: pn)) (.Attribute e "at" pos) (tByLow C a cls d te) := by
  refine ⟨fun pins s σ H Q I h => ?_⟩
  refine attr_of hb (thn (he.run pins s σ H _ I h) fun u s1 hh => ?_)
  obtain ⟨x, H1, I1, rx, ex, ec, dd, v, ed, ea, q⟩ := hh
  subst ex
  obtain rfl : u = Value.ref a := rx
  subst ec
  subst ed
  obtain ⟨ha, _⟩ := I1.pin (a, oe) (List.mem_append_left _ List.mem_cons_self)
  obtain ⟨vs, hd⟩ := hf
  have hx : ObjOk X.prog X.w H1 s1.heap dd (.xd [(("at" : Str), v)]) := I1.hok dd _ ea
  obtain ⟨mA, hns, hr⟩ := hx
  obtain ⟨od, ho, hl⟩ := lookIn_ns hns
  have l : List.lookup ("at" : Str) [(("at" : Str), v)] = some v := by simp [List.lookup]
  obtain ⟨u, hu, ru⟩ := RelO.some_of (v := v) (o := mA "at") (by rw [← l]; exact hr "at")
  have J : PySem.W.InstAt s1.heap a oe C (some od) := ⟨ha, hz.1, by unfold PySem.W.notCls; rw [hd] <;> rfl, by rw [hz.2]; exact ho⟩
  exact HandSPX.exc_get I1.kIn J T.ga T.gg T.exC (PySem.W.findObj_own T.hdC T.noN rfl (by rw [hl, hu])) (handed_of ru) ⟨v, H1, I1.tok _, ru, q⟩
end
end L2

namespace L2
open PySem PySem.Spec PyProof.Rows
/-- an if whose test is known -/
theorem if_true_of {c : Bool} {A B : Prop} (hc : c = true) (h : A) : if c = true then A else B := by
  rw [if_pos hc]
  exact h
theorem if_false_of {c : Bool} {A B : Prop} (hc : c = false) (h : B) : if c = true then A else B := by
  rw [hc, if_neg Bool.false_ne_true]
  exact h
end L2
namespace Ovc
open PySem PySem.Spec PyProof.Rows L2
/-! ### try with several clauses, each with a name or without one -/
/-- the ends of a suite whose name's slot is emptied behind it -/
def endsAs (i : Nat) (D : Ends) : Ends := { nx := fun σ H => D.nx (σ.set i none) H, rt := D.rt, bk := fun σ H => D.bk (σ.set i none) H, ct := fun σ H => D.ct (σ.set i none) H }
abbrev Clause := Value × Option Nat × (Addr → Value → Option Addr → TS)
def runClause (q : Clause) (a : Addr) (cls : Value) (d : Option Addr) (D : Ends) (σ : L2.St) (H : Hp) : Prop :=
  match q.2.1 with
  | none => q.2.2 a cls d D σ H
  | some i => q.2.2 a cls d (endsAs i D) (σ.set i (some (.ref a))) H
def wClauses (K : PySem.W.Frag) (Wout : WX) (D : Ends) : List Clause → WX
  | [] => Wout
  | q :: r => fun cls d σ H => ∃ b, PySem.W.exmOne K cls q.1 = some b ∧ (b = true → ∀ a, H a = none → runClause q a cls d D σ H) ∧ (b = false → wClauses K Wout D r cls d σ H)
inductive ClOk (X : Cx) : List ExceptHandler → List Clause → Prop
  | nil : ClOk X [] []
  | bare {x : Str} {c : Value} {ts : Addr → Value → Option Addr → TS} {st₀ : Stmt} {sts : List Stmt} {p1 p2 : Pos} {hds : List ExceptHandler} {l : List Clause} (hc : Names X x c)
      (suite : ∀ (a : Addr) (ob : Obj) (cls : Value) (d : Option Addr) (pn : List (Addr × Obj)), Zc cls d ob → (∃ fv, ob.data = .fields fv) → PSs (X.suite a ((a, ob) :: pn)) (st₀ :: sts) (ts a cls d)) (more : ClOk X hds l) :
      ClOk X (.ExceptHandler (some (.Name x p1)) none (st₀ :: sts) p2 :: hds) ((c, none, ts) :: l)
  | named {x n : Str} {c : Value} {i : Nat} {ts : Addr → Value → Option Addr → TS} {st₀ : Stmt} {sts : List Stmt} {p1 p2 : Pos} {hds : List ExceptHandler} {l : List Clause} (hN : X.N.Nodup) (hi : X.N[i]? = some n) (hln : X.env.kindOf n = some .local) (hc : Names X x c)
      (suite : ∀ (a : Addr) (ob : Obj) (cls : Value) (d : Option Addr) (pn : List (Addr × Obj)), Zc cls d ob → (∃ fv, ob.data = .fields fv) → PSs (X.suite a ((a, ob) :: pn)) (st₀ :: sts) (ts a cls d)) (more : ClOk X hds l) :
      ClOk X (.ExceptHandler (some (.Name x p1)) (some n) (st₀ :: sts) p2 :: hds) ((c, some i, ts) :: l)
section
variable {X : Cx} {body : List Stmt} {hd₀ : ExceptHandler} {hds : List ExceptHandler} {l : List Clause} {pos : Pos} {tb : WX → TS} {Wout : WX}
theorem ps_try_cl (hsk : X.stack = X.env :: X.outer) (hfm : X.env.frame = some X.env.locals) (tk : Takes X Wout)
    (hb : ∀ (W : WX) (pn : List (Addr × Obj)) (xe : Value → Shared → Prop), Takes (X.tr pn xe) W → PassesOwn (model X.prog X.w) X.A X.env xe → PSs (X.tr pn xe) body (tb W))
    (hcl : ClOk X (hd₀ :: hds) l) : PS X (.Try body (hd₀ :: hds) [] [] pos) (fun D σ H => tb (wClauses X.K Wout D l) D σ H) := by
  refine ⟨fun pins s σ H D I0 hr => ?_⟩
  have okX := I0.ok
  have frA : X.A.frames = some (X.env :: X.outer) := by rw [okX.frames, hsk]
  refine wpAny_Try_except (wpAny_mono ((hb (wClauses X.K Wout D l) (X.pn ++ pins) (fun e t₁ => wpAny (model X.prog X.w) X.A (noteFrame e X.env) (fun _ t₂ => wpAny (model X.prog X.w) X.A (setFlight e none) (fun _ t₃ =>
    wpAny (model X.prog X.w) X.A (handleBy e X.env (hd₀ :: hds)) (SP X pins D) X.xe t₃) X.xe t₂) X.xe t₁) (fun u t xx => ?caught) PassesOwn.looking).run [] s σ H D (I0.toTry _) hr) (fun fl t hsp => ?after) (fun e t he => he))
  case after =>
    cases fl with
    | next => exact let ⟨σ1, H1, I1, z⟩ := hsp; wpAny_execs_nil ⟨σ1, H1, I1.ofTry okX, z⟩
    | brk => exact let ⟨σ1, H1, I1, z⟩ := hsp; ⟨σ1, H1, I1.ofTry okX, z⟩
    | cont => exact let ⟨σ1, H1, I1, z⟩ := hsp; ⟨σ1, H1, I1.ofTry okX, z⟩
    | ret u => exact let ⟨v, σ1, H1, I1, r, z⟩ := hsp; ⟨v, σ1, H1, I1.ofTry okX, r, z⟩
  case caught =>
    obtain ⟨a, B, sI, pins1, σ1, H1, cls, d, rfl, I1', nb, up, sky, na, os, ag, wish⟩ := xx
    have I1 : Inv X pins σ1 H1 sI := I1'.ofTry okX
    have skyF : Sky B (X.env :: X.outer) a (Zc cls d) X.env.locals t.heap := by rw [← hsk]; exact sky
    refine Sky.land Zc.steady frA hfm skyF fun h3 fl3 up3 => ?_
    have I3 : Inv X pins σ1 H1 { t with heap := h3 } := I1.landed nb fl3.1 (up.trans up3) os ag
    obtain ⟨ob3, fv3, at3, z3, dat3⟩ := fl3.there
    have off : a ∉ frs (X.env :: X.outer) := fun hm => by
      obtain ⟨_, o', e', hnf⟩ := fl3.2.2.1.mem hm
      rw [at3] at e'
      cases e'
      exact hnf _ dat3
    have offL : a ≠ X.env.locals := fun z => off (List.mem_filterMap.mpr ⟨X.env, List.mem_cons_self, by rw [hfm, z]⟩)
    have offF : a ∉ X.fs := fun hm => let ⟨en, hen, z⟩ := List.mem_filterMap.mp hm; off (List.mem_filterMap.mpr ⟨en, List.mem_cons_of_mem _ hen, z⟩)
    have SU3 := I3.suite at3 dat3 na offL offF
    have test : ∀ {x : Str} {c : Value} {p1 : Pos} {Q : Value → Shared → Prop} {E : Value → Shared → Prop}, Names X x c → Q c { t with heap := h3 } →
        wpAny (model X.prog X.w) (X.A.mark (some (.ref a))) (eval (.Name x p1) X.env) Q E { t with heap := h3 } := fun {x c p1 Q E} hc z => by
      obtain ⟨hg, hdb, hm | ⟨hm, hv, hne⟩⟩ := hc
      · exact ld_glob (X := X.suite a ((a, ob3) :: (X.pn ++ pins))) SU3 hg hm z hdb
      · exact ld_blt (X := X.suite a ((a, ob3) :: (X.pn ++ pins))) SU3 hg hm hv z hne hdb
    have looks : PySem.W.Looks (model X.prog X.w) h3 (typeOf (.ref a)) cls := fun A Q E s1 keep z => wpAny_typeOf_ref (keep _ _ at3) (by rw [z3.1]; exact z)
    suffices go : ∀ {hs1 : List ExceptHandler} {l1 : List Clause}, ClOk X hs1 l1 → wClauses X.K Wout D l1 cls d σ1 H1 → wpAny (model X.prog X.w) X.A (handleBy (.ref a) X.env hs1) (SP X pins D) X.xe { t with heap := h3 } from go hcl wish
    intro hs1 l1 hk
    induction hk with
    | nil =>
      intro wo
      refine wpAny_handleBy_nil ?_
      obtain ⟨k1, k2, k3, ob, fv, T, oT, tv, heT, hzT, hdT, hT1, hTr⟩ := id fl3
      unfold PySem.passOn
      refine wpAny_bind (wpAny_field heT hdT hT1 ?_)
      rw [if_neg (show ¬ (Value.ref T == Value.none) = true from by simp)]
      have fin : wpAny (model X.prog X.w) X.A (setFlight (.ref a) X.env.frame) (fun _ t4 => wpAny (model X.prog X.w) X.A (throw (.ref a) : Sem Flow) (SP X pins D) X.xe t4) X.xe { t with heap := h3 } := by
        rw [hfm]
        exact HandSPX.setFlight_upZ fl3 fun h4 held4 up4 => wpAny_throw (tk _ _ ⟨a, B, sI, pins, σ1, H1, cls, d, rfl, I1, nb, (up.trans up3).trans up4, .inr (.inr (by rw [hsk]; exact held4)), na, os, ag, wo⟩)
      first | exact wpAny_bind (wpAny_pure (wpAny_bind fin)) | exact wpAny_bind fin
    | @bare x c ts st₀ sts p1 p2 hs2 l2 hc suite more ih =>
      rintro ⟨b, hb1, yes, no⟩
      refine wpAny_handleBy_cons (codeAny_handlers_test (test hc ((PySem.W.exm_one (M := model X.prog X.w) I3.kIn looks hb1).here ?_))) (by intro q; cases q)
      cases b with
      | false => exact ih (no rfl)
      | true =>
        refine codeAny_handlers_suite (HandSPX.lands_againZ fl3 fun h4 fl4 up4 => ?_)
        have I4 : Inv X pins σ1 H1 { t with heap := h4 } := I1.landed nb fl4.1 ((up.trans up3).trans up4) os ag
        obtain ⟨ob4, fv4, at4, z4, dat4⟩ := fl4.there
        refine wpAny_mono ((suite a ob4 cls d (X.pn ++ pins) z4 ⟨_, dat4⟩).run [] _ _ H1 _ (I4.suite at4 dat4 na offL offF) (yes rfl a na)) (fun f t6 hsp => ?_) (fun _ _ z => False.elim z)
        cases f with
        | next => exact let ⟨σ6, H6, S6, z6⟩ := hsp; ⟨_, _, S6.unsuite okX, z6⟩
        | brk => exact let ⟨σ6, H6, S6, z6⟩ := hsp; ⟨_, _, S6.unsuite okX, z6⟩
        | cont => exact let ⟨σ6, H6, S6, z6⟩ := hsp; ⟨_, _, S6.unsuite okX, z6⟩
        | ret u => exact let ⟨v6, σ6, H6, S6, r6, z6⟩ := hsp; ⟨_, _, _, S6.unsuite okX, r6, z6⟩
    | @named x n c i ts st₀ sts p1 p2 hs2 l2 hN hi hln hc suite more ih =>
      rintro ⟨b, hb1, yes, no⟩
      refine wpAny_handleBy_cons (codeAny_handlers_test (test hc ((PySem.W.exm_one (M := model X.prog X.w) I3.kIn looks hb1).here ?_))) (by intro q; cases q)
      cases b with
      | false => exact ih (no rfl)
      | true =>
        refine codeAny_handlers_suite_as (HandSPX.lands_againZ fl3 fun h4 fl4 up4 => ?_)
        have I4 : Inv X pins σ1 H1 { t with heap := h4 } := I1.landed nb fl4.1 ((up.trans up3).trans up4) os ag
        obtain ⟨ob4, fv4, at4, z4, dat4⟩ := fl4.there
        refine store_ok (X := X.suite a ((a, ob4) :: (X.pn ++ pins))) (v := .ref a) (I4.suite at4 dat4 na offL offF) hN hi (.inl hln) rfl (fun t5 S5 => ?_) (.inr hln)
        refine wpAny_mono ((suite a ob4 cls d (X.pn ++ pins) z4 ⟨_, dat4⟩).run [] t5 _ H1 _ S5 (yes rfl a na)) (fun f t6 hsp => ?_) (fun _ _ z => False.elim z)
        have off6 : ∀ {σ6 : L2.St} {H6 : Hp} {Q : Shared → Prop}, Inv (X.suite a ((a, ob4) :: (X.pn ++ pins))) [] σ6 H6 t6 → (∀ t7, Inv X pins (σ6.set i none) H6 t7 → Q t7) →
            wpAny (model X.prog X.w) X.A (do bindName X.env n .none; unbindBehindTheSuite X.env n p2) (fun _ t7 => Q t7) X.xe t6 := fun {σ6 H6 Q} S6 hq => gone_ok (S6.unsuite okX) hN hi hln hq
        cases f with
        | next => exact let ⟨σ6, H6, S6, z6⟩ := hsp; off6 S6 fun t7 I7 => ⟨_, _, I7, z6⟩
        | brk => exact let ⟨σ6, H6, S6, z6⟩ := hsp; off6 S6 fun t7 I7 => ⟨_, _, I7, z6⟩
        | cont => exact let ⟨σ6, H6, S6, z6⟩ := hsp; off6 S6 fun t7 I7 => ⟨_, _, I7, z6⟩
        | ret u => exact let ⟨v6, σ6, H6, S6, r6, z6⟩ := hsp; off6 S6 fun t7 I7 => ⟨_, _, _, I7, r6, z6⟩
end
/-! ### a < b < c < d as a test -/
def tTest3 (r1 r2 r3 : R2) (ta tb tc td : TE) : TT := fun σ H Q => ta σ H fun x H1 => tb σ H1 fun y H2 => r1 x y H2 fun z H3 => ∃ k, z = .bl k ∧
  (if k = true then tc σ H3 fun u H4 => r2 y u H4 fun z2 H5 => ∃ k2, z2 = .bl k2 ∧ (if k2 = true then td σ H5 fun v H6 => r3 u v H6 fun z3 H7 => ∃ k3, z3 = .bl k3 ∧ Q k3 H7 else Q false H5) else Q false H3)
theorem pt_chain3 {X : Cx} {a b c d : Expr} {ta tb tc td : TE} {o1 o2 o3 : CmpOp} {r1 r2 r3 : R2} {pos : Pos} (h1 : OpR X (compareOp o1) r1) (h2 : OpR X (compareOp o2) r2) (h3 : OpR X (compareOp o3) r3) (ha : PE X a ta) (hb : PE X b tb) (hc : PE X c tc) (hd : PE X d td)
    (hm : lastMarks [o1, o2, o3] [b, c, d] = false := by with_unfolding_all rfl) : PT X (.Compare a [o1, o2, o3] [b, c, d] pos) (tTest3 r1 r2 r3 ta tb tc td) := by
  refine ⟨fun pins s σ H Q I0 hr => isTrue_chain (thn (ha.run pins s σ H _ I0 hr) fun v1 s1 ⟨x, H1, I1, e1, q1⟩ => test_link (thn (hb.run pins s1 σ H1 _ I1 q1) fun v2 s2 ⟨y, H2, I2, e2, q2⟩ =>
    thn (h1 pins s2 σ H2 x y v1 v2 _ I2 e1 e2 q2) fun v3 s3 ⟨z, H3, I3, e3, k, ez, q3⟩ => ?_)) hm⟩
  subst ez
  cases e3
  refine wpAny_truthy_bool ?_
  cases k with
  | false => exact ite_ff ⟨H3, I3, q3⟩
  | true =>
    refine ite_tt (test_link (thn (hc.run pins s3 σ H3 _ I3 q3) fun v4 s4 ⟨u, H4, I4, e4, q4⟩ => thn (h2 pins s4 σ H4 y u v2 v4 _ I4 e2 e4 q4) fun v5 s5 ⟨z2, H5, I5, e5, k2, ez2, q5⟩ => ?_))
    subst ez2
    cases e5
    refine wpAny_truthy_bool ?_
    cases k2 with
    | false => exact ite_ff ⟨H5, I5, q5⟩
    | true =>
      refine ite_tt (test_last (thn (hd.run pins s5 σ H5 _ I5 q5) fun v6 s6 ⟨v, H6, I6, e6, q6⟩ => thn (h3 pins s6 σ H6 u v v4 v6 _ I6 e4 e6 q6) fun v7 s7 ⟨z3, H7, I7, e7, k3, ez3, q7⟩ => ?_))
      subst ez3
      cases e7
      exact wpAny_truthy_bool ⟨H7, I7, q7⟩
theorem an_chain3 {σ : L2.St} {H : Hp} {g1 g2 g3 : Int → Int → Bool} {ta tb tc td : TE} {p q r s : Int} (ha : Vl ta σ H (.int p)) (hb : Vl tb σ H (.int q)) (hc : Vl tc σ H (.int r)) (hd : Vl td σ H (.int s)) :
    An (tTest3 (rI0 fun i j => .bl (g1 i j)) (rI0 fun i j => .bl (g2 i j)) (rI0 fun i j => .bl (g3 i j)) ta tb tc td) σ H (g1 p q && (g2 q r && g3 r s)) := fun Q k =>
  ha _ (hb _ ⟨p, q, rfl, rfl, _, rfl, by
    show if g1 p q = true then _ else _
    revert k
    cases g1 p q with
    | false => exact fun k => iteF k
    | true => exact fun k => iteT (hc _ ⟨q, r, rfl, rfl, _, rfl, by
        show if g2 q r = true then _ else _
        revert k
        cases g2 q r with
        | false => exact fun k => iteF k
        | true => exact fun k => iteT (hd _ ⟨r, s, rfl, rfl, _, rfl, k⟩)⟩)⟩)
/-! ### tests that make objects on their way -/
def Ax (t : TT) (σ : L2.St) (H : Hp) (b : Bool) : Prop := ∀ Q : Bool → Hp → Prop, (∀ H', Same H H' → Q b H') → t σ H Q
section
variable {K : PySem.W.Frag} {σ : L2.St} {H : Hp} {t u : TT} {D : Ends} {tz tu tw : TS} {ta tb tc : TE}
theorem ax_of {b : Bool} (h : An t σ H b) : Ax t σ H b := fun Q q => h Q (q H (Same.refl H))
theorem ax_not {b : Bool} (h : Ax t σ H b) : Ax (tNot t) σ H (!b) := fun Q q => h _ fun H' s => q H' s
theorem ax_and {k m : Bool} (h1 : Ax t σ H k) (h2 : k = true → ∀ H', Same H H' → Ax u σ H' m) : Ax (tAnd t u) σ H (k && m) := fun Q q => h1 _ fun H1 s1 => by
  cases k with
  | true => exact iteT (h2 rfl H1 s1 _ fun H2 s2 => q H2 (s1.trans s2))
  | false => exact iteF (q H1 s1)
theorem ax_or {k m : Bool} (h1 : Ax t σ H k) (h2 : k = false → ∀ H', Same H H' → Ax u σ H' m) : Ax (tOr t u) σ H (k || m) := fun Q q => h1 _ fun H1 s1 => by
  cases k with
  | true => exact iteT (q H1 s1)
  | false => exact iteF (h2 rfl H1 s1 _ fun H2 s2 => q H2 (s1.trans s2))
theorem Ax.is {k m : Bool} (h : Ax t σ H k) (e : k = m) : Ax t σ H m := e ▸ h
theorem g_ifx {b : Bool} (h : Ax t σ H b) (h1 : b = true → ∀ H', Same H H' → tz D σ H') (h2 : b = false → ∀ H', Same H H' → tu D σ H') : tIfS t tz tu D σ H := h _ fun H' s => by
  cases b with
  | true => exact iteT (h1 rfl H' s)
  | false => exact iteF (h2 rfl H' s)
theorem q_ifx {b : Bool} (h : Ax t σ H b) (h1 : b = true → ∀ H', Same H H' → tz { D with nx := tw D } σ H') (h2 : b = false → ∀ H', Same H H' → tu { D with nx := tw D } σ H') : tSeq (tIfS t tz tu) tw D σ H := g_ifx (D := { D with nx := tw D }) h h1 h2
theorem q_whenx {b : Bool} (h : Ax t σ H b) (h1 : b = true → ∀ H', Same H H' → tz { D with nx := tw D } σ H') (h2 : b = false → ∀ H', Same H H' → tw D σ H') : tSeq (tIfS t tz tNext) tw D σ H := g_ifx (D := { D with nx := tw D }) h h1 h2
theorem g_whenx {b : Bool} (h : Ax t σ H b) (h1 : b = true → ∀ H', Same H H' → tz D σ H') (h2 : b = false → ∀ H', Same H H' → D.nx σ H') : tIfS t tz tNext D σ H := g_ifx h h1 h2
theorem lexAt2 {a b c d : Int} : Ob.lexAt (fun j => decide ([a, b].getD j 0 = [c, d].getD j 0)) (fun j => decide ([a, b].getD j 0 ≤ [c, d].getD j 0)) (decide ([a, b].length ≤ [c, d].length)) 0 (min [a, b].length [c, d].length) = decide (a < c ∨ (a = c ∧ b ≤ d)) := by
  show (if decide (a = c) = true then (if decide (b = d) = true then decide (2 ≤ 2) else decide (b ≤ d)) else decide (a ≤ c)) = _
  by_cases h1 : a = c
  · rw [if_pos (decide_eq_true h1)]
    by_cases h2 : b = d
    · rw [if_pos (decide_eq_true h2), decide_eq_true (Nat.le_refl 2), decide_eq_true (.inr ⟨h1, by omega⟩)]
    · rw [if_neg (fun h => h2 (of_decide_eq_true h)), Bool.eq_iff_iff]
      simp only [decide_eq_true_eq]
      omega
  · rw [if_neg (fun h => h1 (of_decide_eq_true h)), Bool.eq_iff_iff]
    simp only [decide_eq_true_eq]
    omega
/-- (a, b) <= t, t a tuple of two ints -/
theorem ax_leT {a b c d : Int} {T : Addr} (ha : Vl ta σ H (.int a)) (hb : Vl tb σ H (.int b)) (hc : ∀ H', Same H H' → Vl tc σ H' (.ref T)) (hT : SqT K H T [.int c, .int d]) : Ax (tTest (tOp (rLeT K) (tTup (tCons ta (tCons tb tNil))) tc)) σ H (decide (a < c ∨ (a = c ∧ b ≤ d))) := fun Q q =>
  ha _ (hb _ ⟨by show 2 ≤ sizeLine; decide, fun S nS => hc _ (same_upd nS) _ ⟨S, T, [a, b], [c, d], rfl, rfl, .of upd_same, seqT (same_upd nS) hT, _, rfl, by
    rw [lexAt2]
    exact q _ (same_upd nS)⟩⟩)
/-- (a, b) == (c, d), the tuples made on the way -/
theorem ax_eqTT {td : TE} {p q r s : Int} (ha : ∀ H', Same H H' → Vl ta σ H' (.int p)) (hb : ∀ H', Same H H' → Vl tb σ H' (.int q)) (hc : ∀ H', Same H H' → Vl tc σ H' (.int r)) (hd : ∀ H', Same H H' → Vl td σ H' (.int s)) :
    Ax (tTest (tOp (rEqD K) (tTup (tCons ta (tCons tb tNil))) (tTup (tCons tc (tCons td tNil))))) σ H (decide (p = r ∧ q = s)) := fun Q k =>
  ha H (Same.refl H) _ (hb H (Same.refl H) _ ⟨by show 2 ≤ sizeLine; decide, fun T nT => by
    have s1 : Same H (upd H T (.tup [.int p, .int q])) := same_upd nT
    refine hc _ s1 _ (hd _ s1 _ ⟨by show 2 ≤ sizeLine; decide, fun S nS => ?_⟩)
    have s2 : Same (upd H T (.tup [.int p, .int q])) (upd (upd H T (.tup [.int p, .int q])) S (.tup [.int r, .int s])) := same_upd nS
    refine ⟨.tuple [.int p, .int q], .tuple [.int r, .int s], .tup (.of (s2 _ _ upd_same)) (.cons (.int _) (.cons (.int _) .nil)), .tup (.of upd_same) (.cons (.int _) (.cons (.int _) .nil)), by rfl, by rfl, _, rfl, ?_⟩
    rw [show PyData.eqv (.tuple [.int p, .int q]) (.tuple [.int r, .int s]) = decide (p = r ∧ q = s) by
      show (p == r && (q == s && true)) = _
      rw [Bool.and_true, Bool.eq_iff_iff]
      simp]
    exact k _ (s1.trans s2)⟩)
/-- t == (c, d), t a tuple of two ints -/
theorem ax_eqRT {p q r s : Int} {T : Addr} (ha : Vl ta σ H (.ref T)) (hT : SqT K H T [.int p, .int q]) (hb : Vl tb σ H (.int r)) (hc : Vl tc σ H (.int s)) :
    Ax (tTest (tOp (rEqD K) ta (tTup (tCons tb (tCons tc tNil))))) σ H (decide (p = r ∧ q = s)) := fun Q k =>
  ha _ (hb _ (hc _ ⟨by show 2 ≤ sizeLine; decide, fun S nS => by
    have s2 : Same H (upd H S (.tup [.int r, .int s])) := same_upd nS
    refine ⟨.tuple [.int p, .int q], .tuple [.int r, .int s], .tup (seqT s2 hT) (.cons (.int _) (.cons (.int _) .nil)), .tup (.of upd_same) (.cons (.int _) (.cons (.int _) .nil)), by rfl, by rfl, _, rfl, ?_⟩
    rw [show PyData.eqv (.tuple [.int p, .int q]) (.tuple [.int r, .int s]) = decide (p = r ∧ q = s) by
      show (p == r && (q == s && true)) = _
      rw [Bool.and_true, Bool.eq_iff_iff]
      simp]
    exact k _ s2⟩))
/-- (a, b) == t, t a tuple of two ints -/
theorem ax_eqTR {p q r s : Int} {T : Addr} (ha : Vl ta σ H (.int p)) (hb : Vl tb σ H (.int q)) (hc : ∀ H', Same H H' → Vl tc σ H' (.ref T)) (hT : SqT K H T [.int r, .int s]) :
    Ax (tTest (tOp (rEqD K) (tTup (tCons ta (tCons tb tNil))) tc)) σ H (decide (p = r ∧ q = s)) := fun Q k =>
  ha _ (hb _ ⟨by show 2 ≤ sizeLine; decide, fun S nS => by
    have s2 : Same H (upd H S (.tup [.int p, .int q])) := same_upd nS
    refine hc _ s2 _ ⟨.tuple [.int p, .int q], .tuple [.int r, .int s], .tup (.of upd_same) (.cons (.int _) (.cons (.int _) .nil)), .tup (seqT s2 hT) (.cons (.int _) (.cons (.int _) .nil)), by rfl, by rfl, _, rfl, ?_⟩
    rw [show PyData.eqv (.tuple [.int p, .int q]) (.tuple [.int r, .int s]) = decide (p = r ∧ q = s) by
      show (p == r && (q == s && true)) = _
      rw [Bool.and_true, Bool.eq_iff_iff]
      simp]
    exact k _ s2⟩)
/-- assignments of a new tuple -/
theorem q_asgTup {i : Nat} {tr : TA} {xs : List V} (h : Va tr σ H xs) (hz : xs.length ≤ sizeLine) (k : ∀ T, H T = none → tw D (σ.set i (some (.ref T))) (upd H T (.tup xs))) : tSeq (tAsg (tTup tr) (gName i)) tw D σ H := h _ ⟨hz, k⟩
theorem g_asgTup {i : Nat} {tr : TA} {xs : List V} (h : Va tr σ H xs) (hz : xs.length ≤ sizeLine) (k : ∀ T, H T = none → D.nx (σ.set i (some (.ref T))) (upd H T (.tup xs))) : tAsg (tTup tr) (gName i) D σ H := h _ ⟨hz, k⟩
end
/-! ### defs that may raise, by their names -/
structure KalX (P : Program) (w : World) (K : PySem.W.Frag) (mg : Str → Option Value) (base : Heap) (k : Nat) (x : Str) (ps : List Str) (sp : Sp) : Prop where
  ex : ∃ (f : Addr) (fd : FuncData), FnOk P w K mg base (L2.CX P w) k f fd ps sp ∧ mg x = some (.ref f) ∧ PySem.W.keepIn K (.ref f) = true ∧ Binds K fd ps []
theorem kalx_of {P : Program} {w : World} {K : PySem.W.Frag} {mg : Str → Option Value} {base : Heap} {k : Nat} {x : Str} {st : Stmt} {ps : List Str} {sp : Sp} (A : Df K mg x st ps)
    (ok : ∀ f fd, Fun K x x st f fd → FnOk P w K mg base (L2.CX P w) k f fd ps sp) : KalX P w K mg base k x ps sp := by
  obtain ⟨f, fd, F, g, b⟩ := A.ex
  exact ⟨f, fd, ok f fd F, g, F.kp, b⟩
/-- called in a def that may raise -/
theorem pe_kx {X : Cx} {k j : Nat} {x : Str} {ps : List Str} {sp : Sp} {p pos : Pos} {e : Expr} {es : List Expr} {t : TA} {E : XK} (c : KalX X.prog X.w X.K X.mg X.base k x ps sp) (hr : Room j X.A) (hk : k ≤ j) (hg : Gl X x) (tk : Takes X (fun cls d _ H => E cls d H)) (ha : PA X (e :: es) t)
    (hdb : (x == ("__debug__" : Str)) = false := by decide) (he : starEach (e :: es) X.env = (false, eval e X.env) :: starEach es X.env := by rfl) (hpl : (backTo pos (starEach es X.env)).any (·.1) = false := by rfl) :
    PE X (.Call (.Name x p) (e :: es) [] pos) (tCall sp [] E t) := by
  obtain ⟨f, fd, F, hm, kp, b⟩ := c.ex
  exact pe_call F (hr.mono hk) hg hm kp b .nil (passes_call tk fun _ _ _ _ h => h) ha hdb he hpl
/-- called within a try -/
theorem pe_ks {X : Cx} {k j : Nat} {x : Str} {ps : List Str} {sp : Sp} {p pos : Pos} {e : Expr} {es : List Expr} {t : TA} {W : WX} (c : KalX X.prog X.w X.K X.mg X.base k x ps sp) (hr : Room j X.A) (hk : k ≤ j) (hg : Gl X x) (tk : Takes X W) (ha : PA X (e :: es) t)
    (hdb : (x == ("__debug__" : Str)) = false := by decide) (he : starEach (e :: es) X.env = (false, eval e X.env) :: starEach es X.env := by rfl) (hpl : (backTo pos (starEach es X.env)).any (·.1) = false := by rfl) :
    PE X (.Call (.Name x p) (e :: es) [] pos) (tCallS sp (WE W) t) := by
  obtain ⟨f, fd, F, hm, kp, b⟩ := c.ex
  exact pe_callS F (hr.mono hk) hg hm kp b (fun σ => passAt tk σ) ha hdb he hpl
/-! ### for link in links -/
section
variable {K : PySem.W.Frag} {σ : L2.St} {H : Hp} {a : Addr} {D : Ends} {tz tw : TS}
theorem g_forLk {j : Nat} {Hb : Hp} {xs : List V} {ls : List Lnk} {tl : TE} (h : Vl tl σ H (.ref a)) (hx : SqL K Hb a xs) (hL : DpAll K Hb xs (ls.map lnkD)) (hb : Same Hb H) (Pv : Nat → L2.St → Hp → Prop) (h0 : Pv 0 σ H) (hl : ∀ i σ' H', Pv i σ' H' → Same Hb H')
    (hs : ∀ (i : Nat) l t σ H, ls[i]? = some l → SqT K Hb t (lnkV l) → Pv i σ H → tz { D with nx := Pv (i + 1), ct := Pv (i + 1), bk := D.nx } (σ.set j (some (.ref t))) H) (hd : ∀ σ H, Pv ls.length σ H → D.nx σ H) :
    tFor (iList K tl) (gName j) tz D σ H := h _ ⟨a, rfl, ⟨_, hb.seq hx⟩, for_list (xs := xs) Pv h0 (fun i σ H _ p => (hl i σ H p).seq hx) (fun i x σ H hi p => by
      have e := DpAll.len hL
      rw [List.length_map] at e
      have hlt := (List.getElem?_eq_some_iff.mp hi).1
      have hg : ls[i]? = some ls[i] := List.getElem?_eq_getElem (by omega)
      obtain ⟨v, hv, dv⟩ := DpAll.get (i := i) (d := lnkD ls[i]) hL (by
        rw [List.getElem?_map, hg]
        rfl)
      cases hi.symm.trans hv
      obtain ⟨t, rfl, ht⟩ := Dp.lnk_inv dv
      exact hs i _ t σ H hg ht p) (fun σ H p => by
      have e := DpAll.len hL
      rw [List.length_map] at e
      rw [e] at p
      exact hd σ H p)⟩
theorem q_forLk {j : Nat} {Hb : Hp} {xs : List V} {ls : List Lnk} {tl : TE} (h : Vl tl σ H (.ref a)) (hx : SqL K Hb a xs) (hL : DpAll K Hb xs (ls.map lnkD)) (hb : Same Hb H) (Pv : Nat → L2.St → Hp → Prop) (h0 : Pv 0 σ H) (hl : ∀ i σ' H', Pv i σ' H' → Same Hb H')
    (hs : ∀ (i : Nat) l t σ H, ls[i]? = some l → SqT K Hb t (lnkV l) → Pv i σ H → tz { D with nx := Pv (i + 1), ct := Pv (i + 1), bk := tw D } (σ.set j (some (.ref t))) H) (hd : ∀ σ H, Pv ls.length σ H → tw D σ H) :
    tSeq (tFor (iList K tl) (gName j) tz) tw D σ H := g_forLk (D := { D with nx := tw D }) h hx hL hb Pv h0 hl hs hd
/-- a, b, c, d = e, a link -/
theorem q_asgLnk {j1 j2 j3 j4 : Nat} {te : TE} {t : Addr} {l : Lnk} (h : Vl te σ H (.ref t)) (ht : SqT K H t (lnkV l)) (k : tw D ((((σ.set j1 (some (.int l.a))).set j2 (some (.int l.b))).set j3 (some (oV l.t))).set j4 (some (oV l.k))) H) :
    tSeq (tAsg te (gTup K 4 (gCons (gName j1) (gCons (gName j2) (gCons (gName j3) (gCons (gName j4) gNil)))))) tw D σ H := h _ ⟨t, _, rfl, ht, rfl, _, _, rfl, _, _, rfl, _, _, rfl, _, _, rfl, rfl, k⟩
/-- a tuple made in one of two ways -/
theorem if_tup {t : TT} {r1 r2 : TA} {b : Bool} {x1 x2 zs : List V} {Q : VK} (h : An t σ H b) (h1 : Va r1 σ H x1) (h2 : Va r2 σ H x2) (e1 : b = true → x1 = zs) (e2 : b = false → x2 = zs) (hz : zs.length ≤ sizeLine)
    (k : ∀ T, H T = none → Q (.ref T) (upd H T (.tup zs))) : tIf t (tTup r1) (tTup r2) σ H Q := h _ (by
  cases b with
  | true =>
    cases e1 rfl
    exact iteT (h1 _ ⟨hz, k⟩)
  | false =>
    cases e2 rfl
    exact iteF (h2 _ ⟨hz, k⟩))
end
/-! ### errors that leave a def -/
def RaiseTo (E : XK) (H : Hp) (C : Addr) (i : Int) : Prop := ∀ H' d, Same H H' → H' d = some (.xd [("at", .int i)]) → E (.ref C) (some d) H'
theorem RaiseTo.to {E : XK} {H H' : Hp} {C : Addr} {i : Int} (h : RaiseTo E H C i) (s : Same H H') : RaiseTo E H' C i := fun H2 d s2 hd => h H2 d (s.trans s2) hd
theorem raise_now {E : XK} {C : Addr} {i : Int} {ta : TA} {σ : L2.St} {H : Hp} {D : Ends} (h : Va ta σ H [.int i]) (r : RaiseTo E H C i) : tRaiseLow C (fun cls d _ H => E cls d H) ta D σ H := h _ ⟨_, rfl, fun d nd => r _ d (same_upd nd) upd_same⟩
/-- for i, x in enumerate(xs) -/
theorem for_en {K : PySem.W.Frag} {a : Addr} {xs : List V} {g : TG} {tb : TS} {D : Ends} {σ : L2.St} {H : Hp} (Pv : Nat → L2.St → Hp → Prop) (h0 : Pv 0 σ H) (hq : ∀ i σ H, Pv i σ H → SqL K H a xs)
    (hs : ∀ (i : Nat) x T σ H, xs[i]? = some x → Pv i σ H → H T = none → g (.ref T) σ (upd H T (.tup [.int (i : Nat), x])) fun σ2 H2 => tb { D with nx := Pv (i + 1), ct := Pv (i + 1), bk := D.nx } σ2 H2) (hd : ∀ σ H, Pv xs.length σ H → D.nx σ H) :
    ∃ W : Nat → Nat → L2.St → Hp → Prop, (∃ m, W 0 m σ H) ∧ ∀ i m σ H, W i m σ H → ((Ite K a).stop i H ∧ D.nx σ H) ∨
      ((Ite K a).go i H ∧ ∃ N : L2.St → Hp → Prop, (∀ σ' H', N σ' H' → ∃ m', m' < m ∧ W (i + 1) m' σ' H') ∧ ∀ v H', (Ite K a).yld i H v H' → g v σ H' fun σ2 H2 => tb { D with nx := N, ct := N, bk := D.nx } σ2 H2) := by
  refine ⟨fun i m σ H => m + i = xs.length ∧ Pv i σ H, ⟨xs.length, rfl, h0⟩, fun i m σ H hW => ?_⟩
  obtain ⟨em, p⟩ := hW
  have qx := hq i σ H p
  by_cases hlt : i < xs.length
  · refine .inr ⟨⟨xs, xs[i], qx, List.getElem?_eq_getElem hlt⟩, Pv (i + 1), fun σ' H' p' => ⟨m - 1, by omega, by omega, p'⟩, fun v H' yy => ?_⟩
    obtain ⟨T, x', rfl, hT, rfl, f1⟩ := yy
    exact hs i x' T σ H (f1 xs qx) p hT
  · have e : i = xs.length := by omega
    rw [e] at p
    exact .inl ⟨⟨xs, qx, by omega⟩, hd σ H p⟩
theorem take_snoc {α : Type} {xs : List α} {i : Nat} {x : α} (h : xs[i]? = some x) : xs.take (i + 1) = xs.take i ++ [x] := by
  rw [List.take_add_one, h]
  rfl
theorem vl_orV {K : PySem.W.Frag} {σ : L2.St} {H : Hp} {ta tb : TE} {k m : Bool} (h1 : Vl ta σ H (.bl k)) (h2 : k = false → Vl tb σ H (.bl m)) : Vl (tOrV ta tb) σ H (.bl (k || m)) := fun Q q => h1 _ ⟨k, rfl, by
  cases k with
  | true => exact iteT q
  | false => exact iteF (h2 rfl _ q)⟩
/-! ### values with a heap that grows on the way -/
def Ve (te : TE) (σ : L2.St) (H : Hp) (v : V) : Prop := ∀ Q : VK, (∀ H', Same H H' → Q v H') → te σ H Q
section
variable {K : PySem.W.Frag} {σ : L2.St} {H : Hp} {ta tb te tl t0 t1 t2 t3 : TE} {D : Ends} {tw : TS} {v x y z : V} {tt : TT}
theorem ve_of (h : Vl te σ H v) : Ve te σ H v := fun Q q => h Q (q H (Same.refl H))
theorem Ve.is {w : V} (h : Ve te σ H v) (e : v = w) : Ve te σ H w := e ▸ h
theorem q_asgV {i : Nat} (h : Ve te σ H v) (k : ∀ H', Same H H' → tw D (σ.set i (some v)) H') : tSeq (tAsg te (gName i)) tw D σ H := h _ k
theorem g_asgV {i : Nat} (h : Ve te σ H v) (k : ∀ H', Same H H' → D.nx (σ.set i (some v)) H') : tAsg te (gName i) D σ H := h _ k
theorem g_retV (h : Ve te σ H v) (k : ∀ H', Same H H' → D.rt v H') : tRet te D σ H := h _ k
theorem ve_ixNew {xs : List V} {p : Int} (ha : Vn ta σ H xs) (hb : ∀ H', Same H H' → Vl tb σ H' (.int p)) (hg : atI xs p = some z) : Ve (tOp (rIxL K) ta tb) σ H z := fun Q k =>
  ha _ fun a H1 s1 np e => hb H1 s1 _ ⟨a, xs, p, z, rfl, rfl, .of e, hg, k H1 s1⟩
theorem vn_lc {j : Nat} {xs ys : List V} (hl : ∀ Q : VK, (∀ a H1, Same H H1 → SqL K H1 a xs → Q (.ref a) H1) → tl σ H Q) (hxy : xs.length = ys.length) (hz : ys.length ≤ 1000000)
    (he : ∀ (i : Nat) x y H', Same H H' → xs[i]? = some x → ys[i]? = some y → Ve te ((σ.set j none).set j (some x)) H' y) : Vn (tLc (iList K tl) (gName j) tYes te [j]) σ H ys := fun Q q => by
  refine hl _ fun a H1 s1 hx => ⟨a, rfl, ⟨xs, hx⟩, fun D nD => lc_list (xs := xs) (fun i H' => H' D = some (.lst (ys.take i)) ∧ Same H1 H') ⟨upd_same, same_upd nD⟩ (fun i H' _ hP => hP.2.seq hx) (fun i x H2 hi hP => ?_) (fun H2 hP => ?_)⟩
  · obtain ⟨hD, s2⟩ := hP
    have hi2 := (List.getElem?_eq_some_iff.mp hi).1
    have hy : ys[i]? = some ys[i] := List.getElem?_eq_getElem (by omega)
    refine ⟨?_, ?_⟩
    · show ((σ.set j none).set j (some x)).set j none = σ.set j none
      rw [List.set_set, List.set_set]
    · refine iteT (B := H2 D = some (.lst (ys.take (i + 1))) ∧ Same H1 H2) (he i x _ H2 (s1.trans s2) hi hy _ fun H3 s3 => ⟨_, s3 _ _ hD, ?_, ?_, ?_⟩)
      · exact Nat.lt_of_le_of_lt (m := 1000000) (Nat.le_trans (by rw [List.length_take]; exact Nat.min_le_right _ _) hz) (by decide)
      · rw [upd_same, take_snoc hy]
      · exact same_upd' (s2.trans s3) nD
  · obtain ⟨hD, s2⟩ := hP
    rw [hxy, List.take_length] at hD
    exact q D H2 (s1.trans s2) (Same.free s1 nD) hD
theorem vx_list {a : Addr} {xs : List V} (h : Vl tl σ H (.ref a)) (hx : SqL K H a xs) : ∀ Q : VK, (∀ a H1, Same H H1 → SqL K H1 a xs → Q (.ref a) H1) → tl σ H Q := fun Q q => h _ (q a H (Same.refl H) hx)
theorem vx_new {xs : List V} (h : Vn tl σ H xs) : ∀ Q : VK, (∀ a H1, Same H H1 → SqL K H1 a xs → Q (.ref a) H1) → tl σ H Q := fun Q q => h _ fun a H1 s1 _ e => q a H1 s1 (.of e)
end
section
variable {K : PySem.W.Frag} {σ : L2.St} {H : Hp} {te : TE} {D : Ends} {tz tw : TS} {P : Int → Prop}
theorem q_forRI {j : Nat} (h : Vi te σ H P) (hb : ∀ n, P n → -(2 ^ 62) ≤ n ∧ n < 2 ^ 62) (Pv : Nat → L2.St → Hp → Prop) (h0 : Pv 0 σ H)
    (hs : ∀ n, P n → ∀ (i : Nat) σ H, (i : Int) < n → Pv i σ H → tz { D with nx := Pv (i + 1), ct := Pv (i + 1), bk := tw D } (σ.set j (some (.int i))) H) (hd : ∀ n, P n → ∀ σ H, Pv n.toNat σ H → tw D σ H) :
    tSeq (tFor (iRng1 (tCons te tNil)) (gName j) tz) tw D σ H := h _ fun n hn => ⟨n, rfl, (hb n hn).1, (hb n hn).2, for_range (lo := 0) (n := n.toNat) Pv h0 (fun i σ H hi p => by
      show tz _ (σ.set j (some (.int (0 + i)))) H
      rw [Int.zero_add]
      exact hs n hn i σ H (by omega) p) (hd n hn)⟩
end
section
variable {K : PySem.W.Frag} {σ : L2.St} {H : Hp} {ta tb te tl t0 t1 t2 t3 : TE} {D : Ends} {tw : TS} {v x y z : V} {tt : TT}
theorem g_appV {l : Addr} {xs : List V} (ho : Vl ta σ H (.ref l)) (hl : H l = some (.lst xs)) (h : Ve te σ H v) (hz : xs.length < sizeLine) (k : ∀ H', Same H H' → D.nx σ (upd H' l (.lst (xs ++ [v])))) :
    tDrop (tBM K "list" rAppend ta (tCons te tNil)) D σ H := ho _ ⟨.inl ⟨rfl, _, .inl (.inl hl)⟩, h _ fun H' s' => ⟨l, xs, v, rfl, rfl, s' _ _ hl, hz, k H' s'⟩⟩
theorem lc_filter {j : Nat} {xs : List V} {pb : V → Bool} (hj : j < σ.length) (hl : ∀ Q : VK, (∀ a H1, Same H H1 → SqL K H1 a xs → Q (.ref a) H1) → tl σ H Q) (hz : xs.length ≤ 1000000)
    (ht : ∀ x ∈ xs, ∀ H', An tt ((σ.set j none).set j (some x)) H' (pb x)) (Q : VK) (q : ∀ D H' acc, Same H H' → H' D = some (.lst acc) → acc.length = (xs.filter pb).length → Q (.ref D) H') : tLc (iList K tl) (gName j) tt (tVar j) [j] σ H Q := by
  refine hl _ fun a H1 s1 hx => ⟨a, rfl, ⟨xs, hx⟩, fun D nD => lc_list (xs := xs) (fun i H' => ∃ acc, H' D = some (.lst acc) ∧ Same H1 H' ∧ acc.length = ((xs.take i).filter pb).length) ⟨[], upd_same, same_upd nD, rfl⟩ (fun i H' _ hP => hP.choose_spec.2.1.seq hx) (fun i x H2 hi hP => ?_) (fun H2 hP => ?_)⟩
  · obtain ⟨acc, hD, s2, ha⟩ := hP
    have e : (xs.take (i + 1)).filter pb = (xs.take i).filter pb ++ [x].filter pb := by
      rw [take_snoc hi]
      exact List.filter_append ..
    refine ⟨?_, ht x (List.mem_of_getElem? hi) H2 _ ?_⟩
    · show ((σ.set j none).set j (some x)).set j none = σ.set j none
      rw [List.set_set, List.set_set]
    · cases hp : pb x with
      | true =>
        have e2 : [x].filter pb = [x] := by
          rw [List.filter_cons, hp]
          rfl
        refine iteT ⟨x, ?_, acc, hD, ?_, _, upd_same, same_upd' s2 nD, ?_⟩
        · exact List.getElem?_set_self (by
            show j < (σ.set j none).length
            rw [List.length_set]
            exact hj)
        · have h1 : ((xs.take i).filter pb).length ≤ xs.length := Nat.le_trans (List.length_filter_le _ _) (by rw [List.length_take]; exact Nat.min_le_right _ _)
          exact Nat.lt_of_le_of_lt (m := 1000000) (by omega) (by decide)
        · rw [e, e2, List.length_append, List.length_append, ha]
      | false =>
        have e2 : [x].filter pb = [] := by
          rw [List.filter_cons, hp]
          rfl
        refine iteF ⟨acc, hD, s2, ?_⟩
        rw [e, e2, List.append_nil]
        exact ha
  · obtain ⟨acc, hD, s2, ha⟩ := hP
    rw [List.take_length] at ha
    exact q D H2 acc (s1.trans s2) hD ha
theorem vl_inL {a : Addr} {xs : List V} (h : Vl te σ H (.ref a)) (hx : SqL K H a xs) (f1 : flatV x = true) (f2 : xs.all flatV = true) : Vl (tOp (rIn K false) (tC x) te) σ H (.bl (inV x xs)) := vl_op vl_c h fun _ k => ⟨a, xs, rfl, .inl hx, f1, f2, k⟩
theorem flat_o (o : Option Int) : flatV (oV o) = true := by cases o <;> rfl
theorem ax_leLT {a T : Addr} {p q r s : Int} (h : Vl te σ H (.ref a)) (hx : SqL K H a [.int p, .int q]) (hb : ∀ H', Same H H' → Vl tb σ H' (.ref T)) (hT : SqT K H T [.int r, .int s]) :
    Ax (tTest (tOp (rLeT K) (tCB (fun xs H Q => ∃ p ys, xs = [V.ref p] ∧ ((SqL K H p ys ∧ ∀ l, H l = none → Q (.ref l) (upd H l (.tup ys))) ∨ (SqT K H p ys ∧ Q (.ref p) H))) (tCons te tNil)) tb)) σ H (decide (p < r ∨ (p = r ∧ q ≤ s))) := fun Q k =>
  h _ ⟨a, _, rfl, .inl ⟨hx, fun S nS => hb _ (same_upd nS) _ ⟨S, T, [p, q], [r, s], rfl, rfl, .of upd_same, seqT (same_upd nS) hT, _, rfl, by
    rw [lexAt2]
    exact k _ (same_upd nS)⟩⟩⟩
theorem ve_tup4 {v0 v1 v2 v3 : V} (h0 : Ve t0 σ H v0) (h1 : ∀ H', Same H H' → Ve t1 σ H' v1) (h2 : ∀ H', Same H H' → Ve t2 σ H' v2) (h3 : ∀ H', Same H H' → Ve t3 σ H' v3) (Q : VK) (q : ∀ R H', Same H H' → H' R = some (.tup [v0, v1, v2, v3]) → Q (.ref R) H') :
    tTup (tCons t0 (tCons t1 (tCons t2 (tCons t3 tNil)))) σ H Q := h0 _ fun H1 s1 => h1 H1 s1 _ fun H2 s2 => h2 H2 (s1.trans s2) _ fun H3 s3 => h3 H3 ((s1.trans s2).trans s3) _ fun H4 s4 => ⟨by show 4 ≤ sizeLine; decide, fun R nR => q R _ ((((s1.trans s2).trans s3).trans s4).trans (same_upd nR)) upd_same⟩
end
theorem ret_pairE {te : TE} {x : Str} {D : Ends} {σ : L2.St} {H : Hp} (h : te σ H fun v H1 => [V.str x, v].length ≤ sizeLine ∧ ∀ p, H1 p = none → D.rt (.ref p) (upd H1 p (.tup [.str x, v]))) : tRet (tTup (tCons (tC (.str x)) (tCons te tNil))) D σ H := h
theorem nx_of {f : L2.St → Hp → Prop} {a b c} {σ : L2.St} {H : Hp} (h : f σ H) : (Ends.mk f a b c).nx σ H := h
theorem ax_isNV {σ : L2.St} {H : Hp} {te : TE} {v : V} (h : Ve te σ H v) : Ax (tTest (tOp (fun x y H Q => y = V.non ∧ Q (V.bl (decide (x = V.non))) H) te (tC .non))) σ H (decide (v = .non)) := fun Q k => h _ fun H' s' => ⟨rfl, _, rfl, k H' s'⟩
theorem last_get {α : Type} {l : List α} {d : α} (h : l ≠ []) : l[l.length - 1]? = some (l.getLast?.getD d) := by
  rw [List.getLast?_eq_getElem?]
  have : l.length - 1 < l.length := by
    have := List.length_pos_iff.mpr h
    omega
  rw [List.getElem?_eq_getElem this]
  rfl
theorem seqT_but {K : PySem.W.Frag} {H : Hp} {o R : Addr} {ys zs : List V} (h : SqT K H R zs) (ho : H o = some (.lst ys)) : SqT K (but H o) R zs := by
  rcases h with (h | ⟨u, h⟩) | h
  · have ne : R ≠ o := fun z => by
      rw [z, ho] at h
      cases h
    exact .inl (.inl (by rw [but_ne ne]; exact h))
  · have ne : R ≠ o := fun z => by
      rw [z, ho] at h
      cases h
    exact .inl (.inr ⟨u, by rw [but_ne ne]; exact h⟩)
  · exact .inr h
theorem vl_byLow {C a d : Addr} {te : TE} {σ : L2.St} {H : Hp} {v : V} (h : Vl te σ H (.ref a)) (hd : H d = some (.xd [("at", v)])) : Vl (tByLow C a (.ref C) (some d) te) σ H v := fun Q q => h _ ⟨rfl, rfl, d, v, rfl, hd, q⟩
def pairD (x : Str) (d : PyData) : PyData := .tuple [.str x, d]
theorem ret_pair {K : PySem.W.Frag} {σ : L2.St} {H : Hp} {D : Ends} {te : TE} {x : Str} {v : V} {d : PyData} (h : Vl te σ H v) (hd : Dp K H v d) (k : ∀ p H', Same H H' → Dp K H' (.ref p) (pairD x d) → D.rt (.ref p) H') :
    tRet (tTup (tCons (tC (.str x)) (tCons te tNil))) D σ H := h _ ⟨by show 2 ≤ sizeLine; decide, fun p np => k p _ (same_upd np) (.tup (.of upd_same) (.cons (.str x) (.cons (Dp.to hd (same_upd np)) .nil)))⟩
structure Apart (K : PySem.W.Frag) (C C' : Addr) : Prop where
  no : PySem.W.exmOne K (.ref C) (.ref C') = some false
structure NmAt (mg : Str → Option Value) (x : Str) (C : Addr) : Prop where
  gC : mg x = some (.ref C)
theorem lay_net (N : Net) : (netD N).canLay0 = true ∧ (netD N).depth ≤ 3 := by
  have h := lay_lnks N.ls
  constructor
  · show (true && (PyData.canLayAll0 (N.ls.map lnkD) && true)) = true
    rw [h.1]
    rfl
  · show max 0 (max (PyData.depthAll (N.ls.map lnkD) + 1) 0) + 1 ≤ 3
    have := h.2
    omega
theorem shaped_pair {x : Str} {d : PyData} (hx : PyData.canLay0 (.str x) = true) (h : d.canLay0 = true) (h2 : d.depth ≤ 3) : SeqAt.shaped (pairD x d) = true := by
  show ((PyData.canLay0 (.str x) && (d.canLay0 && true)) && decide (max 0 (max d.depth 0) + 1 ≤ 64)) = true
  rw [hx, h, decide_eq_true (by omega)]
  rfl
theorem refl_of {d : PyData} (h : SeqAt.shaped d = true) : PyData.eqv d d = true := SeqAt.eqv_refl _ (Bool.and_eq_true_iff.mp h).1
theorem ax_ne {K : PySem.W.Frag} {σ : L2.St} {H : Hp} {te te2 : TE} {d : PyData} (hd : SeqAt.shaped d = true) (h1 : ∀ Q : VK, (∀ v H', Same H H' → Dp K H' v d → Q v H') → te σ H Q) (h2 : ∀ H', Same H H' → ∀ Q : VK, (∀ v H2, Same H' H2 → Dp K H2 v d → Q v H2) → te2 σ H' Q) :
    Ax (tTest (tOp (rNeD K) te te2)) σ H false := fun Q k => h1 _ fun v H1 s1 d1 => h2 H1 s1 _ fun u H2 s2 d2 => ⟨d, d, Dp.to d1 s2, d2, hd, hd, _, rfl, by
  rw [refl_of hd]
  exact k H2 (s1.trans s2)⟩
theorem ax_neV {σ : L2.St} {H : Hp} {ta tb : TE} {x y : V} (ha : Vl ta σ H x) (hb : Ve tb σ H y) (hs : scal x y = true) : Ax (tTest (tOp rNe ta tb)) σ H (!decide (x = y)) := fun Q k => ha _ (hb _ fun H' s' => ⟨hs, _, rfl, k H' s'⟩)
theorem lay_ints : ∀ ns : List Int, PyData.canLayAll0 (ns.map PyData.int) = true ∧ PyData.depthAll (ns.map PyData.int) = 0
  | [] => ⟨rfl, rfl⟩
  | n :: ns => by
    have h := lay_ints ns
    constructor
    · show (true && PyData.canLayAll0 (ns.map PyData.int)) = true
      rw [h.1]
      rfl
    · show max 0 (PyData.depthAll (ns.map PyData.int)) = 0
      rw [h.2]
      rfl
theorem shaped_ints (ns : List Int) : SeqAt.shaped (.list (ns.map PyData.int)) = true := by
  have h := lay_ints ns
  show (PyData.canLayAll0 (ns.map PyData.int) && decide (PyData.depthAll (ns.map PyData.int) + 1 ≤ 64)) = true
  rw [h.1, h.2]
  rfl
/-! ### heaps with two objects that change -/
def B2 (H : Hp) (o q : Addr) : Hp := but (but H o) q
theorem b2_same {H : Hp} {o q : Addr} : Same (B2 H o q) H := but_same.trans but_same
theorem same_b2 {G H : Hp} {o q : Addr} (s : Same G H) (n : G o = none) (m : G q = none) : Same G (B2 H o q) := same_but (same_but s n) m
theorem b2_mono {H H' : Hp} {o q : Addr} (s : Same H H') : Same (B2 H o q) (B2 H' o q) := but_mono (but_mono s)
theorem b2_upd1 {H : Hp} {o q : Addr} {u : HO} : B2 (upd H o u) o q = B2 H o q := by
  unfold B2
  rw [but_upd]
theorem b2_upd2 {H : Hp} {o q : Addr} {u : HO} : B2 (upd H q u) o q = B2 H o q := by
  funext b
  unfold B2
  by_cases h : b = q
  · rw [h, but_at, but_at]
  · rw [but_ne h, but_ne h]
    by_cases h2 : b = o
    · rw [h2, but_at, but_at]
    · rw [but_ne h2, but_ne h2, upd_ne h]
theorem b2_get {H : Hp} {o q a : Addr} {u : HO} (h : H a = some u) (h1 : a ≠ o) (h2 : a ≠ q) : B2 H o q a = some u := by
  unfold B2
  rw [but_ne h2, but_ne h1]
  exact h
/-! ### comprehensions over ints -/
section
variable {K : PySem.W.Frag} {σ : L2.St} {H : Hp} {ta tb te tl td ty tv : TE} {tr : TA} {D : Ends} {tw : TS} {tt : TT} {v : V}
theorem an_yes : An tYes σ H true := fun _ q => q
theorem vn_lcI {j : Nat} {ns : List Int} {pb : Int → Bool} {f : Int → V} (hl : ∀ Q : VK, (∀ a H1, Same H H1 → SqL K H1 a (ns.map V.int) → Q (.ref a) H1) → tl σ H Q) (hz : ns.length ≤ 1000000)
    (ht : ∀ x ∈ ns, ∀ H', Same H H' → An tt ((σ.set j none).set j (some (.int x))) H' (pb x)) (he : ∀ x ∈ ns, ∀ H', Same H H' → Vl te ((σ.set j none).set j (some (.int x))) H' (f x)) :
    Vn (tLc (iList K tl) (gName j) tt te [j]) σ H ((ns.filter pb).map f) := fun Q q => by
  refine hl _ fun a H1 s1 hx => ⟨a, rfl, ⟨_, hx⟩, fun D nD => lc_list (xs := ns.map V.int) (fun i H' => H' D = some (.lst (((ns.take i).filter pb).map f)) ∧ Same H1 H') ⟨upd_same, same_upd nD⟩ (fun i H' _ hP => hP.2.seq hx) (fun i x H2 hi hP => ?_) (fun H2 hP => ?_)⟩
  · obtain ⟨hD, s2⟩ := hP
    rw [List.getElem?_map] at hi
    cases hg : ns[i]? with
    | none =>
      rw [hg] at hi
      cases hi
    | some n =>
      rw [hg] at hi
      cases hi
      have hm := List.mem_of_getElem? hg
      have e : (ns.take (i + 1)).filter pb = (ns.take i).filter pb ++ [n].filter pb := by
        rw [take_snoc hg]
        exact List.filter_append ..
      refine ⟨?_, ht n hm H2 (s1.trans s2) _ ?_⟩
      · show ((σ.set j none).set j (some (V.int n))).set j none = σ.set j none
        rw [List.set_set, List.set_set]
      · cases hp : pb n with
        | true =>
          have e2 : [n].filter pb = [n] := by
            rw [List.filter_cons, hp]
            rfl
          refine iteT (B := H2 D = some (.lst (((ns.take (i + 1)).filter pb).map f)) ∧ Same H1 H2) (he n hm H2 (s1.trans s2) _ ⟨_, hD, ?_, ?_, same_upd' s2 nD⟩)
          · rw [List.length_map]
            have h1 : ((ns.take i).filter pb).length ≤ ns.length := Nat.le_trans (List.length_filter_le _ _) (by rw [List.length_take]; exact Nat.min_le_right _ _)
            exact Nat.lt_of_le_of_lt (m := 1000000) (by omega) (by decide)
          · rw [upd_same, e, e2, List.map_append]
            rfl
        | false =>
          have e2 : [n].filter pb = [] := by
            rw [List.filter_cons, hp]
            rfl
          refine iteF ⟨?_, s2⟩
          rw [e, e2, List.append_nil]
          exact hD
  · obtain ⟨hD, s2⟩ := hP
    rw [List.length_map, List.take_length] at hD
    exact q D H2 (s1.trans s2) (Same.free s1 nD) hD
theorem vn_lcR {j : Nat} {n : Int} {pb : Int → Bool} {f : Int → V} (hl : Va tr σ H [.int n]) (h0 : 0 ≤ n) (hz : n ≤ 1000000)
    (ht : ∀ x : Int, 0 ≤ x → x < n → ∀ H', Same H H' → An tt ((σ.set j none).set j (some (.int x))) H' (pb x)) (he : ∀ x : Int, 0 ≤ x → x < n → ∀ H', Same H H' → Vl te ((σ.set j none).set j (some (.int x))) H' (f x)) :
    Vn (tLc (iRng1 tr) (gName j) tt te [j]) σ H (((((List.range n.toNat).map fun (i : Nat) => (i : Int))).filter pb).map f) := fun Q q => by
  refine hl _ ⟨n, rfl, by omega, by omega, fun D nD => lc_range (lo := 0) (n := n.toNat) (fun i H' => H' D = some (.lst ((((List.range i).map fun (i : Nat) => (i : Int)).filter pb).map f)) ∧ Same H H') ⟨upd_same, same_upd nD⟩ (fun i H2 hi hP => ?_) (fun H2 hP => ?_)⟩
  · obtain ⟨hD, s2⟩ := hP
    have e : (((List.range (i + 1)).map fun (i : Nat) => (i : Int)).filter pb) = ((List.range i).map fun (i : Nat) => (i : Int)).filter pb ++ [(i : Int)].filter pb := by
      rw [List.range_succ, List.map_append]
      exact List.filter_append ..
    rw [Int.zero_add]
    refine ⟨?_, ht i (by omega) (by omega) H2 s2 _ ?_⟩
    · show ((σ.set j none).set j (some (V.int i))).set j none = σ.set j none
      rw [List.set_set, List.set_set]
    · cases hp : pb (i : Int) with
      | true =>
        have e2 : [(i : Int)].filter pb = [(i : Int)] := by
          rw [List.filter_cons, hp]
          rfl
        refine iteT (B := H2 D = some (.lst ((((List.range (i + 1)).map fun (i : Nat) => (i : Int)).filter pb).map f)) ∧ Same H H2) (he i (by omega) (by omega) H2 s2 _ ⟨_, hD, ?_, ?_, same_upd' s2 nD⟩)
        · rw [List.length_map]
          have h1 : (((List.range i).map fun (i : Nat) => (i : Int)).filter pb).length ≤ i := Nat.le_trans (List.length_filter_le _ _) (by rw [List.length_map, List.length_range]; exact Nat.le_refl _)
          exact Nat.lt_of_le_of_lt (m := 1000000) (by omega) (by decide)
        · rw [upd_same, e, e2, List.map_append]
          rfl
      | false =>
        have e2 : [(i : Int)].filter pb = [] := by
          rw [List.filter_cons, hp]
          rfl
        refine iteF ⟨?_, s2⟩
        rw [e, e2, List.append_nil]
        exact hD
  · obtain ⟨hD, s2⟩ := hP
    exact q D H2 s2 nD hD
/-! ### dicts by ints -/
theorem vl_dgetI {o : Addr} {p : Int} {kvs : List (Key × V)} (ho : Vl td σ H (.ref o)) (hk : Vl ty σ H (.int p)) (hd : H o = some (.dK kvs)) (hv : valV kvs (.inl p) = some v) : Vl (tDGet td ty) σ H v := fun Q q => ho _ (hk _ ⟨o, v, rfl, by
  rw [← hv]
  exact DGet.k (k := .inl p) hd, q⟩)
theorem q_dnewK {i : Nat} (k : ∀ p, H p = none → tw D (σ.set i (some (.ref p))) (upd H p (.dK []))) : tSeq (tAsg tDNewK (gName i)) tw D σ H := k
theorem g_dputN {o : Addr} {p : Int} {kvs : List (Key × V)} {xs : List V} (hv : Vn tv σ H xs) (ho : ∀ H', Same H H' → Vl td σ H' (.ref o)) (hk : ∀ H', Same H H' → Vl ty σ H' (.int p)) (hd : H o = some (.dK kvs)) (hl : kvs.length < sizeLine)
    (k : ∀ a H', Same H H' → H a = none → H' a = some (.lst xs) → D.nx σ (upd H' o (.dK (putK kvs (.inl p) (.ref a))))) : sDPut td ty tv D σ H := hv _ fun a H' s' na ea => ho H' s' _ (hk H' s' _ ⟨o, _, rfl, DPut.k (k := .inl p) (s' _ _ hd) hl, k a H' s' na ea⟩)
theorem g_dputV {o : Addr} {p : Int} {kvs : List (Key × V)} (hv : Vl tv σ H v) (ho : Vl td σ H (.ref o)) (hk : Vl ty σ H (.int p)) (hd : H o = some (.dK kvs)) (hl : kvs.length < sizeLine)
    (k : D.nx σ (upd H o (.dK (putK kvs (.inl p) v)))) : sDPut td ty tv D σ H := hv _ (ho _ (hk _ ⟨o, _, rfl, DPut.k (k := .inl p) hd hl, k⟩))
end
theorem hu_of {k : Nat} {A : Around} (r : Room k A) : A.units + 1 < cLine := by
  have := r.units
  omega
theorem dI {i j : Int} : decide (V.int i = V.int j) = decide (i = j) := by
  rw [Bool.eq_iff_iff, decide_eq_true_eq, decide_eq_true_eq]
  exact ⟨fun z => V.int.inj z, fun z => by rw [z]⟩
theorem vn_catV {K : PySem.W.Frag} {σ : L2.St} {H : Hp} {ta tb : TE} {a : Addr} {xs ys : List V} (ha : Vn ta σ H xs) (hb : ∀ H', Same H H' → Vl tb σ H' (.ref a)) (hA : H a = some (.lst ys)) (hz : xs.length + ys.length ≤ sizeLine) : Vn (tOp rCat ta tb) σ H (xs ++ ys) := fun Q q => ha _ fun p H1 s1 np hp => hb H1 s1 _
  ⟨p, a, xs, ys, rfl, rfl, hp, s1 _ _ hA, hz, fun t nt => q t _ (s1.trans (same_upd nt)) (Same.free s1 nt) upd_same⟩
theorem putK_len {κ : Type} [DecidableEq κ] {kvs : List (κ × V)} {k : κ} {v : V} (h : (valV kvs k).isSome = true) : (putK kvs k v).length = kvs.length := by
  unfold putK
  rw [valV_any, if_pos h, List.length_map]
/-! ### a law's own def, called from without: nothing is being shown there -/
structure FnG (P : Program) (w : World) (K : PySem.W.Frag) (mg : Str → Option Value) (base : Heap) (f : Addr) (fd : FuncData) (ps : List Str) (sp : Sp) : Prop where
  go : ∀ (s : Shared) (H : Hp) (us : List Value) (vs : List V) (Q : VK) (E : XK), Env0 P w K mg base callerA [] s H → BindsTo s fd ⟨us, []⟩ (ps.zip us) → Vals vs us → sp vs H Q E → codeAny (model P w) callerA (.call (.ref f) ⟨us, []⟩) (CR CX0 [] P w H s Q E) s
section
variable {P : Program} {w : World} {K : PySem.W.Frag} {mg : Str → Option Value} {base : Heap}
theorem okG {x qual : Str} {st : Stmt} {f : Addr} {fd : FuncData} {N ps : List Str} {k : Nat} {sp : Sp} (F : Fun K x qual st f fd) (S : FnScope N ps (defScope st)) (room : Room (k + 1) callerA) (count : ∀ vs H Q E, sp vs H Q E → vs.length = ps.length)
    (body : ∀ (cdv : Value) (s : Shared) (H : Hp) (vs : List V) (Q : VK) (E : XK), Room k (callerA.deeper (envOfC qual (defScope st) s.heap.objs.size f cdv)) → sp vs H Q E →
      ∃ t, PSs (cxOf CX0 P w K mg base N qual (defScope st) f cdv callerA [] s H E).nox (defBody st) t ∧ t { nx := fun _ H' => Q .non H', rt := Q } (start N vs) H) : FnG P w K mg base f fd ps sp := by
  obtain ⟨oc, od, kV, doc, pm, an, cdv, ct, osl, efd, look, code⟩ := F.ex
  subst efd
  refine ⟨fun s H us vs Q E env bnd rel want => ?_⟩
  have old : ∀ b o, base.get? b = some o → s.heap.get? b = some o := fun b o e => (env.bs b o e).1
  have kin : K.In s.heap := env.mod.kin.keeps old
  have lims : s.heap.NoLimit := env.mod.nolimit.keeps old
  refine codeAny_call_function room.depth (kin _ _ look) rfl S.co S.gen rfl (PySem.W.codeRec_of kin code) (bnd _ _ _ _ ?_)
  refine wpAny_newFunctionEnv_cells S.kind (fun y hy => ?_) fun fresh same s1 made => ?_
  · obtain ⟨n, v⟩ := y
    cases S.par n (List.of_mem_zip hy).1 with
    | inl q => exact .inl q
    | inr q => exact .inr ⟨q, PySem.W.cellsFrom_some _ _ _ (.inl q)⟩
  cases same
  refine ⟨lims.keeps made.toInCall.keep, codeAny_func ?_⟩
  obtain ⟨t, prog, ends⟩ := body cdv s H vs Q E (room.deeper _) want
  have inv : Inv (cxOf CX0 P w K mg base N qual (defScope st) f cdv callerA [] s H E) [] (start N vs) H s1 := inv_start S room.hd env (count _ _ _ _ want) rel made
  refine wpAny_mono (prog.nox.run [] s1 (start N vs) H _ inv ends) (fun fl s2 got => ?_) fun e s2 got => got
  cases fl with
  | ret u => exact let ⟨v, _, H2, J, rv, q⟩ := got; ⟨v, H2, J.os, J.bare, J.base, J.hok, rv, q⟩
  | next => exact let ⟨_, H2, J, q⟩ := got; ⟨V.non, H2, J.os, J.bare, J.base, J.hok, rfl, q⟩
  | brk => exact let ⟨_, _, _, q⟩ := got; False.elim q
  | cont => exact let ⟨_, _, _, q⟩ := got; False.elim q
variable {mb : Str → Option Value} {fa a : Addr} {fd : FuncData} {x : Str} {sp : Sp} {s1 : Shared} {vs : List Value} {ns : List Int}
abbrev scr (vs : List Value) : Obj := { cls := .type "list", data := .seq vs.toArray }
/-- from a heap in which at most the script is told -/
theorem runG_core (kin : K.In s1.heap) (gl : s1.heap.Ns mainGlobals mg) (bl : s1.heap.Ns builtinsNs mb) (bo : ∀ x : Str, x ≠ "__name__" → mb x = bootBuiltins x) (lim : s1.heap.NoLimit) (gen : s1.gens = #[]) (ha : s1.heap.get? a = some (scr vs))
    (F : ∀ base : Heap, K.In base → base.Ns mainGlobals mg → FnG P w K mg base fa fd [x] sp) (bind : ∀ (s : Shared) (u : Value), BindsTo s fd ⟨[u], []⟩ [(x, u)]) {H : Hp} (only : Only H) (want : sp [.ref a] H (fun v _ => v = .bl true) fun _ _ _ => False) (hok : HOk P w H s1.heap)
    (alone : ∀ b, H b ≠ none → b = a) (free : H a ≠ none → K.lookup a = none) :
    codeAny (model P w) callerA (.call (.ref fa) ⟨[.ref a], []⟩) (fun r s' => r = .ok (.ret (.bool true)) ∧ OldK s1.heap s'.heap ∧ s'.os = s1.os ∧ AllBare s'.gens) s1 := by
  have none_of : ∀ {b : Addr} {o : Obj}, s1.heap.get? b = some o → (b = a → H a ≠ none → False) → (hidT s1.heap H).get? b = some o := fun {b o} e no => hidT_get e (by
    cases q : H b with
    | none => rfl
    | some u =>
      have n : H b ≠ none := by rw [q]; exact fun z => nomatch z
      have eb := alone b n
      subst eb
      exact (no rfl n).elim)
  have names : ∀ {b : Addr} {m : Str → Option Value}, s1.heap.Ns b m → (hidT s1.heap H).Ns b m := fun {b m} ⟨o, es, ep, e, d, r⟩ => ⟨o, es, ep, none_of e (fun eb _ => by
    subst eb
    rw [ha] at e
    cases e
    have d : Data.seq vs.toArray _ = Data.dict es ep := d
    cases d), d, r⟩
  have kin2 : K.In (hidT s1.heap H) := fun b o e => none_of (kin b o e) fun eb n => by
    subst eb
    rw [free n] at e
    cases e
  have mod : Mod K mg (hidT s1.heap H) := ⟨kin2, names gl, ⟨mb, names bl, bo⟩, let ⟨mc, h1, h2⟩ := lim; ⟨mc, names h1, h2⟩⟩
  have env : Env0 P w K mg (hidT s1.heap H) callerA [] s1 H := ⟨rfl, mod, fun b o e => of_hidT e, Nat.le_of_eq (hidT_size _ _), trivial, fun b hb => (nomatch (show b ∈ ([] : List Addr) from hb)), hok, .of_eq gen⟩
  refine codeAny_mono ((F _ kin2 (names gl)).go s1 H [.ref a] [.ref a] _ _ env (bind s1 (.ref a)) (.cons rfl .nil) want) fun r s2 got => ?_
  match r, got with
  | .ok (.ret u), got =>
    obtain ⟨v, H2, os, bare, un, hok2, rel, q⟩ := got
    have q : v = .bl true := q
    cases q
    have rel : u = Value.bool true := rel
    cases rel
    refine ⟨rfl, OldK.of_keep fun b o e => ?_, os, bare⟩
    rcases only b with z | ⟨ob, xs, z⟩
    · exact un.keep b o e z (fun m => (nomatch (show b ∈ ([] : List Addr) from m))) (fun m => (nomatch m))
    · obtain ⟨e1, _⟩ := hok b _ z
      obtain ⟨e2, _⟩ := hok2 b _ (un.frzs b ob _ z)
      rw [e] at e1
      cases e1
      exact e2
theorem runG (kin : K.In s1.heap) (gl : s1.heap.Ns mainGlobals mg) (bl : s1.heap.Ns builtinsNs mb) (bo : ∀ x : Str, x ≠ "__name__" → mb x = bootBuiltins x) (lim : s1.heap.NoLimit) (gen : s1.gens = #[]) (ha : s1.heap.get? a = some (scr vs)) (hin : IntsAre vs ns) (hl : ns.length ≤ sizeLine)
    (F : ∀ base : Heap, K.In base → base.Ns mainGlobals mg → FnG P w K mg base fa fd [x] sp) (bind : ∀ (s : Shared) (u : Value), BindsTo s fd ⟨[u], []⟩ [(x, u)]) (want : ∀ H : Hp, Only H → SqL K H a (ns.map V.int) → sp [.ref a] H (fun v _ => v = .bl true) fun _ _ _ => False) :
    codeAny (model P w) callerA (.call (.ref fa) ⟨[.ref a], []⟩) (fun r s' => r = .ok (.ret (.bool true)) ∧ OldK s1.heap s'.heap ∧ s'.os = s1.os ∧ AllBare s'.gens) s1 := by
  have rel := vals_ints hin
  have size : vs.toArray.size ≤ sizeLine := by
    rw [List.size_toArray, hin.length]
    exact hl
  cases hk : K.lookup a with
  | some o =>
    have e := (kin a o hk).symm.trans ha
    cases e
    have only : Only (fun _ : Addr => (none : Option HO)) := fun _ => .inl rfl
    exact runG_core kin gl bl bo lim gen ha F bind only (want _ only (.inr ⟨_, vs.toArray, _, hk, rfl, rfl, rfl, size, by simpa using rel⟩)) (fun b u z => (nomatch (show (none : Option HO) = some u from z))) (fun b z => absurd rfl z) fun z => absurd rfl z
  | none =>
    let H : Hp := fun b => if b = a then some (.frz (scr vs) (.lst (ns.map V.int))) else none
    have at_ : H a = some (.frz (scr vs) (.lst (ns.map V.int))) := if_pos rfl
    have off : ∀ b, b ≠ a → H b = none := fun b hb => if_neg hb
    have only : Only H := fun b => by
      by_cases hb : b = a
      · subst hb
        exact .inr ⟨_, _, at_⟩
      · exact .inl (off b hb)
    refine runG_core kin gl bl bo lim gen ha F bind only (want _ only (.inl (.inr ⟨scr vs, at_⟩))) (fun b u z => ?_) (fun b z => ?_) fun _ => hk
    · by_cases hb : b = a
      · subst hb
        cases at_.symm.trans z
        exact ⟨ha, by rw [List.length_map]; exact hl, vs, _, rel, ha⟩
      · cases (off b hb).symm.trans z
    · by_cases hb : b = a
      · exact hb
      · exact absurd (off b hb) z
end
/-- the head -/
theorem walkG {l : PySem.W.OpenLaw} {n : Nat} {q : Program} {loose : List Str} {XP : (Str → Option Value) → Heap → Prop} {YP : World → Heap → Prop} {d : DefRec} {K : Params → PySem.W.Frag} {sp : World → Sp} {x : Str} (hn : l.most = some n) (hn2 : n ≤ sizeLine) (hdf : d.params.defaults = []) (hY : ∀ (w : World) (h : Heap), YP w h → (K w.params).In h)
    (F : ∀ (w : World) (mg : Str → Option Value) (fa : Addr) (h : Heap), (K w.params).In h → h.Ns mainGlobals mg → mg d.name = some (.ref fa) → ∃ fd : FuncData, (∀ (s : Shared) (u : Value), BindsTo s fd ⟨[u], []⟩ [(x, u)]) ∧ ∀ base : Heap, (K w.params).In base → base.Ns mainGlobals mg → FnG l.prog w (K w.params) mg base fa fd [x] (sp w))
    (want : ∀ (w : World) (H : Hp) (a : Addr) (ns : List Int), ns.length ≤ n → Only H → SqL (K w.params) H a (ns.map V.int) → sp w [.ref a] H (fun v _ => v = .bl true) fun _ _ _ => False) : PySem.W.WalkO q loose XP YP l.row.toRowW d [] (fun f vs => PySem.call f vs) :=
  Att.attach_call hn hdf fun w s₀ s₁ mg mb fa o pm cd doc a vs ns G Y ho hd hcd hmg hobj hints hlen hg => by
    obtain ⟨fd, bnd, fn⟩ := F w mg fa _ (hY w _ Y) G.T.g hmg
    exact runG (hY w _ Y) G.T.g G.T.b G.T.builtins G.T.nolimit hg hobj hints (Nat.le_trans hlen hn2) fn bnd fun H o q => want w H a ns hlen o q
/-! ### repr of data -/
def rRepr (K : PySem.W.Frag) : List V → Hp → VK → Prop := fun xs H Q => ∃ a d, xs = [.ref a] ∧ Dp K H (.ref a) d ∧ d.showable = true ∧ d.hasDict = false ∧ d.depth ≤ 60 ∧ d.shown.length ≤ sizeLine ∧ Q (.str d.shown) H
theorem call_reprD {X : Cx} (hg : X.A.guards = some []) (hu : X.A.units + 64 < cLine) : CallR X (.builtin "repr") (rRepr X.K) := by
  intro pins s σ H xs us Q I r h
  obtain ⟨a, d, rfl, hd, sh, nd, dep, len, q⟩ := h
  obtain ⟨u, rfl, e⟩ := vals1 r
  cases e
  obtain ⟨as, rd⟩ := Dp.reads I d _ _ hd rfl
  exact repr_of_reads' rd sh (PyData.noDict_hsm nd) hg (by omega) (fun _ _ e => e) (fun h' u tk keep => ⟨.str d.shown, H, I.kept keep, ⟨u, rfl⟩, q⟩) len
theorem ve_repr {K : PySem.W.Frag} {σ : L2.St} {H : Hp} {tr : TA} {xs : List V} {d : PyData} (h : Va tr σ H xs) (hz : xs.length ≤ sizeLine) (hd : ∀ T H', Same H H' → H' T = some (.tup xs) → Dp K H' (.ref T) d) (h1 : d.showable = true) (h2 : d.hasDict = false) (h3 : d.depth ≤ 60) (h4 : d.shown.length ≤ sizeLine) :
    Ve (tCB (rRepr K) (tCons (tTup tr) tNil)) σ H (.str d.shown) := fun Q q => h _ ⟨hz, fun T nT => ⟨T, d, rfl, hd T _ (same_upd nT) upd_same, h1, h2, h3, h4, q _ (same_upd nT)⟩⟩
theorem ve_repr1 {K : PySem.W.Frag} {σ : L2.St} {H : Hp} {te : TE} {a : Addr} {d : PyData} (h : Vl te σ H (.ref a)) (hd : Dp K H (.ref a) d) (h1 : d.showable = true) (h2 : d.hasDict = false) (h3 : d.depth ≤ 60) (h4 : d.shown.length ≤ sizeLine) :
    Ve (tCB (rRepr K) (tCons te tNil)) σ H (.str d.shown) := fun Q q => h _ ⟨a, d, rfl, hd, h1, h2, h3, h4, q _ (Same.refl _)⟩
/-! ### orders -/
def rng (n : Int) : List Int := (List.range n.toNat).map fun (i : Nat) => (i : Int)
def OrdOk (n : Int) (os : List Int) : Prop := os.Perm (rng n)
theorem mem_rng {n x : Int} : x ∈ rng n ↔ 0 ≤ x ∧ x < n := by
  unfold rng
  rw [List.mem_map]
  constructor
  · rintro ⟨i, hi, rfl⟩
    rw [List.mem_range] at hi
    omega
  · intro h
    exact ⟨x.toNat, List.mem_range.mpr (by omega), by omega⟩
theorem len_rng {n : Int} : (rng n).length = n.toNat := by
  unfold rng
  rw [List.length_map, List.length_range]
theorem nodup_rng {n : Int} : (rng n).Nodup := by
  unfold rng
  show List.Pairwise (· ≠ ·) _
  rw [List.pairwise_map]
  exact List.Pairwise.imp (fun h z => h (Int.ofNat.inj z)) List.nodup_range
theorem rng_succ (i : Nat) : rng ((i + 1 : Nat) : Int) = rng (i : Nat) ++ [(i : Int)] := by
  unfold rng
  rw [Int.toNat_natCast, Int.toNat_natCast, List.range_succ, List.map_append]
  rfl
theorem OrdOk.mem {n x : Int} {os : List Int} (h : OrdOk n os) : x ∈ os ↔ 0 ≤ x ∧ x < n := (h.mem_iff).trans mem_rng
theorem OrdOk.nodup {n : Int} {os : List Int} (h : OrdOk n os) : os.Nodup := (List.Perm.nodup_iff h).mpr nodup_rng
theorem OrdOk.len {n : Int} {os : List Int} (h : OrdOk n os) : os.length = n.toNat := (List.Perm.length_eq h).trans len_rng
theorem perm_of_sub : ∀ (xs ys : List Int), xs.Nodup → (∀ x ∈ xs, x ∈ ys) → ys.length ≤ xs.length → xs.Perm ys
  | [], ys, _, _, hl => by
    rw [List.eq_nil_of_length_eq_zero (Nat.le_zero.mp hl)]
  | x :: xs, ys, hn, hs, hl => by
    have hx := hs x List.mem_cons_self
    have hn := List.nodup_cons.mp hn
    have e := List.length_erase_of_mem hx
    have h := perm_of_sub xs (ys.erase x) hn.2 (fun y hy => (List.mem_erase_of_ne (fun z => hn.1 (by rw [← z]; exact hy))).mpr (hs y (List.mem_cons_of_mem _ hy))) (by
      rw [e]
      rw [List.length_cons] at hl
      omega)
    exact (h.cons x).trans (List.perm_cons_erase hx).symm
theorem ord_of {n : Int} {os : List Int} (hn : os.Nodup) (hm : ∀ x ∈ os, 0 ≤ x ∧ x < n) (hl : os.length = n.toNat) : OrdOk n os :=
  perm_of_sub _ _ hn (fun x hx => mem_rng.mpr (hm x hx)) (by rw [len_rng, hl]; exact Nat.le_refl _)
section
variable {K : PySem.W.Frag} {σ : L2.St} {H : Hp} {ta tb te : TE} {D : Ends} {tw : TS} {xs : List V}
theorem g_asgN {i : Nat} (h : Vn te σ H xs) (k : ∀ p H', Same H H' → H p = none → H' p = some (.lst xs) → D.nx (σ.set i (some (.ref p))) H') : tAsg te (gName i) D σ H := h _ k
/-- slices and sums of lists of ints -/
theorem vn_toI {ns : List Int} {a : Addr} {j : Nat} (h : Vl te σ H (.ref a)) (hj : Vl tb σ H (.int (j : Nat))) (hx : SqL K H a (ns.map V.int)) (hl : j ≤ ns.length) : Vn (tSl (rSlL K) te tNoPart (tPart tb)) σ H ((ns.take j).map V.int) := by
  have e : cutV (ns.map V.int) none (some ((j : Nat) : Int)) = (ns.take j).map V.int := by
    rw [cut_to (by rw [List.length_map]; exact hl), List.map_take]
  rw [← e]
  exact vn_slice h (fun _ q => q) (fun Q q => hj _ ⟨_, rfl, q⟩) hx
theorem vn_fromI {ns : List Int} {a : Addr} {j : Nat} (h : Vl te σ H (.ref a)) (hj : Vl tb σ H (.int (j : Nat))) (hx : SqL K H a (ns.map V.int)) (hl : j ≤ ns.length) : Vn (tSl (rSlL K) te (tPart tb) tNoPart) σ H ((ns.drop j).map V.int) := by
  have e : cutV (ns.map V.int) (some ((j : Nat) : Int)) none = (ns.drop j).map V.int := by
    rw [cut_from (by rw [List.length_map]; exact hl), List.map_drop]
  rw [← e]
  exact vn_slice h (fun Q q => hj _ ⟨_, rfl, q⟩) (fun _ q => q) hx
theorem vn_oneI {n : Int} (h : Vl te σ H (.int n)) : Vn (tLst (tCons te tNil)) σ H (([n] : List Int).map V.int) := vn_lst (va_cons h va_nil) (by show 1 ≤ sizeLine; decide)
theorem vn_catI {ms ns : List Int} (ha : Vn ta σ H (ms.map V.int)) (hb : ∀ H', Same H H' → Vn tb σ H' (ns.map V.int)) (hz : ms.length + ns.length ≤ 1000000) : Vn (tOp rCat ta tb) σ H ((ms ++ ns).map V.int) := by
  rw [List.map_append]
  exact vn_cat ha hb (by
    rw [List.length_map, List.length_map]
    exact Nat.le_trans hz (by decide))
theorem inV_int {x : Int} {ns : List Int} : inV (.int x) (ns.map V.int) = decide (x ∈ ns) := by
  unfold inV
  induction ns with
  | nil => rfl
  | cons n r ih =>
    rw [List.map_cons, List.any_cons, ih]
    show ((n == x) || decide (x ∈ r)) = _
    rw [Bool.eq_iff_iff, Bool.or_eq_true, beq_iff_eq, decide_eq_true_eq, decide_eq_true_eq, List.mem_cons]
    constructor
    · rintro (h | h)
      · exact .inl h.symm
      · exact .inr h
    · rintro (h | h)
      · exact .inl h.symm
      · exact .inr h
theorem flat_ints (ns : List Int) : (ns.map V.int).all flatV = true := by
  rw [List.all_map, List.all_eq_true]
  intro x _
  rfl
theorem vl_inI {a : Addr} {x : Int} {ns : List Int} (ha : Vl ta σ H (.int x)) (h : Vl te σ H (.ref a)) (hx : SqL K H a (ns.map V.int)) : Vl (tOp (rIn K false) ta te) σ H (.bl (decide (x ∈ ns))) := vl_op ha h fun _ k => ⟨a, _, rfl, .inl hx, rfl, flat_ints ns, by
  rw [inV_int]
  exact k⟩
theorem vl_notInI {a : Addr} {x : Int} {ns : List Int} (ha : Vl ta σ H (.int x)) (h : Vl te σ H (.ref a)) (hx : SqL K H a (ns.map V.int)) : Vl (tOp (rIn K true) ta te) σ H (.bl (!decide (x ∈ ns))) := vl_op ha h fun _ k => ⟨a, _, rfl, .inl hx, rfl, flat_ints ns, by
  rw [inV_int]
  exact k⟩
theorem vl_ixI {a : Addr} {ns : List Int} {j : Nat} {x : Int} (ha : Vl ta σ H (.ref a)) (hb : Vl tb σ H (.int (j : Nat))) (h : SqL K H a (ns.map V.int)) (hg : ns[j]? = some x) : Vl (tOp (rIxL K) ta tb) σ H (.int x) := vl_ixL ha hb h (atI_nat (by
  rw [List.getElem?_map, hg]
  rfl))
theorem vl_lenI {a : Addr} {ns : List Int} (ha : Vl ta σ H (.ref a)) (h : SqL K H a (ns.map V.int)) : Vl (tCB (fun xs H Q => ∃ p ys, xs = [V.ref p] ∧ (SqL K H p ys ∨ SqT K H p ys) ∧ Q (V.int ys.length) H) (tCons ta tNil)) σ H (.int ns.length) := (vl_lenL ha h).is (by rw [List.length_map])
end
section
variable {K : PySem.W.Frag} {σ : L2.St} {H : Hp} {ta tb te : TE} {b k m : Bool}
theorem vn_catL {a : Addr} {ms ns : List Int} (ha : Vl ta σ H (.ref a)) (hA : H a = some (.lst (ms.map V.int))) (hb : Vn tb σ H (ns.map V.int)) (hz : ms.length + ns.length ≤ 1000000) : Vn (tOp rCat ta tb) σ H ((ms ++ ns).map V.int) := fun Q q =>
  ha _ (hb _ fun p H1 s1 np hp => ⟨a, p, _, _, rfl, rfl, s1 _ _ hA, hp, by
    rw [List.length_map, List.length_map]
    exact Nat.le_trans hz (by decide), fun t nt => by
    rw [← List.map_append]
    exact q t _ (s1.trans (same_upd nt)) (Same.free s1 nt) upd_same⟩)
theorem vn_lstRg {n : Int} (h : Vl ta σ H (.int n)) (h0 : 0 ≤ n) (h1 : n ≤ 1000000) : Vn (tLstRg (tRg1 ta)) σ H ((rng n).map V.int) := fun Q q => h _ ⟨n, rfl, RgOk.of_le (by omega) (by omega) (by omega) h0, fun p np => by
  have e : rgV 0 n = (rng n).map V.int := by
    unfold rgV rng
    rw [List.map_map, Int.sub_zero]
    exact List.map_congr_left fun i _ => by
      rw [Int.zero_add]
      rfl
  rw [e]
  exact q p _ (same_upd np) np upd_same⟩
theorem vl_andV (h1 : Vl ta σ H (.bl k)) (h2 : k = true → Vl tb σ H (.bl m)) : Vl (tAndV ta tb) σ H (.bl (k && m)) := fun Q q => h1 _ ⟨k, rfl, by
  cases k with
  | true => exact iteT (h2 rfl _ q)
  | false => exact iteF q⟩
theorem dB {i j : Bool} : decide (V.bl i = V.bl j) = decide (i = j) := by
  rw [Bool.eq_iff_iff, decide_eq_true_eq, decide_eq_true_eq]
  exact ⟨fun z => V.bl.inj z, fun z => by rw [z]⟩
end
theorem q_dputN {σ : L2.St} {H : Hp} {td ty tv : TE} {D : Ends} {tw : TS} {o : Addr} {p : Int} {kvs : List (Key × V)} {xs : List V} (hv : Vn tv σ H xs) (ho : ∀ H', Same H H' → Vl td σ H' (.ref o)) (hk : ∀ H', Same H H' → Vl ty σ H' (.int p)) (hd : H o = some (.dK kvs)) (hl : kvs.length < sizeLine)
    (k : ∀ a H', Same H H' → H a = none → H' a = some (.lst xs) → tw D σ (upd H' o (.dK (putK kvs (.inl p) (.ref a))))) : tSeq (sDPut td ty tv) tw D σ H := g_dputN (D := { D with nx := tw D }) hv ho hk hd hl k
abbrev sOrder : Stmt := topS 22
theorem scOrder : FnScope ["draws", "k", "size", "order", "place", "at"] ["draws", "k", "size"] (defScope sOrder) := ⟨rfl, rfl, rfl, by decide +kernel, rfl, by decide +kernel, by decide +kernel⟩
def spOrder (K : PySem.W.Frag) : Sp := fun vs H Q _ => ∃ (d : Addr) (ds : List Int) (k n : Int), vs = [.ref d, .int k, .int n] ∧ SqL K H d (ds.map V.int) ∧ 0 ≤ k ∧ 0 ≤ n ∧ n ≤ 40 ∧ ∀ H' p os, Same H H' → H p = none → H' p = some (.lst (os.map V.int)) → OrdOk n os → Q (.ref p) H'
section
variable {P : Program} {w : World} {K : PySem.W.Frag} {mg : Str → Option Value} {base : Heap}
theorem ok_order {f : Addr} {fd : FuncData} (F : Fun K "_law_order" "_law_order" sOrder f fd) (c_law_mix : Kal P w K mg base 1 "_law_mix" ["draws", "k", "many"] (spAt K)) (mr : mg "range" = none) : FnOk P w K mg base CX0 2 f fd ["draws", "k", "size"] (spOrder K) := by
  refine F.ok scOrder (fun vs H Q E h => ?_) (fun cdv A outer s H vs Q E hr h => ?_)
  · obtain ⟨d, ds, k, n, rfl, _⟩ := h
    rfl
  · obtain ⟨d, ds, k, n, rfl, hS, hk, hn0, hn40, q⟩ := h
    refine ⟨_, pss_cons (ps_set (i := 3) scOrder.nd rfl (.inl rfl) (pe_lst pa_nil))
      (pss_cons (ps_for PassesOwn.never rfl (pi_range1 (by rfl) mr (pa_cons (pv 2) pa_nil)) (pg_name (i := 4) scOrder.nd rfl (.inl rfl))
      (pss_cons (ps_set (i := 5) scOrder.nd rfl (.inl rfl) (pe_k c_law_mix hr (by first | decide | omega) (by rfl) (pa_cons (pv 0) (pa_cons (pe_op op_add (pv 1) (pv 4)) (pa_cons (pe_op op_add (pv 4) pe_int) pa_nil)))))
        (pss_one (ps_set (i := 3) scOrder.nd rfl (.inl rfl) (pe_op op_cat (pe_op op_cat (pe_slice sl_list (pv 3) po_none (po_some (pv 5))) (pe_lst (pa_cons (pv 4) pa_nil))) (pe_slice sl_list (pv 3) (po_some (pv 5)) po_none))))))
      (pss_one (ps_ret (pv 3)))), ?_⟩
    refine q_lnew fun o no => ?_
    refine q_forR (n := n) (va_cons (vl_var rfl) va_nil) ⟨by omega, by omega⟩
      (fun i σ H3 => ∃ y4 y5 p os, σ = [some (.ref d), some (.int k), some (.int n), some (.ref p), y4, y5] ∧ Same H H3 ∧ H p = none ∧ H3 p = some (.lst (os.map V.int)) ∧ OrdOk i os)
      ⟨none, none, o, [], rfl, same_upd no, no, upd_same, List.Perm.refl _⟩ (fun i σ H3 hi hP => ?_) (fun σ H3 hP => ?_)
    · obtain ⟨y4, y5, p, os, rfl, s3, np, hp, hos⟩ := hP
      refine q_asgI (P := fun r => 0 ≤ r ∧ r < (i : Int) + 1) (vi_call (va_cons (vl_var rfl) (va_cons (vl_I0 (vl_var rfl) (vl_var rfl)) (va_cons (vl_I0 (vl_var rfl) vl_c) va_nil))) fun Q E q => ⟨d, ds, k + i, (i : Int) + 1, rfl, s3.seq hS, by omega, by omega, q⟩) (fun r hr => ?_)
      obtain ⟨j, rfl⟩ := Int.eq_ofNat_of_zero_le hr.1
      have hl := hos.len
      rw [Int.toNat_natCast] at hl
      have hj : j ≤ os.length := by omega
      refine g_asgN (xs := (os.take j ++ [(i : Int)] ++ os.drop j).map V.int) (vn_catI (vn_catI (vn_toI (vl_var rfl) (vl_var rfl) (.of hp) hj) (fun H' s' => vn_oneI (vl_var rfl)) ?_) (fun H' s' => vn_fromI (vl_var rfl) (vl_var rfl) (.of (s' _ _ hp)) hj) ?_) (fun p2 H4 s4 np2 hp2 => ?_)
      · rw [List.length_take]
        show min j os.length + 1 ≤ 1000000
        omega
      · rw [List.length_append, List.length_take, List.length_drop]
        show min j os.length + 1 + (os.length - j) ≤ 1000000
        omega
      · refine ⟨_, _, p2, _, rfl, s3.trans s4, Same.free s3 np2, hp2, ?_⟩
        unfold OrdOk
        rw [rng_succ]
        have h1 : (os.take j ++ [(i : Int)] ++ os.drop j).Perm ([(i : Int)] ++ (os.take j ++ os.drop j)) := by
          rw [List.append_assoc, ← List.append_assoc [(i : Int)]]
          refine (List.perm_append_comm_assoc _ _ _).trans ?_
          rw [List.append_assoc]
        rw [List.take_append_drop] at h1
        exact (h1.trans List.perm_append_comm).trans (hos.append_right _)
    · obtain ⟨y4, y5, p, os, rfl, s3, np, hp, hos⟩ := hP
      refine g_ret (vl_var rfl) (q H3 p os s3 np hp ?_)
      rw [show ((n.toNat : Nat) : Int) = n by omega] at hos
      exact hos
end
/-! ### ranks -/
def fb (m : Int) : List Int → List Int → Nat → Option Nat
  | _, [], _ => none
  | seen, x :: xs, k => if (0 ≤ x ∧ x < m) ∧ x ∉ seen then fb m (seen ++ [x]) xs (k + 1) else some k
def badAt (os : List Int) : Option Nat := fb os.length [] os 0
def posOf (x : Int) : List Int → Nat
  | [] => 0
  | y :: ys => if y = x then 0 else posOf x ys + 1
def rk (os : List Int) : List Int := (rng os.length).map fun p => (posOf p os : Int)
theorem posOf_get : ∀ {os : List Int} {i : Nat} {x : Int}, os.Nodup → os[i]? = some x → posOf x os = i
  | [], _, _, _, h => by simp at h
  | y :: ys, 0, x, _, h => if_pos (Option.some.inj h)
  | y :: ys, i + 1, x, hn, h => by
    have hn := List.nodup_cons.mp hn
    have h : ys[i]? = some x := h
    have ne : ¬ y = x := fun z => hn.1 (by rw [z]; exact List.mem_of_getElem? h)
    show (if y = x then 0 else posOf x ys + 1) = i + 1
    rw [if_neg ne, posOf_get hn.2 h]
theorem posOf_lt : ∀ {os : List Int} {x : Int}, x ∈ os → os[posOf x os]? = some x
  | y :: ys, x, h => by
    show (y :: ys)[if y = x then 0 else posOf x ys + 1]? = some x
    by_cases e : y = x
    · rw [if_pos e, e]
      rfl
    · rw [if_neg e]
      rcases List.mem_cons.mp h with h | h
      · exact absurd h.symm e
      · exact posOf_lt h
theorem fb_ok {m : Int} : ∀ {xs seen : List Int} {k : Nat}, fb m seen xs k = none → seen.Nodup → (∀ x ∈ seen, 0 ≤ x ∧ x < m) → (seen ++ xs).Nodup ∧ ∀ x ∈ seen ++ xs, 0 ≤ x ∧ x < m
  | [], seen, k, _, hn, hm => by
    rw [List.append_nil]
    exact ⟨hn, hm⟩
  | x :: xs, seen, k, h, hn, hm => by
    have h : (if (0 ≤ x ∧ x < m) ∧ x ∉ seen then fb m (seen ++ [x]) xs (k + 1) else some k) = none := h
    by_cases c : (0 ≤ x ∧ x < m) ∧ x ∉ seen
    · rw [if_pos c] at h
      have := fb_ok h (List.nodup_append.mpr ⟨hn, List.nodup_cons.mpr ⟨List.not_mem_nil, .nil⟩, fun a ha b hb e => c.2 (by
        rw [List.mem_singleton] at hb
        rw [← hb, ← e]
        exact ha)⟩) (fun y hy => by
        rcases List.mem_append.mp hy with hy | hy
        · exact hm y hy
        · rw [List.mem_singleton.mp hy]
          exact c.1)
      rw [List.append_assoc] at this
      exact this
    · rw [if_neg c] at h
      cases h
theorem bad_none {os : List Int} (h : badAt os = none) : OrdOk os.length os := by
  have := fb_ok h .nil (fun _ h => nomatch h)
  exact ord_of this.1 this.2 (Int.toNat_natCast _).symm
theorem fb_none {m : Int} : ∀ {xs seen : List Int} {k : Nat}, (seen ++ xs).Nodup → (∀ x ∈ xs, 0 ≤ x ∧ x < m) → fb m seen xs k = none
  | [], _, _, _, _ => rfl
  | x :: xs, seen, k, hn, hm => by
    have c : (0 ≤ x ∧ x < m) ∧ x ∉ seen := ⟨hm x List.mem_cons_self, fun z => (List.nodup_append.mp hn).2.2 x z x List.mem_cons_self rfl⟩
    show (if (0 ≤ x ∧ x < m) ∧ x ∉ seen then fb m (seen ++ [x]) xs (k + 1) else some k) = none
    rw [if_pos c]
    exact fb_none (by
      rw [List.append_assoc]
      exact hn) fun y hy => hm y (List.mem_cons_of_mem _ hy)
theorem bad_iff {os : List Int} : badAt os = none ↔ OrdOk os.length os := ⟨bad_none, fun h => fb_none (by
  rw [List.nil_append]
  exact h.nodup) fun x hx => h.mem.mp hx⟩
def outAt (os : List Int) (i : Nat) : List Int := (rng os.length).map fun p => if p ∈ os.take i then (posOf p os : Int) else 0
theorem rng_get {n : Int} {p : Nat} (h : p < (rng n).length) : (rng n)[p] = (p : Int) := by
  simp only [rng, List.getElem_map, List.getElem_range]
theorem out_zero {os : List Int} : outAt os 0 = os.map fun _ => (0 : Int) := by
  refine List.ext_getElem ?_ fun p h1 h2 => ?_
  · unfold outAt
    rw [List.length_map, List.length_map, len_rng, Int.toNat_natCast]
  · simp only [outAt, List.getElem_map, List.take_zero, List.not_mem_nil, if_false]
theorem out_succ {os : List Int} {i : Nat} {x : Int} (ok : OrdOk os.length os) (h : os[i]? = some x) : outAt os (i + 1) = (outAt os i).set x.toNat i := by
  have hx := ok.mem.mp (List.mem_of_getElem? h)
  refine List.ext_getElem ?_ fun p h1 h2 => ?_
  · unfold outAt
    rw [List.length_set, List.length_map, List.length_map]
  · rw [List.getElem_set]
    simp only [outAt, List.getElem_map, rng_get]
    rw [take_snoc h]
    by_cases e : x.toNat = p
    · have e2 : (p : Int) = x := by omega
      rw [if_pos e, e2, if_pos (List.mem_append.mpr (.inr (List.mem_singleton.mpr rfl))), posOf_get ok.nodup h]
    · have e2 : ¬ (p : Int) = x := fun z => e (by omega)
      rw [if_neg e]
      by_cases c : (p : Int) ∈ os.take i
      · rw [if_pos c, if_pos (List.mem_append.mpr (.inl c))]
      · rw [if_neg c, if_neg (fun z => by
          rcases List.mem_append.mp z with z | z
          · exact c z
          · exact e2 (List.mem_singleton.mp z))]
theorem out_end {os : List Int} (ok : OrdOk os.length os) : outAt os os.length = rk os := by
  unfold outAt rk
  rw [List.take_length]
  exact List.map_congr_left fun p hp => if_pos (ok.mem.mpr (mem_rng.mp hp))
def dueD (os : List Int) : PyData := match badAt os with
  | some k => .tuple [.str "bad", .int (k : Nat)]
  | none => .tuple [.str "ranks", .list ((rk os).map PyData.int)]
theorem shaped_due (os : List Int) : SeqAt.shaped (dueD os) = true := by
  unfold dueD
  split
  · exact shaped_pair (x := "bad") (by decide +kernel) rfl (Nat.zero_le _)
  · refine shaped_pair (x := "ranks") (by decide +kernel) ?_ ?_
    · exact (lay_ints _).1
    · show PyData.depthAll _ + 1 ≤ 3
      rw [(lay_ints _).2]
      decide
/-- what due's tuple holds -/
def DueAt (K : PySem.W.Frag) (H : Hp) (T : Addr) (os : List Int) : Prop := match badAt os with
  | some k => SqT K H T [.str "bad", .int (k : Nat)]
  | none => ∃ q, SqT K H T [.str "ranks", .ref q] ∧ SqL K H q ((rk os).map V.int)
theorem DueAt.dp {K : PySem.W.Frag} {H : Hp} {T : Addr} {os : List Int} (h : DueAt K H T os) : Dp K H (.ref T) (dueD os) := by
  unfold DueAt at h
  unfold dueD
  cases e : badAt os with
  | some k =>
    rw [e] at h
    exact .tup h (.cons (.str _) (.cons (.int _) .nil))
  | none =>
    rw [e] at h
    obtain ⟨q, h1, h2⟩ := h
    exact .tup h1 (.cons (.str _) (.cons (Dp.ints h2) .nil))
/-! ### neighbours -/
def nearF (a : Int) (l : Lnk) : Option Int := if l.a = a then some l.b else if l.b = a then some l.a else none
def nearOf (a : Int) (ls : List Lnk) : List Int := ls.filterMap (nearF a)
theorem nearF_sum {a : Int} {l : Lnk} : nearF a l = if (l.a = a ∨ l.b = a) then some (l.a + l.b - a) else none := by
  unfold nearF
  by_cases h1 : l.a = a
  · rw [if_pos h1, if_pos (.inl h1)]
    congr 1
    omega
  · rw [if_neg h1]
    by_cases h2 : l.b = a
    · rw [if_pos h2, if_pos (.inr h2)]
      congr 1
      omega
    · rw [if_neg h2, if_neg (by omega)]
theorem nearF_iff {a o : Int} {l : Lnk} (h : l.a < l.b) : nearF a l = some o ↔ (l.a = a ∧ l.b = o) ∨ (l.a = o ∧ l.b = a) := by
  rw [nearF_sum]
  by_cases c : l.a = a ∨ l.b = a
  · rw [if_pos c]
    constructor
    · intro e
      have := Option.some.inj e
      omega
    · intro e
      congr 1
      omega
  · rw [if_neg c]
    constructor
    · intro e
      cases e
    · intro e
      omega
def adj0 (ls : List Lnk) (x y : Int) : Bool := ls.any fun l => decide ((l.a = x ∧ l.b = y) ∨ (l.a = y ∧ l.b = x))
theorem adj0_iff {ls : List Lnk} {x y : Int} : adj0 ls x y = true ↔ ∃ l ∈ ls, (l.a = x ∧ l.b = y) ∨ (l.a = y ∧ l.b = x) := by
  unfold adj0
  rw [List.any_eq_true]
  constructor
  · rintro ⟨l, h, e⟩
    exact ⟨l, h, of_decide_eq_true e⟩
  · rintro ⟨l, h, e⟩
    exact ⟨l, h, decide_eq_true e⟩
theorem split_at {α : Type} {xs : List α} {i : Nat} {x : α} (h : xs[i]? = some x) : xs = xs.take i ++ x :: xs.drop (i + 1) := by
  have hi := (List.getElem?_eq_some_iff.mp h).1
  have e := List.take_append_drop i xs
  rw [List.drop_eq_getElem_cons hi, (List.getElem?_eq_some_iff.mp h).2] at e
  exact e.symm
theorem near_mem {N : Net} (ok : NetOk N) {a o : Int} : o ∈ nearOf a N.ls ↔ adj0 N.ls a o = true := by
  unfold nearOf
  rw [List.mem_filterMap, adj0_iff]
  constructor
  · rintro ⟨l, h, e⟩
    exact ⟨l, h, (nearF_iff (ok.ok l h).ab).mp e⟩
  · rintro ⟨l, h, e⟩
    exact ⟨l, h, (nearF_iff (ok.ok l h).ab).mpr e⟩
theorem near_lt {N : Net} (ok : NetOk N) (a : Int) : (nearOf a N.ls).Pairwise (· < ·) := by
  unfold nearOf
  rw [List.pairwise_filterMap]
  refine List.Pairwise.imp_of_mem (fun {l m} hl hm hlt x hx y hy => ?_) ok.lt
  have h1 := (ok.ok l hl).ab
  have h2 := (ok.ok m hm).ab
  have hx := (nearF_iff h1).mp hx
  have hy := (nearF_iff h2).mp hy
  unfold LnkLt at hlt
  omega
theorem near_nodup {N : Net} (ok : NetOk N) (a : Int) : (nearOf a N.ls).Nodup := (near_lt ok a).imp fun h z => by omega
theorem adj0_in {N : Net} (ok : NetOk N) {x y : Int} (h : adj0 N.ls x y = true) : (0 ≤ x ∧ x < N.n) ∧ (0 ≤ y ∧ y < N.n) ∧ x ≠ y := by
  obtain ⟨l, hl, e⟩ := adj0_iff.mp h
  have := (ok.ok l hl).a0
  have := (ok.ok l hl).ab
  have := (ok.ok l hl).bn
  omega
theorem adj0_sym {ls : List Lnk} {x y : Int} : adj0 ls x y = adj0 ls y x := by
  rw [Bool.eq_iff_iff, adj0_iff, adj0_iff]
  constructor
  · rintro ⟨l, h, e⟩
    exact ⟨l, h, e.symm⟩
  · rintro ⟨l, h, e⟩
    exact ⟨l, h, e.symm⟩
/-! ### the greedy order -/
def joinB (adj : Int → Int → Bool) (b x y : Int) : Bool := adj x y || (adj b x && (adj b y && !decide (x = y)))
def deg (L : List Int) (adj : Int → Int → Bool) (p : Int) : Nat := (L.filter (adj p)).length
def pick (f : Int → Nat) (b : Int) (xs : List Int) : Int := xs.foldl (fun b p => if f p < f b then p else b) b
def gr : Nat → List Int → (Int → Int → Bool) → List Int
  | 0, _, _ => []
  | _ + 1, [], _ => []
  | k + 1, p :: r, adj => pick (deg (p :: r) adj) p (p :: r) :: gr k ((p :: r).erase (pick (deg (p :: r) adj) p (p :: r))) (joinB adj (pick (deg (p :: r) adj) p (p :: r)))
def greedyOf (N : Net) : List Int := gr N.n.toNat (rng N.n) (adj0 N.ls)
theorem pick_or {f : Int → Nat} : ∀ {xs : List Int} {b : Int}, pick f b xs = b ∨ pick f b xs ∈ xs
  | [], b => .inl rfl
  | x :: xs, b => by
    show pick f (if f x < f b then x else b) xs = b ∨ pick f (if f x < f b then x else b) xs ∈ x :: xs
    by_cases c : f x < f b
    · rw [if_pos c]
      rcases pick_or (f := f) (xs := xs) (b := x) with h | h
      · right
        rw [h]
        exact List.mem_cons_self
      · exact .inr (List.mem_cons_of_mem _ h)
    · rw [if_neg c]
      rcases pick_or (f := f) (xs := xs) (b := b) with h | h
      · exact .inl h
      · exact .inr (List.mem_cons_of_mem _ h)
theorem pick_mem {f : Int → Nat} {p : Int} {r : List Int} : pick f p (p :: r) ∈ p :: r := by
  rcases pick_or (f := f) (xs := p :: r) (b := p) with h | h
  · rw [h]
    exact List.mem_cons_self
  · exact h
theorem pick_congr {f g : Int → Nat} : ∀ {xs : List Int} {b : Int}, (∀ x ∈ b :: xs, f x = g x) → pick f b xs = pick g b xs
  | [], _, _ => rfl
  | x :: xs, b, h => by
    show pick f (if f x < f b then x else b) xs = pick g (if g x < g b then x else b) xs
    rw [h x (List.mem_cons_of_mem _ List.mem_cons_self), h b List.mem_cons_self]
    refine pick_congr fun y hy => ?_
    rcases List.mem_cons.mp hy with e | e
    · by_cases c : g x < g b
      · rw [if_pos c] at e
        rw [e]
        exact h x (List.mem_cons_of_mem _ List.mem_cons_self)
      · rw [if_neg c] at e
        rw [e]
        exact h b List.mem_cons_self
    · exact h y (List.mem_cons_of_mem _ (List.mem_cons_of_mem _ e))
structure AdjOk (adj : Int → Int → Bool) : Prop where
  sym : ∀ x y, adj x y = adj y x
  irr : ∀ x, adj x x = false
theorem AdjOk.join {adj : Int → Int → Bool} (h : AdjOk adj) (b : Int) : AdjOk (joinB adj b) where
  sym := fun x y => by
    unfold joinB
    rw [h.sym x y, Bool.and_left_comm, show decide (x = y) = decide (y = x) by
      rw [Bool.eq_iff_iff, decide_eq_true_eq, decide_eq_true_eq]
      exact eq_comm]
  irr := fun x => by
    unfold joinB
    rw [h.irr x, decide_eq_true rfl]
    simp
theorem adj0_ok {N : Net} (ok : NetOk N) : AdjOk (adj0 N.ls) := ⟨fun _ _ => adj0_sym, fun x => by
  cases e : adj0 N.ls x x with
  | false => rfl
  | true => exact absurd rfl (adj0_in ok e).2.2⟩
/-- lists of neighbours that say what adj says of the places left -/
structure NearOk (L : List Int) (adj : Int → Int → Bool) (near : Int → List Int) : Prop where
  nd : ∀ p ∈ L, (near p).Nodup
  mem : ∀ p ∈ L, ∀ o, o ∈ near p ↔ o ∈ L ∧ adj p o = true
theorem sub_len : ∀ {xs ys : List Int}, xs.Nodup → (∀ x ∈ xs, x ∈ ys) → xs.length ≤ ys.length
  | [], _, _, _ => Nat.zero_le _
  | x :: xs, ys, hn, hs => by
    have hn := List.nodup_cons.mp hn
    have hx := hs x List.mem_cons_self
    have e := List.length_erase_of_mem hx
    have h := sub_len (ys := ys.erase x) hn.2 (fun y hy => (List.mem_erase_of_ne (fun z => hn.1 (by rw [← z]; exact hy))).mpr (hs y (List.mem_cons_of_mem _ hy)))
    have := List.length_pos_of_mem hx
    rw [List.length_cons]
    omega
theorem NearOk.deg {L : List Int} {adj : Int → Int → Bool} {near : Int → List Int} (h : NearOk L adj near) (hL : L.Nodup) {p : Int} (hp : p ∈ L) : (near p).length = Ovc.deg L adj p := by
  unfold Ovc.deg
  have hf : (L.filter (adj p)).Nodup := hL.filter _
  have m : ∀ o, o ∈ near p ↔ o ∈ L.filter (adj p) := fun o => by
    rw [h.mem p hp o, List.mem_filter]
  refine Nat.le_antisymm ?_ ?_
  · exact sub_len (h.nd p hp) fun o ho => (m o).mp ho
  · exact sub_len hf fun o ho => (m o).mpr ho
def nearTo (near : Int → List Int) (b p : Int) : List Int := (near p).filter (fun o => !decide (o = b)) ++ (near b).filter fun o => !decide (o = p) && !decide (o ∈ near p)
theorem NearOk.step {L : List Int} {adj : Int → Int → Bool} {near : Int → List Int} (h : NearOk L adj near) (ha : AdjOk adj) (hL : L.Nodup) {b : Int} (hb : b ∈ L) :
    NearOk (L.erase b) (joinB adj b) (fun p => if p ∈ near b then nearTo near b p else near p) where
  nd := fun p hp => by
    have hp2 := (hL.mem_erase_iff.mp hp).2
    show (if p ∈ near b then nearTo near b p else near p).Nodup
    by_cases c : p ∈ near b
    · rw [if_pos c]
      refine List.nodup_append.mpr ⟨(h.nd p hp2).filter _, (h.nd b hb).filter _, fun x hx y hy e => ?_⟩
      have h1 := (List.mem_filter.mp hx).1
      have h2 := (List.mem_filter.mp hy).2
      rw [Bool.and_eq_true, Bool.not_eq_true', Bool.not_eq_true', decide_eq_false_iff_not, decide_eq_false_iff_not] at h2
      exact h2.2 (by rw [← e]; exact h1)
    · rw [if_neg c]
      exact h.nd p hp2
  mem := fun p hp o => by
    have hpb := (hL.mem_erase_iff.mp hp).1
    have hp2 := (hL.mem_erase_iff.mp hp).2
    show o ∈ (if p ∈ near b then nearTo near b p else near p) ↔ o ∈ L.erase b ∧ joinB adj b p o = true
    have j : joinB adj b p o = true ↔ adj p o = true ∨ (adj b p = true ∧ adj b o = true ∧ o ≠ p) := by
      unfold joinB
      rw [Bool.or_eq_true, Bool.and_eq_true, Bool.and_eq_true, Bool.not_eq_true', decide_eq_false_iff_not]
      constructor
      · rintro (h | ⟨h1, h2, h3⟩)
        · exact .inl h
        · exact .inr ⟨h1, h2, fun z => h3 z.symm⟩
      · rintro (h | ⟨h1, h2, h3⟩)
        · exact .inl h
        · exact .inr ⟨h1, h2, fun z => h3 z.symm⟩
    rw [j, hL.mem_erase_iff]
    by_cases c : p ∈ near b
    · rw [if_pos c]
      unfold nearTo
      have hbp := ((h.mem b hb p).mp c).2
      rw [List.mem_append, List.mem_filter, List.mem_filter, Bool.and_eq_true, Bool.not_eq_true', Bool.not_eq_true', Bool.not_eq_true', decide_eq_false_iff_not, decide_eq_false_iff_not, decide_eq_false_iff_not, h.mem p hp2 o, h.mem b hb o]
      constructor
      · rintro (⟨⟨h1, h2⟩, h3⟩ | ⟨⟨h1, h2⟩, h3, h4⟩)
        · exact ⟨⟨h3, h1⟩, .inl h2⟩
        · have ne : o ≠ b := fun z => by
            rw [z, ha.irr] at h2
            cases h2
          exact ⟨⟨ne, h1⟩, .inr ⟨hbp, h2, h3⟩⟩
      · rintro ⟨⟨h1, h2⟩, h3 | ⟨h3, h4, h5⟩⟩
        · exact .inl ⟨⟨h2, h3⟩, h1⟩
        · by_cases d : adj p o = true
          · exact .inl ⟨⟨h2, d⟩, h1⟩
          · exact .inr ⟨⟨h2, h4⟩, h5, fun z => d z.2⟩
    · rw [if_neg c, h.mem p hp2 o]
      have hbp : adj b p ≠ true := fun z => c ((h.mem b hb p).mpr ⟨hp2, z⟩)
      constructor
      · rintro ⟨h1, h2⟩
        have ne : o ≠ b := fun z => by
          rw [z, ha.sym] at h2
          exact hbp h2
        exact ⟨⟨ne, h1⟩, .inl h2⟩
      · rintro ⟨⟨h1, h2⟩, h3 | ⟨h3, _⟩⟩
        · exact ⟨h2, h3⟩
        · exact absurd h3 hbp
theorem left_snoc {n b : Int} {acc : List Int} : (rng n).filter (fun p => !decide (p ∈ acc ++ [b])) = ((rng n).filter fun p => !decide (p ∈ acc)).erase b := by
  rw [List.Nodup.erase_eq_filter (show List.Nodup _ from nodup_rng.filter _) b, List.filter_filter]
  refine List.filter_congr fun p _ => ?_
  rw [Bool.eq_iff_iff]
  simp only [List.mem_append, List.mem_singleton, Bool.not_eq_true', decide_eq_false_iff_not, Bool.and_eq_true, bne_iff_ne, ne_eq, not_or]
  exact And.comm
/-! ### check_places -/
def badP (n x : Int) : Bool := !(decide (0 ≤ x) && decide (x < n))
theorem badP_in {n x : Int} (h : 0 ≤ x ∧ x < n) : ¬ badP n x = true := by
  unfold badP
  rw [decide_eq_true h.1, decide_eq_true h.2]
  exact Bool.false_ne_true
theorem badP_out {n x : Int} (h : ¬ (0 ≤ x ∧ x < n)) : badP n x = true := by
  unfold badP
  rw [Bool.not_eq_true', Bool.and_eq_false_iff, decide_eq_false_iff_not, decide_eq_false_iff_not]
  omega
def badPl (n : Int) (xs : List Int) : Option Int := xs.find? (badP n)
theorem badPl_none {n : Int} {xs : List Int} (h : badPl n xs = none) : ∀ x ∈ xs, 0 ≤ x ∧ x < n := fun x hx => by
  have := List.find?_eq_none.mp h x hx
  by_cases c : 0 ≤ x ∧ x < n
  · exact c
  · exact absurd (badP_out c) this
theorem badPl_of {n : Int} {xs : List Int} (h : ∀ x ∈ xs, 0 ≤ x ∧ x < n) : badPl n xs = none := List.find?_eq_none.mpr fun x hx => badP_in (h x hx)
def spChkPl (K : PySem.W.Frag) (CP : Addr) : Sp := fun vs H Q E => ∃ (n : Int) (p : Addr) (xs : List Int), vs = [.int n, .ref p] ∧ SqL K H p (xs.map V.int) ∧
  (∀ x, badPl n xs = some x → RaiseTo E H CP x) ∧ (badPl n xs = none → ∀ H', Same H H' → Q .non H')
section
variable {P : Program} {w : World} {K : PySem.W.Frag} {mg : Str → Option Value} {base : Heap} {CP fI : Addr}
end
section
variable {K : PySem.W.Frag} {σ : L2.St} {H : Hp} {t0 t1 t2 : TE} {D : Ends} {tw : TS} {E : XK} {CP : Addr} {n a b : Int}
/-- check_places(n, [a]) -/
theorem q_chk1 (h0 : Vl t0 σ H (.int n)) (h1 : Vl t1 σ H (.int a)) (qb : ¬ (0 ≤ a ∧ a < n) → RaiseTo E H CP a) (k : 0 ≤ a ∧ a < n → ∀ H', Same H H' → tw D σ H') :
    tSeq (tDrop (tCall (spChkPl K CP) [] E (tCons t0 (tCons (tLst (tCons t1 tNil)) tNil)))) tw D σ H :=
  h0 _ (h1 _ ⟨by show 1 ≤ sizeLine; decide, fun p np => ⟨n, p, [a], rfl, .of upd_same, fun x hx => by
    have s : Same H (upd H p (.lst [.int a])) := same_upd np
    refine (?_ : RaiseTo E H CP x).to s
    by_cases hin : 0 ≤ a ∧ a < n
    · rw [badPl_of (by
        intro y hy
        rw [List.mem_singleton.mp hy]
        exact hin)] at hx
      cases hx
    · have e : x = a := List.mem_singleton.mp (List.mem_of_find?_eq_some hx)
      rw [e]
      exact qb hin, fun hx H' s' => k (badPl_none hx a List.mem_cons_self) H' ((same_upd np).trans s')⟩⟩)
/-- check_places(n, [a, b]) -/
theorem q_chk2 (h0 : Vl t0 σ H (.int n)) (h1 : Vl t1 σ H (.int a)) (h2 : Vl t2 σ H (.int b)) (qa : ¬ (0 ≤ a ∧ a < n) → RaiseTo E H CP a) (qb : 0 ≤ a ∧ a < n → ¬ (0 ≤ b ∧ b < n) → RaiseTo E H CP b)
    (k : 0 ≤ a ∧ a < n → 0 ≤ b ∧ b < n → ∀ H', Same H H' → tw D σ H') :
    tSeq (tDrop (tCall (spChkPl K CP) [] E (tCons t0 (tCons (tLst (tCons t1 (tCons t2 tNil))) tNil)))) tw D σ H :=
  h0 _ (h1 _ (h2 _ ⟨by show 2 ≤ sizeLine; decide, fun p np => ⟨n, p, [a, b], rfl, .of upd_same, fun x hx => by
    have s : Same H (upd H p (.lst [.int a, .int b])) := same_upd np
    refine (?_ : RaiseTo E H CP x).to s
    unfold badPl at hx
    by_cases hin : 0 ≤ a ∧ a < n
    · by_cases hin2 : 0 ≤ b ∧ b < n
      · have := badPl_of (n := n) (xs := [a, b]) (by
          intro y hy
          rcases List.mem_cons.mp hy with rfl | hy
          · exact hin
          · rw [List.mem_singleton.mp hy]
            exact hin2)
        unfold badPl at this
        rw [this] at hx
        cases hx
      · rw [List.find?_cons_of_neg (badP_in hin)] at hx
        have e : x = b := List.mem_singleton.mp (List.mem_of_find?_eq_some hx)
        rw [e]
        exact qb hin hin2
    · rw [List.find?_cons_of_pos (badP_out hin)] at hx
      cases hx
      exact qa hin, fun hx H' s' => k (badPl_none hx a List.mem_cons_self) (badPl_none hx b (List.mem_cons_of_mem _ List.mem_cons_self)) H' ((same_upd np).trans s')⟩⟩))
end
/-! ### pairs of an order -/
inductive Rch (adj : Int → Int → Bool) (low : Int → Prop) : Int → Int → Prop
  | one {x y : Int} : adj x y = true → Rch adj low x y
  | step {x z y : Int} : Rch adj low x z → low z → adj z y = true → Rch adj low x y
section
variable {adj : Int → Int → Bool} {low low' : Int → Prop} {x y z : Int}
theorem Rch.mono (h : Rch adj low x y) (m : ∀ z, low z → low' z) : Rch adj low' x y := by
  induction h with
  | one a => exact .one a
  | step _ l a ih => exact .step ih (m _ l) a
theorem Rch.trans (h : Rch adj low x z) (l : low z) (k : Rch adj low z y) : Rch adj low x y := by
  induction k with
  | one a => exact .step h l a
  | step _ l2 a ih => exact .step ih l2 a
theorem Rch.sym (ok : AdjOk adj) (h : Rch adj low x y) : Rch adj low y x := by
  induction h with
  | one a => exact .one (by rw [ok.sym]; exact a)
  | step _ l a ih => exact Rch.trans (.one (by rw [ok.sym]; exact a)) l ih
theorem Rch.last (h : Rch adj low x y) : ∃ a, adj a y = true := by
  cases h with
  | one a => exact ⟨_, a⟩
  | step _ _ a => exact ⟨_, a⟩
theorem Rch.first (h : Rch adj low x y) : ∃ a, adj x a = true := by
  induction h with
  | one a => exact ⟨_, a⟩
  | step _ _ _ ih => exact ih
end
section
variable {adj : Int → Int → Bool} {pos : Int → Nat}
theorem floyd1 (inj : ∀ x y a b, adj a x = true → adj b y = true → pos x = pos y → x = y) {k : Nat} {x y : Int} (h : Rch adj (fun z => pos z < k + 1) x y) :
    Rch adj (fun z => pos z < k) x y ∨ ∃ w, pos w = k ∧ Rch adj (fun z => pos z < k) x w ∧ Rch adj (fun z => pos z < k) w y := by
  induction h with
  | one a => exact .inl (.one a)
  | @step z y hz l a ih =>
    by_cases e : pos z = k
    · rcases ih with h | ⟨w, hw, h1, h2⟩
      · exact .inr ⟨z, e, h, .one a⟩
      · obtain ⟨b, hb⟩ := h1.last
        obtain ⟨c, hc⟩ := hz.last
        have : w = z := inj w z b c hb hc (by omega)
        subst this
        exact .inr ⟨w, hw, h1, .one a⟩
    · rcases ih with h | ⟨w, hw, h1, h2⟩
      · exact .inl (.step h (by omega) a)
      · exact .inr ⟨w, hw, h1, .step h2 (by omega) a⟩
theorem floyd (inj : ∀ x y a b, adj a x = true → adj b y = true → pos x = pos y → x = y) : ∀ {k : Nat} {x y : Int}, Rch adj (fun z => pos z < k) x y →
    adj x y = true ∨ ∃ w, pos w < k ∧ Rch adj (fun z => pos z < pos w) x w ∧ Rch adj (fun z => pos z < pos w) w y
  | 0, x, y, h => by
    cases h with
    | one a => exact .inl a
    | step _ l _ => exact absurd l (Nat.not_lt_zero _)
  | k + 1, x, y, h => by
    rcases floyd1 inj h with h | ⟨w, hw, h1, h2⟩
    · rcases floyd inj h with h | ⟨w, hw, h1, h2⟩
      · exact .inl h
      · exact .inr ⟨w, by omega, h1, h2⟩
    · exact .inr ⟨w, by omega, by rw [hw]; exact h1, by rw [hw]; exact h2⟩
end
def PairP (ls : List Lnk) (os : List Int) (u v : Int) : Prop := posOf u os < posOf v os ∧ Rch (adj0 ls) (fun z => posOf z os < posOf u os) u v
theorem pos_inj {os : List Int} {x y : Int} (hx : x ∈ os) (hy : y ∈ os) (h : posOf x os = posOf y os) : x = y := by
  have h1 := posOf_lt hx
  rw [h, posOf_lt hy] at h1
  exact (Option.some.inj h1).symm
theorem pos_len {os : List Int} {x : Int} (hx : x ∈ os) : posOf x os < os.length := (List.getElem?_eq_some_iff.mp (posOf_lt hx)).1
section
variable {N : Net} {os : List Int} {u v w : Int}
theorem adj_inj (ok : NetOk N) (oo : OrdOk N.n os) : ∀ x y a b, adj0 N.ls a x = true → adj0 N.ls b y = true → posOf x os = posOf y os → x = y := fun x y a b h1 h2 h3 =>
  pos_inj (oo.mem.mpr (adj0_in ok h1).2.1) (oo.mem.mpr (adj0_in ok h2).2.1) h3
theorem PairP.ins (ok : NetOk N) (h : PairP N.ls os u v) : (0 ≤ u ∧ u < N.n) ∧ (0 ≤ v ∧ v < N.n) := by
  obtain ⟨a, ha⟩ := h.2.last
  obtain ⟨b, hb⟩ := h.2.first
  exact ⟨(adj0_in ok hb).1, (adj0_in ok ha).2.1⟩
theorem PairP.ne (h : PairP N.ls os u v) : u ≠ v := fun e => by
  have := h.1
  rw [e] at this
  exact Nat.lt_irrefl _ this
theorem pair_clique (ok : NetOk N) (h1 : PairP N.ls os u v) (h2 : PairP N.ls os u w) (hvw : posOf v os < posOf w os) : PairP N.ls os v w := by
  have m : ∀ z, posOf z os < posOf u os → posOf z os < posOf v os := fun z hz => Nat.lt_trans hz h1.1
  exact ⟨hvw, ((h1.2.sym (adj0_ok ok)).mono m).trans h1.1 (h2.2.mono m)⟩
theorem pair_rec (ok : NetOk N) (oo : OrdOk N.n os) : PairP N.ls os u v ↔ posOf u os < posOf v os ∧ (adj0 N.ls u v = true ∨ ∃ w, PairP N.ls os w u ∧ PairP N.ls os w v) := by
  constructor
  · intro h
    refine ⟨h.1, ?_⟩
    rcases floyd (adj_inj ok oo) h.2 with h2 | ⟨w, hw, h1, h2⟩
    · exact .inl h2
    · exact .inr ⟨w, ⟨hw, h1.sym (adj0_ok ok)⟩, ⟨Nat.lt_trans hw h.1, h2⟩⟩
  · rintro ⟨hl, h | ⟨w, h1, h2⟩⟩
    · exact ⟨hl, .one h⟩
    · have m : ∀ z, posOf z os < posOf w os → posOf z os < posOf u os := fun z hz => Nat.lt_trans hz h1.1
      exact ⟨hl, ((h1.2.sym (adj0_ok ok)).mono m).trans h1.1 (h2.2.mono m)⟩
theorem pair_link (ok : NetOk N) (oo : OrdOk N.n os) (h : adj0 N.ls u v = true) : PairP N.ls os u v ∨ PairP N.ls os v u := by
  have hi := adj0_in ok h
  have hne : posOf u os ≠ posOf v os := fun e => hi.2.2 (pos_inj (oo.mem.mpr hi.1) (oo.mem.mpr hi.2.1) e)
  rcases Nat.lt_or_gt_of_ne hne with h1 | h1
  · exact .inl ⟨h1, .one h⟩
  · exact .inr ⟨h1, .one (by rw [adj0_sym]; exact h)⟩
end
open Classical in
/-- the upper neighbours of a place, in the order of ranks -/
noncomputable def upP (ls : List Lnk) (os : List Int) (u : Int) : List Int := os.filter fun v => decide (PairP ls os u v)
section
variable {N : Net} {ls : List Lnk} {os : List Int} {u v w : Int}
open Classical in
theorem mem_up : v ∈ upP ls os u ↔ v ∈ os ∧ PairP ls os u v := by
  unfold upP
  rw [List.mem_filter, decide_eq_true_eq]
theorem mem_upP (ok : NetOk N) (oo : OrdOk N.n os) : v ∈ upP N.ls os u ↔ PairP N.ls os u v := by
  rw [mem_up]
  exact ⟨fun h => h.2, fun h => ⟨oo.mem.mpr (h.ins ok).2, h⟩⟩
open Classical in
theorem up_eq {fs : List Int} (oo : OrdOk N.n os) (h : ∀ v ∈ os, v ∈ fs ↔ PairP N.ls os u v) : os.filter (fun v => decide (v ∈ fs)) = upP N.ls os u := by
  unfold upP
  refine List.filter_congr fun v hv => ?_
  rw [Bool.eq_iff_iff, decide_eq_true_eq, decide_eq_true_eq]
  exact h v hv
theorem up_nodup (oo : OrdOk N.n os) : (upP N.ls os u).Nodup := oo.nodup.filter _
theorem up_len (ok : NetOk N) (oo : OrdOk N.n os) : (upP N.ls os u).length ≤ 40 := by
  have e := oo.len
  have := ok.n40
  have h2 : (upP N.ls os u).length ≤ os.length := List.length_filter_le _ _
  omega
theorem pos_sorted {os : List Int} (h : os.Nodup) : os.Pairwise fun a b => posOf a os < posOf b os := by
  rw [List.pairwise_iff_getElem]
  intro i j hi hj hij
  rw [posOf_get h (List.getElem?_eq_getElem hi), posOf_get h (List.getElem?_eq_getElem hj)]
  exact hij
theorem up_sorted (oo : OrdOk N.n os) : (upP N.ls os u).Pairwise fun a b => posOf a os < posOf b os := (pos_sorted oo.nodup).filter _
end
/-! ### the program's ranks -/
def spRk (K : PySem.W.Frag) (CN : Addr) : Sp := fun vs H Q E => ∃ (p : Addr) (os : List Int), vs = [.ref p] ∧ SqL K H p (os.map V.int) ∧ os.length ≤ 100 ∧
  match badAt os with
  | some k => RaiseTo E H CN (k : Nat)
  | none => ∀ H' q, Same H H' → H q = none → H' q = some (.lst ((rk os).map V.int)) → Q (.ref q) H'
theorem posOf_new : ∀ {os : List Int} {i : Nat} {x : Int}, os[i]? = some x → x ∉ os.take i → posOf x os = i
  | [], _, _, h, _ => by simp at h
  | y :: ys, 0, x, h, _ => if_pos (Option.some.inj h)
  | y :: ys, i + 1, x, h, hn => by
    have h : ys[i]? = some x := h
    rw [List.take_succ_cons, List.mem_cons, not_or] at hn
    show (if y = x then 0 else posOf x ys + 1) = i + 1
    rw [if_neg (fun z => hn.1 z.symm), posOf_new h hn.2]
def fnd (os : List Int) (i : Nat) : List V := (rng os.length).map fun p => if p ∈ os.take i then V.int (posOf p os) else V.non
theorem fnd_len {os : List Int} {i : Nat} : (fnd os i).length = os.length := by
  unfold fnd
  rw [List.length_map, len_rng, Int.toNat_natCast]
theorem fnd_zero {os : List Int} : fnd os 0 = List.replicate os.length V.non := by
  refine List.ext_getElem (by rw [fnd_len, List.length_replicate]) fun p h1 h2 => ?_
  simp only [fnd, List.getElem_map, List.take_zero, List.not_mem_nil, if_false, List.getElem_replicate]
theorem fnd_get {os : List Int} {i : Nat} {x : Int} (h0 : 0 ≤ x) (h1 : x < (os.length : Int)) : (fnd os i)[x.toNat]? = some (if x ∈ os.take i then V.int (posOf x os) else V.non) := by
  have hl : x.toNat < (rng os.length).length := by
    rw [len_rng, Int.toNat_natCast]
    omega
  unfold fnd
  rw [List.getElem?_map, List.getElem?_eq_getElem hl, rng_get hl, show ((x.toNat : Nat) : Int) = x by omega]
  rfl
theorem fnd_succ {os : List Int} {i : Nat} {x : Int} (hx : 0 ≤ x ∧ x < (os.length : Int)) (h : os[i]? = some x) (hn : x ∉ os.take i) : fnd os (i + 1) = (fnd os i).set x.toNat (V.int i) := by
  refine List.ext_getElem (by rw [List.length_set, fnd_len, fnd_len]) fun p h1 h2 => ?_
  rw [List.getElem_set]
  simp only [fnd, List.getElem_map, rng_get]
  rw [take_snoc h]
  by_cases e : x.toNat = p
  · have e2 : (p : Int) = x := by omega
    rw [if_pos e, e2, if_pos (List.mem_append.mpr (.inr (List.mem_singleton.mpr rfl))), posOf_new h hn]
  · have e2 : ¬ (p : Int) = x := fun z => e (by omega)
    rw [if_neg e]
    by_cases c : (p : Int) ∈ os.take i
    · rw [if_pos c, if_pos (List.mem_append.mpr (.inl c))]
    · rw [if_neg c, if_neg (fun z => by
        rcases List.mem_append.mp z with z | z
        · exact c z
        · exact e2 (List.mem_singleton.mp z))]
theorem fnd_end {os : List Int} (ok : OrdOk os.length os) : fnd os os.length = (rk os).map V.int := by
  unfold fnd rk
  rw [List.take_length, List.map_map]
  exact List.map_congr_left fun p hp => if_pos (ok.mem.mpr (mem_rng.mp hp))
theorem flat_rep {x : V} : ∀ n : Nat, (List.replicate n [x]).flatten = List.replicate n x
  | 0 => rfl
  | n + 1 => by
    rw [List.replicate_succ, List.flatten_cons, flat_rep n]
    rfl
theorem vn_rep {σ : L2.St} {H : Hp} {ta tb : TE} {x : V} {n : Nat} (ha : Vl ta σ H x) (hb2 : ∀ H', Same H H' → Vl tb σ H' (.int (n : Nat))) (hn : n ≤ 1000) : Vn (tOp rRep (tLst (tCons ta tNil)) tb) σ H (List.replicate n x) := fun Q q =>
  ha _ ⟨by show 1 ≤ sizeLine; decide, fun p np => hb2 _ (same_upd np) _ ⟨p, _, _, rfl, rfl, upd_same, by omega, by omega, by
    rw [Int.toNat_natCast]
    show 1 * n ≤ sizeLine
    rw [Nat.one_mul]
    exact Nat.le_trans hn (by decide), fun t nt => by
    rw [Int.toNat_natCast, flat_rep]
    exact q t _ ((same_upd np).trans (same_upd nt)) (Same.free (same_upd np) nt) upd_same⟩⟩
abbrev sRanks : Stmt := topS 7
theorem scRanks : FnScope ["order", "n", "found", "rank", "place"] ["order"] (defScope sRanks) := ⟨rfl, rfl, rfl, by decide +kernel, rfl, by decide +kernel, by decide +kernel⟩
section
variable {P : Program} {w : World} {K : PySem.W.Frag} {mg : Str → Option Value} {base : Heap} {CN fI : Addr}
theorem ok_ranks {f : Addr} {fd : FuncData} (F : Fun K "ranks" "ranks" sRanks f fd) (hN : PySem.LowX.LowTxt K mg "NotAnOrder" CN fI) (ml : mg "len" = none) (me : mg "enumerate" = none) : FnOk P w K mg base (L2.CX P w) 2 f fd ["order"] (spRk K CN) := by
  refine F.okX scRanks (fun vs H Q E h => ?_) (fun cdv A outer s H vs Q E hr h => ?_)
  · obtain ⟨p, os, rfl, _⟩ := h
    rfl
  · obtain ⟨p, os, rfl, hS, hl, q⟩ := h
    refine ⟨_, pss_cons (ps_set (i := 1) scRanks.nd rfl (.inl rfl) (pe_callB call_len_seq (by rfl) ml PySem.boot_len (pa_cons (pv 0) pa_nil)))
      (pss_cons (ps_set (i := 2) scRanks.nd rfl (.inl rfl) (pe_op op_rep (pe_lst (pa_cons pe_non pa_nil)) (pv 1)))
      (pss_cons (ps_for (passes_of rfl) rfl (pi_enum (by rfl) me (pa_cons (pv 0) pa_nil)) (pg_tup rfl (pgs_cons (pg_name (i := 3) scRanks.nd rfl (.inl rfl)) (pgs_cons (pg_name (i := 4) scRanks.nd rfl (.inl rfl)) pgs_nil)))
      (pss_cons (ps_if (PW.pt (pw_or (pt_not (pt_chain op_le op_lt pe_int (pv 4) (pv 1))) (pw_or1 (pt_cmpR op_notN (pe_ix ix_list (pv 2) (pv 4) (fun _ _ => rfl)) pe_non (nomark _)))))
        (pss_one (ps_raiseLow rfl hN hr (takes_of rfl rfl rfl rfl) (by exact (pa_cons (pv 3) pa_nil))))
        pss_nil)
        (pss_one (ps_asg (pv 3) (pg_sub (pv 2) (pv 4) set_list)))))
      (pss_one (ps_ret (pv 2))))), ?_⟩
    refine q_asg (vl_lenI (vl_var rfl) hS) ?_
    refine q_asgN (xs := fnd os 0) (by
      rw [fnd_zero]
      exact vn_rep vl_c (fun _ _ => vl_var rfl) (by omega)) fun o H2 s2 no ho => ?_
    refine ⟨.ref p, rfl, p, _, rfl, s2.seq hS, for_en (xs := os.map V.int)
      (fun i σ H4 => ∃ y3 y4, σ = [some (.ref p), some (.int os.length), some (.ref o), y3, y4] ∧ Same H (but H4 o) ∧ H4 o = some (.lst (fnd os i)) ∧ badAt os = fb os.length (os.take i) (os.drop i) i)
      ⟨none, none, rfl, same_but s2 no, ho, rfl⟩ (fun i σ H4 hP => ?_) (fun i x T2 σ H4 hi hP nT2 => ?_) (fun σ H4 hP => ?_)⟩
    · obtain ⟨_, _, _, s4, _⟩ := hP
      exact (s4.trans but_same).seq hS
    · obtain ⟨y3, y4, rfl, s4, ho4, eb⟩ := hP
      have hi2 : i < os.length := by
        have := (List.getElem?_eq_some_iff.mp hi).1
        rw [List.length_map] at this
        exact this
      have hg : os[i]? = some os[i] := List.getElem?_eq_getElem hi2
      rw [List.getElem?_map, hg] at hi
      cases hi
      have ed : os.drop i = os[i] :: os.drop (i + 1) := List.drop_eq_getElem_cons hi2
      rw [ed] at eb
      generalize os[i] = x at hg eb ⊢
      have eb : badAt os = if (0 ≤ x ∧ x < (os.length : Int)) ∧ x ∉ os.take i then fb os.length (os.take i ++ [x]) (os.drop (i + 1)) (i + 1) else some i := eb
      have sH := s4.trans but_same
      refine ⟨T2, _, rfl, .of upd_same, rfl, _, _, rfl, _, _, rfl, rfl, ?_⟩
      have s6 : Same H4 (upd H4 T2 (.tup [.int (i : Nat), .int x])) := same_upd nT2
      have ho5 := s6 _ _ ho4
      have s46 : Same (but H4 o) (but (upd H4 T2 (.tup [.int (i : Nat), .int x])) o) := but_mono s6
      generalize upd H4 T2 (.tup [.int (i : Nat), .int x]) = H5 at s6 ho5 s46 ⊢
      refine q_when (b := !(decide ((0 : Int) ≤ x) && decide (x < (os.length : Int))) || decide (x ∈ os.take i)) ?_ (fun hb => ?_) (fun hb => ?_)
      · refine an_or (an_not (an_test (vl_chainI vl_c (vl_var rfl) (vl_var rfl)))) fun hk => ?_
        rw [Bool.not_eq_false', Bool.and_eq_true, decide_eq_true_eq, decide_eq_true_eq] at hk
        have g := atI_nat (fnd_get (i := i) hk.1 hk.2)
        rw [show ((x.toNat : Nat) : Int) = x by omega] at g
        refine (an_test (vl_notN (vl_ixL (K := K) (vl_var rfl) (vl_var rfl) (.of ho5) g))).is ?_
        by_cases c : x ∈ os.take i
        · rw [if_pos c, decide_eq_true c]
          rfl
        · rw [if_neg c, decide_eq_false c]
          rfl
      · rw [if_neg (fun c => by
          rw [decide_eq_true c.1.1, decide_eq_true c.1.2, decide_eq_false c.2] at hb
          exact absurd hb (by decide))] at eb
        rw [eb] at q
        exact raise_now (va_cons (vl_var rfl) va_nil) (q.to (sH.trans s6))
      · rw [Bool.or_eq_false_iff, Bool.not_eq_false', Bool.and_eq_true, decide_eq_true_eq, decide_eq_true_eq, decide_eq_false_iff_not] at hb
        rw [if_pos hb] at eb
        refine ⟨.int i, rfl, .ref o, rfl, .int x, rfl, o, _, x, x.toNat, rfl, rfl, ho5, ?_, ?_⟩
        · unfold ixN
          rw [if_pos hb.1.1, fnd_len, if_pos (by omega)]
        · refine ⟨_, _, rfl, ?_, ?_, ?_⟩
          · rw [but_upd]
            exact s4.trans s46
          · rw [upd_same, fnd_succ hb.1 hg hb.2]
          · rw [eb, take_snoc hg]
    · obtain ⟨y3, y4, rfl, s4, ho4, eb⟩ := hP
      rw [List.length_map] at ho4 eb
      rw [List.take_length, List.drop_length] at eb
      have eb : badAt os = none := eb
      rw [eb] at q
      rw [fnd_end (bad_none eb)] at ho4
      exact g_ret (vl_var rfl) (q H4 o (s4.trans but_same) no ho4)
end
end Ovc
namespace CpCmb
def cmbs {α : Type} : List α → List (α × α)
  | [] => []
  | x :: xs => xs.map (fun y => (x, y)) ++ cmbs xs
theorem cmbs_map {α β : Type} (f : α → β) : ∀ xs : List α, cmbs (xs.map f) = (cmbs xs).map fun p => (f p.1, f p.2)
  | [] => rfl
  | x :: xs => by
    show (xs.map f).map (fun y => (f x, y)) ++ cmbs (xs.map f) = (xs.map (fun y => (x, y)) ++ cmbs xs).map fun p => (f p.1, f p.2)
    rw [List.map_append, cmbs_map f xs, List.map_map, List.map_map]
    rfl
theorem mem_cmbs_lt {α : Type} : ∀ (xs : List α) (p : α × α), p ∈ cmbs xs → p.1 ∈ xs ∧ p.2 ∈ xs
  | x :: xs, p, h => by
    rcases List.mem_append.mp h with h | h
    · obtain ⟨y, hy, rfl⟩ := List.mem_map.mp h
      exact ⟨List.mem_cons_self, List.mem_cons_of_mem _ hy⟩
    · have := mem_cmbs_lt xs p h
      exact ⟨List.mem_cons_of_mem _ this.1, List.mem_cons_of_mem _ this.2⟩
def nx2 (n : Nat) (p : Nat × Nat) : Option (Nat × Nat) :=
  if p.2 ≠ n - 1 then some (p.1, p.2 + 1) else if p.1 ≠ n - 2 then some (p.1 + 1, p.1 + 2) else none
theorem nx2_run {n : Nat} : ∀ (m a k : Nat) (p : Nat × Nat), a + m = n → (cmbs (List.range' a m))[k]? = some p → nx2 n p = (cmbs (List.range' a m))[k + 1]?
  | 0, a, k, p, _, h => by cases h
  | m + 1, a, k, p, e, h => by
    have e1 : cmbs (List.range' a (m + 1)) = (List.range' (a + 1) m).map (fun y => (a, y)) ++ cmbs (List.range' (a + 1) m) := by
      rw [List.range'_succ] <;> rfl
    rw [e1] at h ⊢
    have hl : ((List.range' (a + 1) m).map fun y => (a, y)).length = m := by rw [List.length_map, List.length_range']
    by_cases hk : k < m
    · rw [List.getElem?_append_left (by rw [hl]; exact hk), List.getElem?_map, List.getElem?_range' hk] at h
      have hp : p = (a, a + 1 + 1 * k) := (Option.some.inj h).symm
      subst hp
      by_cases hk1 : k + 1 < m
      · rw [List.getElem?_append_left (by rw [hl]; exact hk1), List.getElem?_map, List.getElem?_range' hk1]
        show (if a + 1 + 1 * k ≠ n - 1 then some (a, a + 1 + 1 * k + 1) else _) = _
        rw [if_pos (by omega)]
        show some (a, a + 1 + 1 * k + 1) = some (a, a + 1 + 1 * (k + 1))
        congr 2
      · rw [List.getElem?_append_right (by rw [hl]; omega), hl]
        have ek : k + 1 - m = 0 := by omega
        rw [ek]
        show (if a + 1 + 1 * k ≠ n - 1 then _ else if a ≠ n - 2 then some (a + 1, a + 2) else none) = _
        rw [if_neg (by omega)]
        by_cases hm : m = 1
        · subst hm
          rw [if_neg (by omega)] <;> rfl
        · rw [if_pos (by omega)]
          obtain ⟨m2, rfl⟩ : ∃ m2, m = m2 + 2 := ⟨m - 2, by omega⟩
          rw [List.range'_succ, List.range'_succ] <;> rfl
    · rw [List.getElem?_append_right (by rw [hl]; omega), hl] at h
      rw [List.getElem?_append_right (by rw [hl]; omega), hl, show k + 1 - m = k - m + 1 by omega]
      exact nx2_run m (a + 1) (k - m) p (by omega) h
theorem nx2_at {n k : Nat} {p : Nat × Nat} (h : (cmbs (List.range n))[k]? = some p) : nx2 n p = (cmbs (List.range n))[k + 1]? := by
  rw [List.range_eq_range'] at h ⊢
  exact nx2_run n 0 k p (by omega) h
theorem cmbs_first {n : Nat} (h : 2 ≤ n) : (cmbs (List.range n))[0]? = some (0, 1) := by
  obtain ⟨m, rfl⟩ : ∃ m, n = m + 2 := ⟨n - 2, by omega⟩
  rw [List.range_eq_range', List.range'_succ, List.range'_succ] <;> rfl
theorem cmbs_none {n : Nat} (h : n < 2) : cmbs (List.range n) = [] := by
  match n, h with
  | 0, _ => rfl
  | 1, _ => rfl
theorem map_range_get {α : Type} (d : α) (xs : List α) : (List.range xs.length).map (fun i => xs.getD i d) = xs := by
  apply List.ext_getElem?
  intro i
  rw [List.getElem?_map]
  by_cases h : i < xs.length
  · rw [List.getElem?_range h, List.getElem?_eq_getElem h]
    show some (xs.getD i d) = _
    rw [List.getD_eq_getElem?_getD, List.getElem?_eq_getElem h] <;> rfl
  · rw [List.getElem?_eq_none (by rw [List.length_range]; omega), List.getElem?_eq_none (by omega)] <;> rfl
theorem cmbs_ix {α : Type} (d : α) (xs : List α) : cmbs xs = (cmbs (List.range xs.length)).map fun p => (xs.getD p.1 d, xs.getD p.2 d) := by
  exact (congrArg cmbs (map_range_get d xs)).symm.trans (cmbs_map _ _)
theorem cmbs_len {α : Type} (xs : List α) : (cmbs xs).length = (cmbs (List.range xs.length)).length := by
  cases xs with
  | nil => rfl
  | cons x xs => rw [cmbs_ix x, List.length_map]
end CpCmb
namespace CpCmb
open PySem PySem.Spec
open Sem (wp)
theorem mro_cmb : mroOf (.type "itertools.combinations") = pure [.type "itertools.combinations", .type "object"] := by rw [mroOf_type]; kernel_rfl
theorem lookup_cmb_new : typeLookup (.type "itertools.combinations") "__new__" = pure (some (.builtin "itertools.combinations.__new__")) := by rw [typeLookup_type, builtinLookup_eq_fast]; kernel_rfl
theorem slot_cmb_init : Slot "itertools.combinations" "__init__" "object.__init__" :=
  .of (owner := "object") (n := "__init__") (by rw [typeLookup_type, builtinLookup_eq_fast]; kernel_rfl) (by decide +kernel) (by decide +kernel) (by decide +kernel)
    (by first | exact .inl (by decide +kernel) | exact .inr (by decide +kernel)) (by rw [isSubtype_type]; kernel_rfl)
theorem sub_cmb : isSubtype (.type "itertools.combinations") (.type "itertools.combinations") = pure true := by rw [isSubtype_type]; kernel_rfl
theorem called_cmb : TypeCalled "itertools.combinations" "itertools.combinations.__new__" "object.__init__" :=
  ⟨by decide +kernel, by decide +kernel, ⟨_, _, mro_cmb⟩, madeBy_type mro_cmb lookup_cmb_new (by decide +kernel), by decide +kernel, sub_cmb, slot_cmb_init⟩
theorem plain_cmb_new : plainId "itertools.combinations.__new__" = true := by decide +kernel
theorem typeCall_cmb_2 (a b : Value) : checkTypeCall "itertools.combinations" ⟨[a, b], []⟩ = pure () := by kernel_rfl
theorem newCall_cmb_2 (a b : Value) : checkBuiltinCall "itertools.combinations.__new__" ⟨[.type "itertools.combinations", a, b], []⟩ = pure () := by kernel_rfl
theorem entry_cmb_new : entryFor table "itertools.combinations.__new__" = some Builtin.«itertools.combinations.__new__» := entryFor_of_tree (by kernel_rfl)
theorem slot_cmb_iter : Slot "itertools.combinations" "__iter__" "itertools.combinations.__iter__" :=
  .of (owner := "itertools.combinations") (n := "__iter__") (by rw [typeLookup_type, builtinLookup_eq_fast]; kernel_rfl) (by decide +kernel) (by decide +kernel) (by decide +kernel)
    (by first | exact .inl (by decide +kernel) | exact .inr (by decide +kernel)) sub_cmb
theorem slot_cmb_next : Slot "itertools.combinations" "__next__" "itertools.combinations.__next__" :=
  .of (owner := "itertools.combinations") (n := "__next__") (by rw [typeLookup_type, builtinLookup_eq_fast]; kernel_rfl) (by decide +kernel) (by decide +kernel) (by decide +kernel)
    (by first | exact .inl (by decide +kernel) | exact .inr (by decide +kernel)) sub_cmb
theorem entry_cmb_iter : entryFor table "itertools.combinations.__iter__" = some Builtin.«dict_keyiterator.__iter__» :=
  entryFor_alias (id' := "dict_keyiterator.__iter__") (by kernel_rfl) (by first | rfl | decide +kernel | (unfold String.splitOn; simp +decide [String.splitOnAux])) (by decide +kernel) (by kernel_rfl)
theorem entry_cmb_next : entryFor table "itertools.combinations.__next__" = some Builtin.«itertools.combinations.__next__» := entryFor_of_tree (by kernel_rfl)
theorem owner_cmb : Manifest.owners.lookup (String.ofList ['s', 'n', 'o', 'i', 't', 'a', 'n', 'i', 'b', 'm', 'o', 'c', '.', 's', 'l', 'o', 'o', 't', 'r', 'e', 't', 'i'].reverse) = some Manifest.sig_itertools_combinations := by kernel_rfl
theorem args_cmb_iter (a : Value) : argsOk "itertools.combinations.__iter__" ⟨[a], []⟩ := by
  unfold argsOk; rw [signature?_of (id := "itertools.combinations.__iter__") (n := ['_', '_', 'r', 'e', 't', 'i', '_', '_']) (o := ['s', 'n', 'o', 'i', 't', 'a', 'n', 'i', 'b', 'm', 'o', 'c', '.', 's', 'l', 'o', 'o', 't', 'r', 'e', 't', 'i']) (by kernel_rfl) owner_cmb]; kernel_rfl
theorem args_cmb_next (a : Value) : argsOk "itertools.combinations.__next__" ⟨[a], []⟩ := by
  unfold argsOk; rw [signature?_of (id := "itertools.combinations.__next__") (n := ['_', '_', 't', 'x', 'e', 'n', '_', '_']) (o := ['s', 'n', 'o', 'i', 't', 'a', 'n', 'i', 'b', 'm', 'o', 'c', '.', 's', 'l', 'o', 'o', 't', 'r', 'e', 't', 'i']) (by kernel_rfl) owner_cmb]; kernel_rfl
theorem noDict_cmb : typeHasDict (.type "itertools.combinations") = false := by decide +kernel

/-- the object: the tuple it goes over, where it stands (0 new, 1 going, 2 at its end), the last result, the two numbers -/
abbrev IsCmb (h : Heap) (it pool : Addr) (st : Int) (last : Value) (i j : Nat) : Prop := h.get? it = some { cls := .type "itertools.combinations", dict := none, data := .fields #[.ref pool, .int st 0, last, .int i 0, .int j 0], slots := #[] }
abbrev IsPool (h : Heap) (pool : Addr) (vs : Array Value) : Prop := h.get? pool = some { cls := .type "tuple", data := .seq vs }
section
variable {prog : Program} {w : World} {A : Around} {E : Value → Shared → Prop} {s : Shared}
theorem code_cmb_new {l : Addr} {vs : List Value} {t : Tok} {Q₁ : Value → Shared → Prop} (hl : s.heap.IsList l vs.toArray) (hsz : vs.length ≤ sizeLine)
    (h : ∀ h' it pool, s.heap.objs.size ≤ pool → s.heap.objs.size ≤ it → pool ≠ it → IsPool h' pool vs.toArray → IsCmb h' it pool (if 2 > vs.length then 2 else 0) .none 0 1 → (∀ b o, s.heap.get? b = some o → h'.get? b = some o) → Q₁ (.ref it) { s with heap := h' }) :
    codeAny (model prog w) A (.call (.builtin "itertools.combinations.__new__") ⟨[.type "itertools.combinations", .ref l, .int 2 t], []⟩) (wants Q₁ E) s := by
  refine codeAny_of_tree ?_
  show wpAny _ A.in1 (do checkBuiltinCall "itertools.combinations.__new__" ⟨[.type "itertools.combinations", .ref l, .int 2 t], []⟩; again (.builtin "itertools.combinations.__new__" ⟨[.type "itertools.combinations", .ref l, .int 2 t], []⟩)) _ _ s
  refine wpAny_bind (wpAny_of_eq (newCall_cmb_2 _ _) (wpAny_pure ⟨plainId_quiet plain_cmb_new _, codeAny_builtin entry_cmb_new ?_⟩))
  rw [Around.under_plainId plain_cmb_new _]
  have hsub := sub_cmb
  have hd := noDict_cmb
  obtain ⟨hp, g, dd, tk, os⟩ := s
  have hcol : ∀ (A : Around) (E : Value → Shared → Prop) (Q : List Value → Shared → Prop), Q vs { heap := (hp.push (PyProof.Rows.seqObj "list" #[] 0)).update hp.objs.size (Obj.mapSeq (· ++ vs.toArray)), gens := g, drawn := dd, toks := tk, os := os } → wpAny (model prog w) A (collect (.ref l)) Q E ⟨hp, g, dd, tk, os⟩ :=
    fun A E Q q => PyProof.Rows.collect_list hl q hsz
  have hcat : ("itertools." ++ "combinations" : String) = "itertools.combinations" := by decide +kernel
  refine wpAny_bind ?_
  show wpAny _ _ (Builtin.Itertools.itClassAndRest "combinations" _ >>= _) _ _ _
  refine wpAny_bind ?_
  unfold Builtin.Itertools.itClassAndRest
  simp only [hcat]
  repeat (first
    | (refine hcol _ _ _ ?_)
    | wp_step
    | simp only [List.head?_cons, Option.some_or, List.getElem?_cons_succ, List.getElem?_cons_zero, List.length_cons, List.length_nil, List.forIn_nil])
  have hz : ∀ (h : Heap) (a : Addr) (f : Obj → Obj), (h.update a f).objs.size = h.objs.size := fun h a f => by
    unfold Heap.update
    simp
  refine h _ _ ((hp.push (PyProof.Rows.seqObj "list" #[] 0)).update hp.objs.size (Obj.mapSeq (· ++ vs.toArray))).objs.size ?_ ?_ ?_ (Heap.get?_push_of_some _ (Heap.get?_push_size _ rfl)) (Heap.get?_push_size _ rfl) fun b o e => ?_
  · rw [hz, Heap.size_push]
    exact Nat.le_succ _
  · rw [Heap.size_push, hz, Heap.size_push]
    show hp.objs.size ≤ _
    omega
  · rw [Heap.size_push]
    omega
  · refine Heap.get?_push_of_some _ (Heap.get?_push_of_some _ ?_)
    exact (Heap.get?_update_other _ _ (Nat.ne_of_gt (Heap.lt_size e))).trans (Heap.get?_push_of_some _ e)
theorem call_cmb {l : Addr} {vs : List Value} {t : Tok} {Q : Value → Shared → Prop} (hl : s.heap.IsList l vs.toArray) (hsz : vs.length ≤ sizeLine)
    (h : ∀ h' it pool, s.heap.objs.size ≤ pool → s.heap.objs.size ≤ it → pool ≠ it → IsPool h' pool vs.toArray → IsCmb h' it pool (if 2 > vs.length then 2 else 0) .none 0 1 → (∀ b o, s.heap.get? b = some o → h'.get? b = some o) → Q (.ref it) { s with heap := h' }) :
    wpAny (model prog w) A (call (.type "itertools.combinations") [.ref l, .int 2 t]) Q E s := by
  refine callType_codes (Q₁ := fun obj s₁ => s₁.TypeIs obj "itertools.combinations" ∧ Q obj s₁) called_cmb (typeCall_cmb_2 _ _) F.entry_object_init
    (code_cmb_new (A := A.in1) hl hsz fun h' it pool e1 e2 e3 hp hc hk => ⟨⟨_, hc, rfl⟩, h h' it pool e1 e2 e3 hp hc hk⟩) fun obj s₁ h₁ => ?_
  exact ⟨h₁.1, F.args_object_init_3 obj _ _, object_init_meets called_cmb.init.lookup called_cmb.made (by decide) prog w A.in1 _ s₁ ⟨h₁.1, rfl, h₁.2⟩⟩
theorem iter_cmb {it pool : Addr} {st : Int} {last : Value} {i j : Nat} {Q : Value → Shared → Prop} (hit : IsCmb s.heap it pool st last i j) (h : Q (.ref it) s) : wpAny (model prog w) A (pyIter (.ref it)) Q E s := by
  have hT : s.TypeIs (.ref it) "itertools.combinations" := ⟨_, hit, rfl⟩
  refine wpAny_pyIter_slot hT slot_cmb_iter (wpAny_call_entry slot_cmb_iter hT entry_cmb_iter ?_ (args_cmb_iter _))
  show wpAny _ _ (ret (.ref it)) _ _ s
  exact wpAny_pure ⟨_, rfl, "itertools.combinations", _, hT, slot_cmb_next.lookup, h⟩
/-- what is handed out -/
theorem next_cmb_0 {it pool : Addr} {vs : Array Value} {x y : Value} {last : Value} {i j : Nat} {Q : Option Value → Shared → Prop} (hne : pool ≠ it) (hit : IsCmb s.heap it pool 0 last i j) (hp : IsPool s.heap pool vs) (hx : vs.getD i .none = x) (hy : vs.getD j .none = y)
    (hQ : ∀ h', IsCmb h' it pool 1 (.ref s.heap.objs.size) i j → h'.get? s.heap.objs.size = some { cls := .type "tuple", data := .seq #[x, y] } → (∀ b o, b ≠ it → s.heap.get? b = some o → h'.get? b = some o) → Q (some (.ref s.heap.objs.size)) { s with heap := h' }) :
    wpAny (model prog w) A (pyNext (.ref it)) Q E s := by
  have hT : s.TypeIs (.ref it) "itertools.combinations" := ⟨_, hit, rfl⟩
  unfold pyNext
  refine wpAny_bind (wpAny_attempt (wpAny_callSpecial?_slot (name := Str.ofString "__next__") hT slot_cmb_next (wpAny_call_entry slot_cmb_next hT entry_cmb_next ?_ (args_cmb_next _))))
  show wpAny _ _ (field (.ref it) 0 >>= _) _ _ s
  refine wpAny_bind (wpAny_field hit rfl (x := .ref pool) rfl ?_)
  refine wpAny_bind ?_
  show wpAny _ _ (load it >>= _) _ _ s
  refine wpAny_bind (wpAny_load hit (wpAny_pure ?_))
  refine wpAny_bind ?_
  show wpAny _ _ (field (.ref it) 1 >>= _) _ _ s
  refine wpAny_bind (wpAny_field hit rfl (x := .int 0 0) rfl (wpAny_pure ?_))
  show wpAny _ _ (setField (.ref it) 1 (rawInt 1) >>= _) _ _ s
  refine wpAny_bind (wpAny_setField_rec hit (by simp) fun h₁ hit₁ hs₁ => ?_)
  replace hit₁ : IsCmb h₁ it pool 1 last i j := hit₁
  have hp₁ : IsPool h₁ pool vs := (hs₁.2 _ hne).trans hp
  refine wpAny_bind ?_
  show wpAny _ _ (Builtin.Itertools.itPoolItems (.ref pool) >>= _) _ _ _
  refine wpAny_bind ?_
  show wpAny _ _ (seqItems? (.ref pool) >>= _) _ _ _
  refine wpAny_bind (wpAny_seqItems hp₁ rfl (wpAny_pure ?_))
  show wpAny _ _ (newTuple [vs.getD i .none, vs.getD j .none]) _ _ _
  rw [hx, hy]
  refine wpAny_newTuple ?_ (by show 2 ≤ sizeLine; decide)
  have hit₂ : IsCmb (h₁.push { cls := .type "tuple", data := .seq #[x, y] }) it pool 1 last i j := Heap.get?_push_of_some _ hit₁
  refine wpAny_bind (wpAny_field hit₂ rfl (x := last) rfl ?_)
  refine wpAny_bind (wpAny_setField_rec hit₂ (by simp) fun h₃ hit₃ hs₃ => ?_)
  have hsz : h₁.objs.size = s.heap.objs.size := hs₁.1
  have hlt : it < s.heap.objs.size := Heap.lt_size hit
  refine wpAny_bind (wpAny_letGo ?_)
  refine wpAny_pure ⟨_, rfl, wpAny_pure ?_⟩
  show Q (some (.ref h₁.objs.size)) _
  rw [hsz]
  refine hQ h₃ ?_ ?_ fun b o hb e => ?_
  · replace hit₃ : IsCmb h₃ it pool 1 (.ref h₁.objs.size) i j := hit₃
    rw [← hsz]
    exact hit₃
  · rw [← hsz]
    exact (hs₃.2 _ (by rw [hsz]; exact Nat.ne_of_gt hlt)).trans (Heap.get?_push_size _ rfl)
  · exact (hs₃.2 _ hb).trans (Heap.get?_push_of_some _ ((hs₁.2 _ hb).trans e))
def nc (n : Nat) (indices : List Nat) : Option (List Nat) :=
  let r := indices.length
  match (List.range r).reverse.find? fun i => indices.getD i 0 != i + n - r with
  | none => none
  | some i => some (indices.take i ++ (List.range (r - i)).map (indices.getD i 0 + 1 + ·))
theorem nc_eq {n i j : Nat} (h : 2 ≤ n) : nc n [i, j] = (nx2 n (i, j)).map fun p => [p.1, p.2] := by
  have er : (List.range 2).reverse = [1, 0] := by decide
  have e1 : (1 + n - 2) = n - 1 := by omega
  have e0 : (0 + n - 2) = n - 2 := by omega
  show (match (List.range 2).reverse.find? fun k => [i, j].getD k 0 != k + n - 2 with
    | none => none
    | some k => some ([i, j].take k ++ (List.range (2 - k)).map ([i, j].getD k 0 + 1 + ·))) = _
  rw [er]
  unfold nx2
  by_cases h1 : j = n - 1
  · have b1 : ([i, j].getD 1 0 != 1 + n - 2) = false := by
      show (j != 1 + n - 2) = false
      rw [e1, h1]
      exact bne_self_eq_false _
    by_cases h2 : i = n - 2
    · have b2 : ([i, j].getD 0 0 != 0 + n - 2) = false := by
        show (i != 0 + n - 2) = false
        rw [e0, h2]
        exact bne_self_eq_false _
      rw [List.find?_cons, b1]
      dsimp only
      rw [List.find?_cons, b2]
      dsimp only
      rw [if_neg (by simpa using h1), if_neg (by simpa using h2)] <;> rfl
    · have b2 : ([i, j].getD 0 0 != 0 + n - 2) = true := by
        show (i != 0 + n - 2) = true
        rw [e0]
        exact bne_iff_ne.mpr h2
      rw [List.find?_cons, b1]
      dsimp only
      rw [List.find?_cons, b2]
      dsimp only
      rw [if_neg (by simpa using h1), if_pos (by simpa using h2)] <;> rfl
  · have b1 : ([i, j].getD 1 0 != 1 + n - 2) = true := by
      show (j != 1 + n - 2) = true
      rw [e1]
      exact bne_iff_ne.mpr h1
    rw [List.find?_cons, b1]
    dsimp only
    rw [if_pos (by simpa using h1)] <;> rfl
theorem next_cmb_1 {it pool : Addr} {vs : Array Value} {x y : Value} {last : Value} {i j i' j' : Nat} {Q : Option Value → Shared → Prop} (hne : pool ≠ it) (hit : IsCmb s.heap it pool 1 last i j) (hp : IsPool s.heap pool vs) (h2 : 2 ≤ vs.size) (hn : nx2 vs.size (i, j) = some (i', j')) (hx : vs.getD i' .none = x) (hy : vs.getD j' .none = y)
    (hQ : ∀ h', IsCmb h' it pool 1 (.ref s.heap.objs.size) i' j' → h'.get? s.heap.objs.size = some { cls := .type "tuple", data := .seq #[x, y] } → (∀ b o, b ≠ it → s.heap.get? b = some o → h'.get? b = some o) → Q (some (.ref s.heap.objs.size)) { s with heap := h' }) :
    wpAny (model prog w) A (pyNext (.ref it)) Q E s := by
  have hT : s.TypeIs (.ref it) "itertools.combinations" := ⟨_, hit, rfl⟩
  unfold pyNext
  refine wpAny_bind (wpAny_attempt (wpAny_callSpecial?_slot (name := Str.ofString "__next__") hT slot_cmb_next (wpAny_call_entry slot_cmb_next hT entry_cmb_next ?_ (args_cmb_next _))))
  show wpAny _ _ (field (.ref it) 0 >>= _) _ _ s
  refine wpAny_bind (wpAny_field hit rfl (x := .ref pool) rfl ?_)
  refine wpAny_bind ?_
  show wpAny _ _ (load it >>= _) _ _ s
  refine wpAny_bind (wpAny_load hit (wpAny_pure ?_))
  refine wpAny_bind ?_
  show wpAny _ _ (field (.ref it) 1 >>= _) _ _ s
  refine wpAny_bind (wpAny_field hit rfl (x := .int 1 0) rfl (wpAny_pure ?_))
  show wpAny _ _ (Builtin.Itertools.itPoolItems (.ref pool) >>= _) _ _ _
  refine wpAny_bind ?_
  show wpAny _ _ (seqItems? (.ref pool) >>= _) _ _ _
  refine wpAny_bind (wpAny_seqItems hp rfl (wpAny_pure ?_))
  have hnc : nc vs.size [i, j] = some [i', j'] := by rw [nc_eq h2, hn] <;> rfl
  split
  case h_2 hq => exact absurd (hq.symm.trans hnc) (by simp)
  case h_1 next hq =>
  have en : next = [i', j'] := Option.some.inj (hq.symm.trans hnc)
  subst en
  refine wpAny_bind ?_
  show wpAny _ _ (Builtin.Itertools.itSetNumbersFrom (.ref it) 3 [i', j']) _ _ _
  unfold Builtin.Itertools.itSetNumbersFrom
  try dsimp only
  refine wpAny_updateFields hit rfl ?_ (by rw [Array.size_append]; show _ ≤ sizeLine + 3; simp; decide)
  have hit₁ : IsCmb (s.heap.update it (Obj.mapFields fun fs => fs.extract 0 3 ++ (List.map (fun (n : Nat) => rawInt n) [i', j']).toArray)) it pool 1 last i' j' := by
    refine (Heap.get?_update_self _ hit rfl).trans ?_
    rfl
  have hs₁ : Heap.SameBut it s.heap (s.heap.update it (Obj.mapFields fun fs => fs.extract 0 3 ++ (List.map (fun (n : Nat) => rawInt n) [i', j']).toArray)) := Heap.SameBut.update ..
  generalize s.heap.update it (Obj.mapFields fun fs => fs.extract 0 3 ++ (List.map (fun (n : Nat) => rawInt n) [i', j']).toArray) = h₁ at hit₁ hs₁
  have hp₁ : IsPool h₁ pool vs := (hs₁.2 _ hne).trans hp
  refine wpAny_bind ?_
  show wpAny _ _ (Builtin.Itertools.itPoolItems (.ref pool) >>= _) _ _ _
  refine wpAny_bind ?_
  show wpAny _ _ (seqItems? (.ref pool) >>= _) _ _ _
  refine wpAny_bind (wpAny_seqItems hp₁ rfl (wpAny_pure ?_))
  show wpAny _ _ (newTuple [vs.getD i' .none, vs.getD j' .none]) _ _ _
  rw [hx, hy]
  refine wpAny_newTuple ?_ (by show 2 ≤ sizeLine; decide)
  have hit₂ : IsCmb (h₁.push { cls := .type "tuple", data := .seq #[x, y] }) it pool 1 last i' j' := Heap.get?_push_of_some _ hit₁
  refine wpAny_bind (wpAny_field hit₂ rfl (x := last) rfl ?_)
  refine wpAny_bind (wpAny_setField_rec hit₂ (by simp) fun h₃ hit₃ hs₃ => ?_)
  have hsz : h₁.objs.size = s.heap.objs.size := hs₁.1
  have hlt : it < s.heap.objs.size := Heap.lt_size hit
  refine wpAny_bind (wpAny_letGo ?_)
  refine wpAny_pure ⟨_, rfl, wpAny_pure ?_⟩
  show Q (some (.ref h₁.objs.size)) _
  rw [hsz]
  refine hQ h₃ ?_ ?_ fun b o hb e => ?_
  · replace hit₃ : IsCmb h₃ it pool 1 (.ref h₁.objs.size) i' j' := hit₃
    rw [← hsz]
    exact hit₃
  · rw [← hsz]
    exact (hs₃.2 _ (by rw [hsz]; exact Nat.ne_of_gt hlt)).trans (Heap.get?_push_size _ rfl)
  · exact (hs₃.2 _ hb).trans (Heap.get?_push_of_some _ ((hs₁.2 _ hb).trans e))
theorem stop_cmb {it : Addr} {Q : Option Value → Shared → Prop} (hh : A.handled = none) (hQ : ∀ h', (∀ b o, b ≠ it → s.heap.get? b = some o → h'.get? b = some o) → Q none { s with heap := h' }) :
    wpAny (model prog w) A.in1 (Builtin.Itertools.itStop (α := Fin)) (fun fin s' => ∃ v, fin = Fin.done (Flow.ret v) ∧ wpAny (model prog w) A (match (Except.ok (some v) : Except Value (Option Value)) with
      | Except.ok (some v) => pure (some v)
      | Except.ok none => unsupported "iter:the-iterator's-class-has-lost-its-__next__-amid-the-walk"
      | Except.error e => do
        let __do_lift ← isInstance e (Value.type "StopIteration")
        if __do_lift = true then pure none else throw e) Q E s')
      (fun e s' => wpAny (model prog w) A (match (Except.error e : Except Value (Option Value)) with
      | Except.ok (some v) => pure (some v)
      | Except.ok none => unsupported "iter:the-iterator's-class-has-lost-its-__next__-amid-the-walk"
      | Except.error e => do
        let __do_lift ← isInstance e (Value.type "StopIteration")
        if __do_lift = true then pure none else throw e) Q E s') s := by
  unfold Builtin.Itertools.itStop
  show wpAny _ _ (newExc (.type "StopIteration") [] >>= _) _ _ _
  refine wpAny_bind ?_
  simp only [newExc, newTuple]
  refine wpAny_bind (wpAny_newObj_type ?_ (by size_fits))
  refine wpAny_bind (m := firstArgMember _ _) (wpAny_of_eq (a := Value.none) (by first | rfl | (simp only [firstArgMember]; rfl)) ?_)
  refine wpAny_newObj_type ?_ (by size_fits)
  simp only [raiseNew]
  refine wpAny_bind (wpAny_handled ?_)
  first | rw [show A.in1.handled = none from hh] | rw [hh]
  refine wpAny_bind (wpAny_pure (wpAny_throw ?_))
  refine wpAny_bind (wpAny_isInstance (T := "StopIteration") (b := true) ⟨_, Heap.get?_push_size _ rfl, rfl⟩ isSubtype_stop ?_)
  refine wpAny_pure (hQ _ ?_)
  exact fun b o _ e => Heap.get?_push_of_some _ (Heap.get?_push_of_some _ e)
theorem next_cmb_end {it pool : Addr} {vs : Array Value} {last : Value} {i j : Nat} {Q : Option Value → Shared → Prop} (hh : A.handled = none) (hne : pool ≠ it) (hit : IsCmb s.heap it pool 1 last i j) (hp : IsPool s.heap pool vs) (h2 : 2 ≤ vs.size) (hn : nx2 vs.size (i, j) = none)
    (hQ : ∀ h', (∀ b o, b ≠ it → s.heap.get? b = some o → h'.get? b = some o) → Q none { s with heap := h' }) :
    wpAny (model prog w) A (pyNext (.ref it)) Q E s := by
  have hT : s.TypeIs (.ref it) "itertools.combinations" := ⟨_, hit, rfl⟩
  unfold pyNext
  refine wpAny_bind (wpAny_attempt (wpAny_callSpecial?_slot (name := Str.ofString "__next__") hT slot_cmb_next (wpAny_call_entry slot_cmb_next hT entry_cmb_next ?_ (args_cmb_next _))))
  show wpAny _ _ (field (.ref it) 0 >>= _) _ _ s
  refine wpAny_bind (wpAny_field hit rfl (x := .ref pool) rfl ?_)
  refine wpAny_bind ?_
  show wpAny _ _ (load it >>= _) _ _ s
  refine wpAny_bind (wpAny_load hit (wpAny_pure ?_))
  refine wpAny_bind ?_
  show wpAny _ _ (field (.ref it) 1 >>= _) _ _ s
  refine wpAny_bind (wpAny_field hit rfl (x := .int 1 0) rfl (wpAny_pure ?_))
  show wpAny _ _ (Builtin.Itertools.itPoolItems (.ref pool) >>= _) _ _ _
  refine wpAny_bind ?_
  show wpAny _ _ (seqItems? (.ref pool) >>= _) _ _ _
  refine wpAny_bind (wpAny_seqItems hp rfl (wpAny_pure ?_))
  have hnc : nc vs.size [i, j] = none := by rw [nc_eq h2, hn] <;> rfl
  split
  case h_1 next hq => exact absurd (hq.symm.trans hnc) (by simp)
  refine wpAny_bind (wpAny_setField_rec hit (by simp) fun h₁ hit₁ hs₁ => ?_)
  exact stop_cmb hh fun h' hk => hQ h' fun b o hb e => hk b o hb ((hs₁.2 _ hb).trans e)
theorem next_cmb_end2 {it pool : Addr} {last : Value} {i j : Nat} {Q : Option Value → Shared → Prop} (hh : A.handled = none) (hit : IsCmb s.heap it pool 2 last i j)
    (hQ : ∀ h', (∀ b o, b ≠ it → s.heap.get? b = some o → h'.get? b = some o) → Q none { s with heap := h' }) :
    wpAny (model prog w) A (pyNext (.ref it)) Q E s := by
  have hT : s.TypeIs (.ref it) "itertools.combinations" := ⟨_, hit, rfl⟩
  unfold pyNext
  refine wpAny_bind (wpAny_attempt (wpAny_callSpecial?_slot (name := Str.ofString "__next__") hT slot_cmb_next (wpAny_call_entry slot_cmb_next hT entry_cmb_next ?_ (args_cmb_next _))))
  show wpAny _ _ (field (.ref it) 0 >>= _) _ _ s
  refine wpAny_bind (wpAny_field hit rfl (x := .ref pool) rfl ?_)
  refine wpAny_bind ?_
  show wpAny _ _ (load it >>= _) _ _ s
  refine wpAny_bind (wpAny_load hit (wpAny_pure ?_))
  refine wpAny_bind ?_
  show wpAny _ _ (field (.ref it) 1 >>= _) _ _ s
  refine wpAny_bind (wpAny_field hit rfl (x := .int 2 0) rfl (wpAny_pure ?_))
  refine wpAny_bind (wpAny_rule ?_)
  exact stop_cmb hh hQ
end
end CpCmb
namespace L2
open PySem PySem.Spec PyProof.Rows
/-- the told pairs, each in a new tuple -/
def Itcm (ps : List (V × V)) : It :=
  ⟨fun i _ => i < ps.length, fun i H v H' => ∃ T x y, v = .ref T ∧ H T = none ∧ H' = upd H T (.tup [x, y]) ∧ ps[i]? = some (x, y), fun i _ => ps.length ≤ i⟩
/-- where the object stands ahead of turn k, n things in its tuple -/
def CmbAt (it pool : Addr) (vs : List Value) (k : Nat) (h : Heap) : Prop :=
  pool ≠ it ∧ CpCmb.IsPool h pool vs.toArray ∧ ∃ last i j, (k = 0 ∧ (i = 0 ∧ j = 1) ∧ CpCmb.IsCmb h it pool (if 2 > vs.length then 2 else 0) last i j) ∨ (∃ k', k = k' + 1 ∧ (CpCmb.cmbs (List.range vs.length))[k']? = some (i, j) ∧ CpCmb.IsCmb h it pool 1 last i j)
theorem turn_cmb {P : Program} {w : World} {K : PySem.W.Frag} {tg : Expr} {xs : List V} {vs : List Value} (rv : Vals xs vs) (it pool : Addr) :
    Turn P w K tg (Itcm (CpCmb.cmbs xs)) [it, pool] it (fun k h => CmbAt it pool vs k h) where
  mem := by simp
  obj := fun k h st b hb => by
    obtain ⟨hne, hp, last, i, j, hc⟩ := st
    have hi : ∃ st, CpCmb.IsCmb h it pool st last i j := by
      rcases hc with ⟨_, _, hc⟩ | ⟨_, _, _, hc⟩
      · exact ⟨_, hc⟩
      · exact ⟨_, hc⟩
    obtain ⟨st, hi⟩ := hi
    have e' : b = it ∨ b = pool := by simpa using hb
    rcases e' with z | z
    · rw [z]; exact ⟨_, hi, fun v q => nomatch q⟩
    · rw [z]; exact ⟨_, hp, fun v q => nomatch q⟩
  keep := fun k h h' st kk => by
    obtain ⟨hne, hp, last, i, j, hc⟩ := st
    refine ⟨hne, kk pool (by simp) _ hp, last, i, j, ?_⟩
    rcases hc with ⟨e1, e2, hc⟩ | ⟨k', e1, e2, hc⟩
    · exact .inl ⟨e1, e2, kk it (by simp) _ hc⟩
    · exact .inr ⟨k', e1, e2, kk it (by simp) _ hc⟩
  item := by
    intro X hP hw hK hc k pins s σ H E I hf st hg
    subst hP hw hK
    obtain ⟨hne, hp, last, i, j, hq⟩ := st
    have hlen : xs.length = vs.length := rv.length
    have hk : k < (CpCmb.cmbs (List.range vs.length)).length := by
      have e : k < (CpCmb.cmbs xs).length := hg
      rw [CpCmb.cmbs_len, hlen] at e
      exact e
    obtain ⟨p, hpk⟩ : ∃ p, (CpCmb.cmbs (List.range vs.length))[k]? = some p := ⟨_, List.getElem?_eq_getElem hk⟩
    obtain ⟨a, b⟩ := p
    have hmem := CpCmb.mem_cmbs_lt _ _ (List.mem_of_getElem? hpk)
    have ha : a < vs.length := List.mem_range.mp hmem.1
    have hb : b < vs.length := List.mem_range.mp hmem.2
    have h2 : 2 ≤ vs.length := by
      by_cases h2 : 2 ≤ vs.length
      · exact h2
      · rw [CpCmb.cmbs_none (by omega)] at hk
        exact absurd hk (Nat.not_lt_zero _)
    obtain ⟨u, hu, ru⟩ := rv.get (List.getElem?_eq_getElem (by omega : a < xs.length))
    obtain ⟨v, hv, rv2⟩ := rv.get (List.getElem?_eq_getElem (by omega : b < xs.length))
    have gu : vs.toArray.getD a .none = u := by
      have : vs.toArray[a]? = some u := by simpa using hu
      rw [Array.getD_eq_getD_getElem?, this] <;> rfl
    have gv : vs.toArray.getD b .none = v := by
      have : vs.toArray[b]? = some v := by simpa using hv
      rw [Array.getD_eq_getD_getElem?, this] <;> rfl
    have hxs : (CpCmb.cmbs xs)[k]? = some (xs[a], xs[b]) := by
      have hpk' : (CpCmb.cmbs (List.range xs.length))[k]? = some (a, b) := by
        rw [hlen]
        exact hpk
      rw [CpCmb.cmbs_ix V.non xs, List.getElem?_map, hpk']
      show some (xs.getD a V.non, xs.getD b V.non) = _
      rw [List.getD_eq_getElem?_getD, List.getD_eq_getElem?_getD, List.getElem?_eq_getElem (by omega : a < xs.length), List.getElem?_eq_getElem (by omega : b < xs.length)] <;> rfl
    have fin : ∀ h', CpCmb.IsCmb h' it pool 1 (.ref s.heap.objs.size) a b → h'.get? s.heap.objs.size = some { cls := .type "tuple", data := .seq #[u, v] } → (∀ c o, c ≠ it → s.heap.get? c = some o → h'.get? c = some o) →
        ∃ u', some (Value.ref s.heap.objs.size) = some u' ∧ wpAny (model X.prog X.w) X.A (letOwnedTupleGo tg (.ref it) u') (fun _ s2 => ∃ x H', Inv X pins σ H' s2 ∧ RelV x u' ∧ (Itcm (CpCmb.cmbs xs)).yld k H x H' ∧ CmbAt it pool vs (k + 1) s2.heap ∧ ∀ b ∈ [it, pool], H' b = none) E { s with heap := h' } := by
      intro h' hit' hT hkp
      have hil : it < s.heap.objs.size := by
        rcases hq with ⟨_, _, q⟩ | ⟨_, _, _, q⟩
        · exact Heap.lt_size q
        · exact Heap.lt_size q
      have new : ObjOk X.prog X.w (upd H s.heap.objs.size (.tup [xs[a], xs[b]])) h' s.heap.objs.size (.tup [xs[a], xs[b]]) :=
        ⟨by show 2 ≤ sizeLine; decide, [u, v], .cons ru (.cons rv2 .nil), ⟨_, hT, rfl, _, rfl⟩⟩
      have I1 : Inv X pins σ (upd H s.heap.objs.size (.tup [xs[a], xs[b]])) { s with heap := h' } :=
        I.turnedNew (t' := s.toks) (ch := [it]) (fun c o hc q => hkp c o (fun z => hc (by simp [z])) q) (fun c hc => hf c (by simp at hc; simp [hc])) (Nat.le_refl _) new
      refine ⟨_, rfl, go_of (s := { s with heap := h' }) hit' rfl rfl (by decide) ⟨.ref s.heap.objs.size, _, I1, rfl, ⟨_, _, _, rfl, I.hok.fresh (Nat.le_refl _), rfl, hxs⟩, ⟨hne, hkp pool _ hne hp, _, a, b, .inr ⟨k, rfl, hpk, hit'⟩⟩, fun c hcm => ?_⟩⟩
      have hlt : c < s.heap.objs.size := by
        have e' : c = it ∨ c = pool := by simpa using hcm
        rcases e' with z | z
        · rw [z]; exact hil
        · rw [z]; exact Heap.lt_size hp
      rw [upd_ne (Nat.ne_of_lt hlt)]
      exact (hf c hcm).1
    have hvz : vs.toArray.size = vs.length := List.size_toArray
    rcases hq with ⟨e1, ⟨e2, e3⟩, q⟩ | ⟨k', e1, e2, q⟩
    · subst e1 e2 e3
      rw [if_neg (by omega)] at q
      have e4 := hpk.symm.trans (CpCmb.cmbs_first h2)
      cases e4
      exact CpCmb.next_cmb_0 hne q hp gu gv fin
    · subst e1
      have e3 := CpCmb.nx2_at e2
      rw [hpk] at e3
      exact CpCmb.next_cmb_1 hne q hp (by rw [hvz]; exact h2) (by rw [hvz]; exact e3) gu gv fin
  done := by
    intro X hP hw hK hc k pins s σ H E I hf st hg
    subst hP hw hK
    obtain ⟨hne, hp, last, i, j, hq⟩ := st
    have hlen : xs.length = vs.length := rv.length
    have hk : (CpCmb.cmbs (List.range vs.length)).length ≤ k := by
      have e : (CpCmb.cmbs xs).length ≤ k := hg
      rw [CpCmb.cmbs_len, hlen] at e
      exact e
    have hvz : vs.toArray.size = vs.length := List.size_toArray
    have fin : ∀ h', (∀ b o, b ≠ it → s.heap.get? b = some o → h'.get? b = some o) → (none : Option Value) = none ∧ Inv X pins σ H { s with heap := h' } := fun h' hkp =>
      ⟨rfl, I.turnedL (t' := s.toks) (ch := [it]) (fun c o hc q => hkp c o (fun z => hc (by simp [z])) q) (fun c hc => hf c (by simp at hc; simp [hc]))⟩
    rcases hq with ⟨e1, ⟨e2, e3⟩, q⟩ | ⟨k', e1, e2, q⟩
    · subst e1
      by_cases h2 : 2 > vs.length
      · rw [if_pos h2] at q
        exact CpCmb.next_cmb_end2 (I.ok.hd hc) q fin
      · have e4 := CpCmb.cmbs_first (n := vs.length) (by omega)
        rw [List.getElem?_eq_none hk] at e4
        cases e4
    · subst e1
      have e3 := CpCmb.nx2_at e2
      rw [List.getElem?_eq_none hk] at e3
      have h2 : 2 ≤ vs.length := by
        by_cases h2 : 2 ≤ vs.length
        · exact h2
        · rw [CpCmb.cmbs_none (by omega)] at e2
          cases e2
      exact CpCmb.next_cmb_end (I.ok.hd hc) hne q hp (by rw [hvz]; exact h2) (by rw [hvz]; exact e3) fin
  self := fun A k s Q E st h => by
    obtain ⟨hne, hp, last, i, j, hq⟩ := st
    rcases hq with ⟨_, _, q⟩ | ⟨_, _, _, q⟩
    · exact CpCmb.iter_cmb q h
    · exact CpCmb.iter_cmb q h
def iCmb (K : PySem.W.Frag) (ta : TA) : TI := fun σ H R => ta σ H fun vs H1 => ∃ a xs, vs = [.ref a, .int 2] ∧ SqL K H1 a xs ∧ R (Itcm (CpCmb.cmbs xs)) H1
theorem pi_cmb {X : Cx} {e e2 tg : Expr} {ta : TA} {p pos : Pos} (hg : Gl X "combinations") (hm : X.mg "combinations" = some (.type "itertools.combinations")) (ha : PA X [e, e2] ta)
    (hs : starEach [e, e2] X.env = (false, eval e X.env) :: starEach [e2] X.env := by rfl) (hpl : (backTo pos (starEach [e2] X.env)).any (·.1) = false := by rfl) :
    PI X tg (.Call (.Name "combinations" p) [e, e2] [] pos) (iCmb X.K ta) := by
  refine ⟨fun pins s σ H R I h => ?_⟩
  refine Call_ (ld_glob I hg hm (PyProof.Rows.callWith_type1 (thn (ha.run pos pins s σ H _ I h) fun us s1 ⟨vs, H1, I1, r1, q1⟩ => ?_) hs hpl))
  obtain ⟨a, xs, ex, hq, q⟩ := q1
  subst ex
  cases r1 with
  | cons r rr =>
    cases rr with
    | cons r2 rr =>
      cases rr
      cases r
      obtain ⟨tk, r2⟩ := r2
      subst r2
      obtain ⟨its, rv, p', hz⟩ := I1.list hq
      refine CpCmb.call_cmb p'.isList (by simpa [rv.length] using hz) fun h' it pool e1 e2 e3 hp hc hk => ?_
      have I2 : Inv X pins σ H1 { s1 with heap := h' } := I1.kept (t' := s1.toks) hk
      refine CpCmb.iter_cmb (s := { s1 with heap := h' }) hc ?_
      refine ⟨it, [it, pool], _, _, H1, rfl, I2, turn_cmb rv it pool, ⟨e3, hp, _, 0, 1, .inl ⟨rfl, ⟨rfl, rfl⟩, hc⟩⟩, fun b hb => ?_, q⟩
      have hle : s1.heap.objs.size ≤ b := by
        have e' : b = it ∨ b = pool := by simpa using hb
        rcases e' with z | z
        · rw [z]; exact e2
        · rw [z]; exact e1
      exact I1.fpOk hle (I1.hok.fresh hle)
end L2
namespace Ovc
open PySem PySem.Spec PyProof.Rows L2
end Ovc
namespace L2
open PySem PySem.Spec PyProof.Rows
/-! ### a dict comprehension whose keys are tuples -/
theorem dictSetT {X : Cx} {pins : List (Addr × Obj)} {σ : St} {H : Hp} {s : Shared} {E : Value → Shared → Prop} {D b : Addr} {kvs : List (List Key × V)} {k : List Key} {v : V} {r : Value} {Q : Unit → Shared → Prop} (hu : X.A.units + 1 < cLine) (I : Inv X pins σ H s)
    (hD : H D = some (.dT kvs)) (hb : H b = some (.tup (k.map kV))) (hz : kvs.length < sizeLine) (rv : RelV v r) (done : ∀ s', Inv X pins σ (upd H D (.dT (putK kvs k v))) s' → Q () s') : wpAny (model X.prog X.w) X.A (dictSet D (.ref b) r) Q E s := by
  obtain ⟨_, notSys, us, rel, dof⟩ := dt_of I.hok hD
  have us_small : us.length ≤ sizeLine := by
    have := Paired.length rel
    omega
  have put_small : (putK kvs k v).length ≤ sizeLine := by
    have := length_putK kvs k v
    omega
  refine wpAny_dictSet_heap (hsz := us_small) (Nat.lt_of_succ_lt hu) (key_of I.hok hb) dof fun h' after same => done _ ?_
  obtain ⟨ob, es, ep, at_, e2, e3, e4, _, e6⟩ := after
  refine d_write I (by rw [hD] <;> exact True.intro) same ⟨ob, at_⟩ ⟨put_small, notSys, _, (rel.put k hb rv).keeps fun c ys ec => ?_, ob, es, ep, at_, e2, e3, e4, e6⟩
  rw [upd_ne (ne_of ec hD (fun z => nomatch z))]
  exact ec
section
variable {X : Cx}
/-- the reading: D the new dict; y the key, a tuple of ints and texts -/
def tDcT (wi : TI) (g : TG) (tt : TT) (tk tv : TE) (vs : List Nat) : TE := fun σ H Q => wi σ H fun J H1 => ∀ D, H1 D = none → ∃ W : Nat → Nat → Hp → Prop, (∃ m, W 0 m (upd H1 D (.dT []))) ∧ ∀ i m H, W i m H →
  (J.stop i H ∧ Q (.ref D) H) ∨ (J.go i H ∧ ∃ Nx : Hp → Prop, (∀ H', Nx H' → ∃ m', m' < m ∧ W (i + 1) m' H') ∧ ∀ x H', J.yld i H x H' → g x (wipe σ vs) H' fun σ2 H2 => wipe σ2 vs = wipe σ vs ∧ tt σ2 H2 fun c H3 =>
    if c = true then tk σ2 H3 fun y H4 => tv σ2 H4 fun z H5 => ∃ kvs k b, y = .ref b ∧ H5 b = some (.tup (k.map kV)) ∧ H5 D = some (.dT kvs) ∧ kvs.length < sizeLine ∧ Nx (upd H5 D (.dT (putK kvs k z))) else Nx H3)
theorem dcT_core {pins : List (Addr × Obj)} {s : Shared} {σ : St} {H : Hp} {Q : VK} {kx vx tg iter : Expr} {ifs : List Expr} {scope : Scope} {own : List (Str × Nat)} {pos pos' : Pos} {wi : TI} {g : TG} {tt : TT} {tk tv : TE} {use : Option (Value → Sem Unit)} {Qf : Value → Shared → Prop} (hu : X.A.units + 1 < cLine) (calm : X.calm = true) (nd : X.N.Nodup) (src : PI X tg iter wi) (ok : BlkOk X.N X.env.scope scope own)
    (pg : ∀ (s : Shared) (H : Hp) (C : Addr) (cl : List (Str × Addr)) (fp : List Addr), PG (X.blk s H scope (compEnvC scope cl C X.env) fp) tg g)
    (pt : ∀ (s : Shared) (H : Hp) (C : Addr) (cl : List (Str × Addr)) (fp : List Addr), PTs (X.blk s H scope (compEnvC scope cl C X.env) fp) ifs tt)
    (pk : ∀ (s : Shared) (H : Hp) (C : Addr) (cl : List (Str × Addr)) (fp : List Addr), PE (X.blk s H scope (compEnvC scope cl C X.env) fp) kx tk)
    (pv : ∀ (s : Shared) (H : Hp) (C : Addr) (cl : List (Str × Addr)) (fp : List Addr), PE (X.blk s H scope (compEnvC scope cl C X.env) fp) vx tv) (I : Inv X pins σ H s) (hs : ∀ x, foldedSetIterable iter X.env x = pure x)
    (want : tDcT wi g tt tk tv (own.map (·.2)) σ H Q)
    (back : ∀ D C s' m H', Inv X pins σ H' s' → Q (.ref D) H' → s'.heap.Ns C m → FpOk X pins H' C → compPost (model X.prog X.w) X.A X.xe use Qf (.ref D) C (.ok .next) s') :
    wpAny (model X.prog X.w) X.A (comprehension (.DictComp kx vx [⟨tg, iter, ifs, 0⟩] scope pos) scope X.env pos' newDict false (eval iter X.env) use) Qf X.xe s := by
  have cells : ∀ y ∈ scope.names, y.2 = .free → ∃ c, X.env.cells.lookup y.1 = some c := fun y hy e => I.ok.has _ (ok.free y hy e)
  refine wpAny_comprehension_free (use := use) rfl hs (closure_ok cells) ok.kind (fun y hy e => by rw [ok.uniq y hy, e]) (thn (src.run pins s σ H _ I want) fun xv s1 r1 => thn r1 fun itv s2 r2 => ?_)
  obtain ⟨it, fp, tn, J, Hi, rfl, Ii, T, t0, own0, reading⟩ := r2
  refine wpAny_newObj_type (newEnv_comp ?_)
  -- the new dict stands at D
  generalize eD : s2.heap.objs.size = D
  have freeD : Hi D = none := Ii.hok.fresh (Nat.le_of_eq eD)
  obtain ⟨W, ⟨m0, begin_⟩, turn⟩ := reading D freeD
  generalize e3 : (Shared.mk (s2.heap.push { cls := .type "dict", data := .dict #[] }) s2.gens s2.drawn s2.toks s2.os) = s3
  have heap3 : s3.heap = s2.heap.push { cls := .type "dict", data := .dict #[] } := by rw [← e3]
  have I3 : Inv X pins σ (upd Hi D (.dT [])) s3 := by
    rw [← e3]
    refine Ii.laid (t' := s2.toks) (fun b o q => Heap.get?_push_of_some _ q) (Nat.le_of_eq eD) ?_
    have := dt_empty (P := X.prog) (w := X.w) (H := upd Hi D (.dT [])) s2.heap Ii.big
    rw [eD] at this
    exact this
  have below : ∀ b ∈ fp, b < s2.heap.objs.size := fun b hb => let ⟨_, q, _⟩ := T.obj _ _ t0 b hb; Heap.lt_size q
  have own3 : ∀ b ∈ fp, FpOk X pins (upd Hi D (.dT [])) b ∧ b < s3.heap.objs.size := fun b hb => by
    have lt := below b hb
    constructor
    · refine ⟨?_, (own0 b hb).2⟩
      rw [upd_ne (by rw [← eD] <;> exact Nat.ne_of_lt lt)]
      exact (own0 b hb).1
    · rw [heap3, Heap.size_push]
      exact Nat.lt_succ_of_lt lt
  have t3 : tn 0 s3.heap := T.keep _ _ _ t0 fun b _ o q => by
    rw [heap3]
    exact Heap.get?_push_of_some _ q
  have I4 := block_start I3 ok nd own3
  have none3 : ∀ b ∈ fp, (upd Hi D (.dT [])) b = none := fun b hb => (own3 b hb).1.1
  show codeAny _ _ (.compStart (.DictComp kx vx [⟨tg, iter, ifs, 0⟩] scope pos) 0 (.ref it) (.ref D) (compEnvC scope (cellsFrom (s3.heap.objs.size + 1) scope.names (cloFrom X.env.cells scope.names [])) s3.heap.objs.size X.env)) _ { s3 with heap := pushCells (s3.heap.push { cls := .type "dict", data := .dict #[] }) scope.names }
  have pg' := pg s3 (upd Hi D (.dT [])) s3.heap.objs.size (cellsFrom (s3.heap.objs.size + 1) scope.names (cloFrom X.env.cells scope.names [])) fp
  have pt' := pt s3 (upd Hi D (.dT [])) s3.heap.objs.size (cellsFrom (s3.heap.objs.size + 1) scope.names (cloFrom X.env.cells scope.names [])) fp
  have pk' := pk s3 (upd Hi D (.dT [])) s3.heap.objs.size (cellsFrom (s3.heap.objs.size + 1) scope.names (cloFrom X.env.cells scope.names [])) fp
  have pv' := pv s3 (upd Hi D (.dT [])) s3.heap.objs.size (cellsFrom (s3.heap.objs.size + 1) scope.names (cloFrom X.env.cells scope.names [])) fp
  generalize ece : compEnvC scope (cellsFrom (s3.heap.objs.size + 1) scope.names (cloFrom X.env.cells scope.names [])) s3.heap.objs.size X.env = ce at I4 pg' pt' pk' pv' ⊢
  have loc : ce.locals = s3.heap.objs.size := by rw [← ece] <;> rfl
  generalize upd Hi D (.dT []) = H3 at I3 I4 pg' pt' pk' pv' begin_ none3 own3
  generalize e4 : ({ s3 with heap := pushCells (s3.heap.push { cls := .type "dict", data := .dict #[] }) scope.names } : Shared) = s4 at I4 ⊢
  have t4 : tn 0 s4.heap := T.keep _ _ _ t3 fun b _ o q => by
    rw [← e4]
    exact pushCells_keeps _ _ _ _ (Heap.get?_push_of_some _ q)
  have mine : ∀ {σ' : St} {H' : Hp} {s' : Shared}, Inv (X.blk s3 H3 scope ce fp) [] σ' H' s' → (∀ b ∈ fp, H' b = none) → ∀ b ∈ fp, FpOk (X.blk s3 H3 scope ce fp) [] H' b := fun {σ' H' s'} J' hn b hb =>
    ⟨hn b hb, (J'.ok.exf b hb).1, J'.ok.exfs b hb, .inl hb, fun x c e => (J'.ok.exf b hb).2 x c e, fun p hp => by cases hp⟩
  refine codeAny_compStart_dict ?goes (T.self X.A 0 _ _ _ t4 ?goes)
  refine compLoop_anyD (fun n s' => ∃ i H', Inv (X.blk s3 H3 scope ce fp) [] (wipe σ (own.map (·.2))) H' s' ∧ tn i s'.heap ∧ (∀ b ∈ fp, H' b = none) ∧ W i n H') ?_ m0 ⟨0, H3, I4, t4, none3, begin_⟩
  rintro n s5 ⟨i, H5, I5, t5, n5, w5⟩
  rcases turn i n H5 w5 with ⟨over, q⟩ | ⟨goes, Nx, next, step⟩
  · refine thnF (T.done (X.blk s3 H3 scope ce fp) rfl rfl rfl calm i [] s5 _ H5 (fun _ _ => False) I5 (mine I5 n5) t5 over) fun r s6 ⟨hr, I6⟩ => ?_
    subst hr
    have out : Inv X pins σ H5 s6 := I3.call' (ch := fp) I6.os I6.base I6.hok I6.bare fun b hb => let f := (own3 b hb).1; ⟨f.2.2.2.1, f.2.1, f.2.2.2.2.1, f.2.2.2.2.2⟩
    have nC : H5 s3.heap.objs.size = none := by
      rw [← loc]
      exact I6.free
    obtain ⟨m, ns, _⟩ := I6.loc
    have ns : s6.heap.Ns ce.locals m := ns
    rw [loc] at ns
    exact back D s3.heap.objs.size s6 m H5 out q ns (I3.fpOk (Nat.le_refl _) nC)
  · refine thnF (T.item (X.blk s3 H3 scope ce fp) rfl rfl rfl calm i [] s5 _ H5 (fun _ _ => False) I5 (mine I5 n5) t5 goes) fun r s6 ⟨u, hr, r6⟩ => ?_
    subst hr
    refine thnF r6 fun _ s7 ⟨x, H7, I7, rx, y7, t7, n7⟩ => ?_
    refine thnF (pg'.run _ s7 _ H7 x u _ (I7.pinned (mine I7 n7) (T.obj _ _ t7)) rx (step x H7 y7)) fun _ s8 ⟨σ8, H8, I8, w8, q8⟩ => ?_
    refine thnF (pt'.run _ s8 σ8 H8 _ I8 q8) fun c s9 ⟨H9, I9, q9⟩ => ?_
    have close : ∀ {s' : Shared} {H' : Hp}, Inv (X.blk s3 H3 scope ce fp) ([] ++ pinsAt fp s7.heap) σ8 H' s' → Nx H' → ∃ m, m < n ∧ ∃ i H', Inv (X.blk s3 H3 scope ce fp) [] (wipe σ (own.map (·.2))) H' s' ∧ tn i s'.heap ∧ (∀ b ∈ fp, H' b = none) ∧ W i m H' := fun {s' H'} J' nx => by
      obtain ⟨m', lt, w'⟩ := next H' nx
      have pinned : ∀ b ∈ fp, ∀ o, s7.heap.get? b = some o → s'.heap.get? b = some o ∧ H' b = none := fun b hb o e =>
        let z := J'.pin (b, o) (List.mem_append_right _ (List.mem_append_right _ (mem_pinsAt hb e)))
        ⟨z.1, z.2.1⟩
      have len : (wipe σ (own.map (·.2))).length = σ8.length := by rw [← w8, wipe_length]
      refine ⟨m', lt, i + 1, H', (J'.unpinned (pins := [])).weak len (fun j v e => ?_), T.keep _ _ _ t7 fun b hb o e => (pinned b hb o e).1, fun b hb => ?_, w'⟩
      · rw [← w8] at e
        exact (wipe_some e).1
      · obtain ⟨o, e, _⟩ := T.obj _ _ t7 b hb
        exact (pinned b hb o e).2
    cases c with
    | false =>
      simp only [Bool.false_eq_true, if_false] at q9 ⊢
      exact close I9 q9
    | true =>
      simp only [if_true] at q9 ⊢
      refine thnF (pk'.run _ s9 σ8 H9 _ I9 q9) fun z s10 ⟨yk, H10, I10, r10, q10⟩ => ?_
      refine thnF (pv'.run _ s10 σ8 H10 _ I10 q10) fun z2 s11 ⟨yv, H11, I11, r11, kvs, k, b, ek, hb, hD, hz, nx⟩ => ?_
      subst ek
      cases (show z = Value.ref b from r10)
      exact dictSetT (X := X.blk s3 H3 scope ce fp) hu I11 hD hb hz r11 fun s12 I12 => close I12 nx
theorem pe_dcT {kx vx tg iter : Expr} {ifs : List Expr} {scope : Scope} {own : List (Str × Nat)} {pos : Pos} {wi : TI} {g : TG} {tt : TT} {tk tv : TE} (hu : X.A.units + 1 < cLine) (calm : X.calm = true) (nd : X.N.Nodup) (src : PI X tg iter wi) (ok : BlkOk X.N X.env.scope scope own)
    (pg : ∀ (s : Shared) (H : Hp) (C : Addr) (cl : List (Str × Addr)) (fp : List Addr), PG (X.blk s H scope (compEnvC scope cl C X.env) fp) tg g)
    (pt : ∀ (s : Shared) (H : Hp) (C : Addr) (cl : List (Str × Addr)) (fp : List Addr), PTs (X.blk s H scope (compEnvC scope cl C X.env) fp) ifs tt)
    (pk : ∀ (s : Shared) (H : Hp) (C : Addr) (cl : List (Str × Addr)) (fp : List Addr), PE (X.blk s H scope (compEnvC scope cl C X.env) fp) kx tk)
    (pv : ∀ (s : Shared) (H : Hp) (C : Addr) (cl : List (Str × Addr)) (fp : List Addr), PE (X.blk s H scope (compEnvC scope cl C X.env) fp) vx tv) (hs : ∀ x, foldedSetIterable iter X.env x = pure x := by intro _; rfl) :
    PE X (.DictComp kx vx [⟨tg, iter, ifs, 0⟩] scope pos) (tDcT wi g tt tk tv (own.map (·.2))) := by
  refine ⟨fun pins s σ H Q I want => ?_⟩
  rw [arm_eval_DictComp]
  refine dcT_core hu calm nd src ok pg pt pk pv I hs want fun D C s' m H' out q ns own' => ⟨m, ns, fun h'' sb => ?_⟩
  obtain ⟨f0, f1, f2, f3, f4, f5⟩ := own'
  exact ⟨.ref D, H', out.turned (t' := s'.toks) (fun b o hb e => (sb.2 b hb).trans e) f0 f1 f3 f4 f5, rfl, q⟩
/-! ### .. whose dict is stored at once -/
theorem swapsD {kx vx : Expr} {gs : List Comprehension} {scope : Scope} {pos py : Pos} {y : Str} {l : Nat} {env : Env} (fn : env.scope.kind = .function) (loc : env.scope.names.lookup y = some .local) (row : (py.line == pos.line) = true)
    (other : (scope.names.any fun (n, k) => n == y && (k == .local || k == .cell)) = false) : swapsWith (.DictComp kx vx gs scope pos) (some (.Name y py)) l env = pure true := by
  have k1 : env.kindOf y = some .local := loc
  have k2 : env.blockKind = .function := by
    unfold Env.blockKind
    rw [fn] <;> rfl
  unfold swapsWith
  simp only [k2, k1, other, Expr.pos, row]
  rfl
/-- the new dict in slot i -/
theorem stored_ok {pins : List (Addr × Obj)} {σ : St} {H' : Hp} {s' : Shared} {i : Nat} {y : Str} {py : Pos} {D C : Addr} {m : Str → Option Value} {Ends_ : Ends} (nd : X.N.Nodup) (at_ : X.N[i]? = some y) (loc : X.env.scope.names.lookup y = some .local)
    (I : Inv X pins σ H' s') (q : gName i (.ref D) σ H' Ends_.nx) (ns : s'.heap.Ns C m) (f : FpOk X pins H' C) :
    wpAny (model X.prog X.w) X.A (assign (.Name y py) X.env (.ref D)) (fun _ s'' => ∃ m, s''.heap.Ns C m ∧ ∀ h', Heap.SameBut C s''.heap h' → SP X pins Ends_ .next { s'' with heap := h' }) X.xe s' := by
  refine wpAny_assign_Name (store_ok2 (v := V.ref D) I nd at_ (.inl loc) rfl (fun s2 I2 where_ => ?_) (.inr loc))
  obtain ⟨a, sb, ha⟩ := where_
  obtain ⟨f0, f1, f2, f3, f4, f5⟩ := f
  have apart : C ≠ a := ha.elim (fun z => z ▸ f1) fun z e => f4 y a z e.symm
  exact ⟨m, ns.sameBut sb apart, fun h3 sb3 => ⟨_, H', I2.turned (t' := s2.toks) (fun b o hb e => (sb3.2 b hb).trans e) f0 f1 f3 f4 f5, q⟩⟩
theorem ps_setDcT {i : Nat} {y : Str} {py : Pos} {kx vx tg iter : Expr} {ifs : List Expr} {scope : Scope} {own : List (Str × Nat)} {pos spos : Pos} {wi : TI} {g : TG} {tt : TT} {tk tv : TE} (hu : X.A.units + 1 < cLine) (calm : X.calm = true) (nd : X.N.Nodup) (at_ : X.N[i]? = some y) (loc : X.env.scope.names.lookup y = some .local)
    (sw : swapsWith (.DictComp kx vx [⟨tg, iter, ifs, 0⟩] scope pos) (some (.Name y py)) spos.line X.env = pure true) (src : PI X tg iter wi) (ok : BlkOk X.N X.env.scope scope own)
    (pg : ∀ (s : Shared) (H : Hp) (C : Addr) (cl : List (Str × Addr)) (fp : List Addr), PG (X.blk s H scope (compEnvC scope cl C X.env) fp) tg g)
    (pt : ∀ (s : Shared) (H : Hp) (C : Addr) (cl : List (Str × Addr)) (fp : List Addr), PTs (X.blk s H scope (compEnvC scope cl C X.env) fp) ifs tt)
    (pk : ∀ (s : Shared) (H : Hp) (C : Addr) (cl : List (Str × Addr)) (fp : List Addr), PE (X.blk s H scope (compEnvC scope cl C X.env) fp) kx tk)
    (pv : ∀ (s : Shared) (H : Hp) (C : Addr) (cl : List (Str × Addr)) (fp : List Addr), PE (X.blk s H scope (compEnvC scope cl C X.env) fp) vx tv) (hs : ∀ x, foldedSetIterable iter X.env x = pure x := by intro _; rfl) :
    PS X (.Assign [.Name y py] (.DictComp kx vx [⟨tg, iter, ifs, 0⟩] scope pos) spos) (tAsg (tDcT wi g tt tk tv (own.map (·.2))) (gName i)) := by
  refine ⟨fun pins s σ H D I want => ?_⟩
  rw [exec_Assign_Name_used _ _ _ _ sw]
  refine wpAny_bind (wpAny_standAt (wpAny_bind ?_))
  show wpAny _ X.A (comprehension (.DictComp kx vx [⟨tg, iter, ifs, 0⟩] scope pos) scope X.env (firstIterPos [⟨tg, iter, ifs, 0⟩] pos) newDict false (eval iter X.env) (some (assign (.Name y py) X.env)) >>= _) _ _ s
  refine wpAny_bind (thn (dcT_core (Qf := fun _ s' => SP X pins D .next s') hu calm nd src ok pg pt pk pv I hs (show tDcT wi g tt tk tv (own.map (·.2)) σ H (fun x H1 => gName i x σ H1 D.nx) from want) fun A C s' m H' out q ns f => stored_ok nd at_ loc out q ns f) fun _ s' hq => wpAny_pure (wpAny_pure hq))
theorem ps_setDc {i : Nat} {y : Str} {py : Pos} {kx vx tg iter : Expr} {ifs : List Expr} {scope : Scope} {own : List (Str × Nat)} {pos spos : Pos} {wi : TI} {g : TG} {tt : TT} {tk tv : TE} (calm : X.calm = true) (nd : X.N.Nodup) (at_ : X.N[i]? = some y) (loc : X.env.scope.names.lookup y = some .local)
    (sw : swapsWith (.DictComp kx vx [⟨tg, iter, ifs, 0⟩] scope pos) (some (.Name y py)) spos.line X.env = pure true) (src : PI X tg iter wi) (ok : BlkOk X.N X.env.scope scope own)
    (pg : ∀ (s : Shared) (H : Hp) (C : Addr) (cl : List (Str × Addr)) (fp : List Addr), PG (X.blk s H scope (compEnvC scope cl C X.env) fp) tg g)
    (pt : ∀ (s : Shared) (H : Hp) (C : Addr) (cl : List (Str × Addr)) (fp : List Addr), PTs (X.blk s H scope (compEnvC scope cl C X.env) fp) ifs tt)
    (pk : ∀ (s : Shared) (H : Hp) (C : Addr) (cl : List (Str × Addr)) (fp : List Addr), PE (X.blk s H scope (compEnvC scope cl C X.env) fp) kx tk)
    (pv : ∀ (s : Shared) (H : Hp) (C : Addr) (cl : List (Str × Addr)) (fp : List Addr), PE (X.blk s H scope (compEnvC scope cl C X.env) fp) vx tv) (hs : ∀ x, foldedSetIterable iter X.env x = pure x := by intro _; rfl) :
    PS X (.Assign [.Name y py] (.DictComp kx vx [⟨tg, iter, ifs, 0⟩] scope pos) spos) (tAsg (tDc wi g tt tk tv (own.map (·.2))) (gName i)) := by
  refine ⟨fun pins s σ H D I want => ?_⟩
  rw [exec_Assign_Name_used _ _ _ _ sw]
  refine wpAny_bind (wpAny_standAt (wpAny_bind ?_))
  show wpAny _ X.A (comprehension (.DictComp kx vx [⟨tg, iter, ifs, 0⟩] scope pos) scope X.env (firstIterPos [⟨tg, iter, ifs, 0⟩] pos) newDict false (eval iter X.env) (some (assign (.Name y py) X.env)) >>= _) _ _ s
  refine wpAny_bind (thn (dc_core (Qf := fun _ s' => SP X pins D .next s') calm nd I src ok pg pt pk pv hs (show tDc wi g tt tk tv (own.map (·.2)) σ H (fun x H1 => gName i x σ H1 D.nx) from want) fun A C s' m H' out q ns f => stored_ok nd at_ loc out q ns f) fun _ s' hq => wpAny_pure (wpAny_pure hq))
end
end L2
namespace Ovc
open PySem PySem.Spec PyProof.Rows L2
/-! ### the dict of the ways of links -/
def lkS (x y : Int) (f : Option V) (l : Lnk) : Option V := if x = l.b ∧ y = l.a then some (oV l.k) else if x = l.a ∧ y = l.b then some (oV l.t) else f
def lkv (ls : List Lnk) (x y : Int) : Option V := ls.foldl (lkS x y) none
theorem lkv_snoc {ls : List Lnk} {l : Lnk} {x y : Int} : lkv (ls ++ [l]) x y = lkS x y (lkv ls x y) l := by
  unfold lkv
  rw [List.foldl_append]
  rfl
theorem key2 {x y a b : Int} : (([Sum.inl x, Sum.inl y] : List L2.Key) = [Sum.inl a, Sum.inl b]) ↔ (x = a ∧ y = b) := by
  constructor
  · intro e
    injection e with e1 e2
    injection e2 with e2 _
    exact ⟨Sum.inl.inj e1, Sum.inl.inj e2⟩
  · rintro ⟨rfl, rfl⟩
    rfl
structure LinksAt (H : Hp) (d : Addr) (ls : List Lnk) : Prop where
  ex : ∃ kvs : List (List L2.Key × V), H d = some (.dT kvs) ∧ kvs.length ≤ 2 * ls.length ∧ ∀ x y : Int, valV kvs [Sum.inl x, Sum.inl y] = lkv ls x y
theorem LinksAt.to {H H' : Hp} {d : Addr} {ls : List Lnk} (h : LinksAt H d ls) (s : Same H H') : LinksAt H' d ls := by
  obtain ⟨kvs, e, l, v⟩ := h.ex
  exact ⟨kvs, s _ _ e, l, v⟩
theorem put_len {kvs : List (List L2.Key × V)} {k : List L2.Key} {v : V} : (putK kvs k v).length ≤ kvs.length + 1 := by
  unfold putK
  split
  · rw [List.length_map]
    omega
  · rw [List.length_append]
    exact Nat.le_refl _
def spLinkWays (K : PySem.W.Frag) : Sp := fun vs H Q _ => ∃ (v : V) (N : Net), vs = [v] ∧ Dp K H v (netD N) ∧ N.ls.length ≤ 1700 ∧ ∀ H' d, Same H H' → H d = none → LinksAt H' d N.ls → Q (.ref d) H'
theorem q_dputK {σ : L2.St} {H : Hp} {td ta tb te : TE} {D : Ends} {tw : TS} {v : V} {o : Addr} {kvs : List (List L2.Key × V)} {y1 y2 : Int} (hv : Vl te σ H v) (ho : Vl td σ H (.ref o)) (h1 : Vl ta σ H (.int y1)) (h2 : Vl tb σ H (.int y2)) (hd : H o = some (.dT kvs)) (hl : kvs.length < sizeLine)
    (k : ∀ T, H T = none → o ≠ T → tw D σ (upd (upd H T (.tup [.int y1, .int y2])) o (.dT (putK kvs [.inl y1, .inl y2] v)))) : tSeq (sDPut td (tTup (tCons ta (tCons tb tNil))) te) tw D σ H := q_dput (ty := td) hv ho h1 h2 hd hl k
theorem g_dputK {σ : L2.St} {H : Hp} {td ta tb te : TE} {D : Ends} {v : V} {o : Addr} {kvs : List (List L2.Key × V)} {y1 y2 : Int} (hv : Vl te σ H v) (ho : Vl td σ H (.ref o)) (h1 : Vl ta σ H (.int y1)) (h2 : Vl tb σ H (.int y2)) (hd : H o = some (.dT kvs)) (hl : kvs.length < sizeLine)
    (k : ∀ T, H T = none → o ≠ T → D.nx σ (upd (upd H T (.tup [.int y1, .int y2])) o (.dT (putK kvs [.inl y1, .inl y2] v)))) : sDPut td (tTup (tCons ta (tCons tb tNil))) te D σ H := q_dputK (tw := fun D σ H => D.nx σ H) hv ho h1 h2 hd hl k
abbrev sLinkWays : Stmt := topS 5
theorem scLinkWays : FnScope ["net", "prices", "a", "b", "there", "back"] ["net"] (defScope sLinkWays) := ⟨rfl, rfl, rfl, by decide +kernel, rfl, by decide +kernel, by decide +kernel⟩
section
variable {P : Program} {w : World} {K : PySem.W.Frag} {mg : Str → Option Value} {base : Heap}
theorem ok_linkWays {f : Addr} {fd : FuncData} {k : Nat} (F : Fun K "link_ways" "link_ways" sLinkWays f fd) : FnOk P w K mg base CX0 (k + 1) f fd ["net"] (spLinkWays K) := by
  refine F.ok scLinkWays (fun vs H Q E h => ?_) (fun cdv A outer s H vs Q E hr h => ?_)
  · obtain ⟨v, N, rfl, _⟩ := h
    rfl
  · obtain ⟨v, N, rfl, hN, hl, q⟩ := h
    have hu := hu_of hr
    refine ⟨_, pss_cons (ps_set (i := 1) scLinkWays.nd rfl (.inl rfl) pe_dnewT)
      (pss_cons (ps_for PassesOwn.never rfl (pi_list (pe_ix ix_tup (pv 0) pe_int (fun _ _ => rfl))) (pg_tup rfl (pgs_cons (pg_name (i := 2) scLinkWays.nd rfl (.inl rfl)) (pgs_cons (pg_name (i := 3) scLinkWays.nd rfl (.inl rfl)) (pgs_cons (pg_name (i := 4) scLinkWays.nd rfl (.inl rfl)) (pgs_cons (pg_name (i := 5) scLinkWays.nd rfl (.inl rfl)) pgs_nil)))))
      (pss_cons (ps_dput hu (pv 1) (pe_tup (pa_cons (pv 2) (pa_cons (pv 3) pa_nil))) (pv 4) rfl)
        (pss_one (ps_dput hu (pv 1) (pe_tup (pa_cons (pv 3) (pa_cons (pv 2) pa_nil))) (pv 5) rfl))))
      (pss_one (ps_ret (pv 1)))), ?_⟩
    obtain ⟨p, c, xs, rfl, hp, hc, hx⟩ := Dp.net_inv hN
    refine q_dnewT fun o no => ?_
    refine q_forLnk (Hb := H) (vl_ixT (K := K) (vl_var rfl) vl_c (seqT (same_upd no) hp) (atI_nat (j := 1) rfl)) hc hx (same_upd no)
      (fun i σ H3 => ∃ y2 y3 y4 y5 kvs, σ = [some (.ref p), some (.ref o), y2, y3, y4, y5] ∧ Same H H3 ∧ H3 o = some (.dT kvs) ∧ kvs.length ≤ 2 * i ∧ ∀ x y : Int, valV kvs [Sum.inl x, Sum.inl y] = lkv (N.ls.take i) x y)
      ⟨none, none, none, none, [], rfl, same_upd no, upd_same, Nat.zero_le _, fun x y => rfl⟩ (fun i σ H3 hP => ?_) (fun i l σ H3 hi hP => ?_) (fun σ H3 hP => ?_)
    · obtain ⟨_, _, _, _, _, _, s3, _⟩ := hP
      exact s3
    · obtain ⟨y2, y3, y4, y5, kvs, rfl, s3, ho, hlen, hv⟩ := hP
      have hil := (List.getElem?_eq_some_iff.mp hi).1
      refine q_dputK (vl_var rfl) (vl_var rfl) (vl_var rfl) (vl_var rfl) ho (Nat.lt_of_le_of_lt (m := 10000) (by omega) (by decide)) fun T nT oT => ?_
      have hl1 := put_len (kvs := kvs) (k := [Sum.inl l.a, Sum.inl l.b]) (v := oV l.t)
      refine g_dputK (vl_var rfl) (vl_var rfl) (vl_var rfl) (vl_var rfl) upd_same (Nat.lt_of_le_of_lt (m := 10000) (by omega) (by decide)) fun T2 nT2 oT2 => ?_
      have hl2 := put_len (kvs := putK kvs [Sum.inl l.a, Sum.inl l.b] (oV l.t)) (k := [Sum.inl l.b, Sum.inl l.a]) (v := oV l.k)
      have s4 : Same H (upd (upd H3 T (.tup [.int l.a, .int l.b])) o (.dT (putK kvs [Sum.inl l.a, Sum.inl l.b] (oV l.t)))) := same_upd' (s3.trans (same_upd nT)) no
      refine ⟨_, _, _, _, _, rfl, same_upd' (s4.trans (same_upd nT2)) no, upd_same, by omega, fun x y => ?_⟩
      rw [valV_put, valV_put, hv, take_snoc hi, lkv_snoc]
      unfold lkS
      by_cases c1 : x = l.b ∧ y = l.a
      · rw [if_pos (key2.mpr c1), if_pos c1]
      · rw [if_neg (fun z => c1 (key2.mp z)), if_neg c1]
        by_cases c2 : x = l.a ∧ y = l.b
        · rw [if_pos (key2.mpr c2), if_pos c2]
        · rw [if_neg (fun z => c2 (key2.mp z)), if_neg c2]
    · obtain ⟨y2, y3, y4, y5, kvs, rfl, s3, ho, hlen, hv⟩ := hP
      rw [List.take_length] at hv
      exact g_ret (vl_var rfl) (q H3 o s3 no ⟨kvs, ho, hlen, hv⟩)
end
/-! ### the law's links, ranks -/
structure LinkAt (H : Hp) (o : Addr) (N : Net) : Prop where
  ex : ∃ kvs, H o = some (.dK kvs) ∧ kvs.length = N.n.toNat ∧ ∀ x : Int, 0 ≤ x → x < N.n → ∃ a ns, valV kvs (.inl x) = some (.ref a) ∧ H a = some (.lst ((ns : List Int).map V.int)) ∧ ns.length ≤ 4000 ∧ ∀ y, y ∈ ns ↔ adj0 N.ls x y = true
structure RankAt (H : Hp) (o : Addr) (os : List Int) : Prop where
  ex : ∃ kvs, H o = some (.dK kvs) ∧ ∀ x ∈ os, valV kvs (.inl x) = some (.int (posOf x os : Nat))
theorem LinkAt.to {H H' : Hp} {o : Addr} {N : Net} (h : LinkAt H o N) (s : Same H H') : LinkAt H' o N := by
  obtain ⟨kvs, h1, h2, h3⟩ := h.ex
  exact ⟨kvs, s _ _ h1, h2, fun x h0 h1 => let ⟨a, ns, h4, h5, h6⟩ := h3 x h0 h1; ⟨a, ns, h4, s _ _ h5, h6⟩⟩
theorem RankAt.to {H H' : Hp} {o : Addr} {os : List Int} (h : RankAt H o os) (s : Same H H') : RankAt H' o os := by
  obtain ⟨kvs, h1, h2⟩ := h.ex
  exact ⟨kvs, s _ _ h1, h2⟩
theorem adj_take {ls : List Lnk} {i : Nat} {l : Lnk} (h : ls[i]? = some l) {x y : Int} : adj0 (ls.take (i + 1)) x y = true ↔ adj0 (ls.take i) x y = true ∨ (l.a = x ∧ l.b = y) ∨ (l.a = y ∧ l.b = x) := by
  rw [take_snoc h, adj0_iff, adj0_iff]
  constructor
  · rintro ⟨m, hm, e⟩
    rcases List.mem_append.mp hm with hm | hm
    · exact .inl ⟨m, hm, e⟩
    · rw [List.mem_singleton.mp hm] at e
      exact .inr e
  · rintro (⟨m, hm, e⟩ | e)
    · exact ⟨m, List.mem_append.mpr (.inl hm), e⟩
    · exact ⟨l, List.mem_append.mpr (.inr (List.mem_singleton.mpr rfl)), e⟩
abbrev sLinked : Stmt := topS 24
abbrev sRank : Stmt := topS 26
theorem scLinked : FnScope ["net", "linked", "place", "a", "b", "there", "back"] ["net"] (defScope sLinked) := ⟨rfl, rfl, rfl, by decide +kernel, rfl, by decide +kernel, by decide +kernel⟩
theorem scRank : FnScope ["order", "rank", "k"] ["order"] (defScope sRank) := ⟨rfl, rfl, rfl, by decide +kernel, rfl, by decide +kernel, by decide +kernel⟩
def spLinked (K : PySem.W.Frag) : Sp := fun vs H Q _ => ∃ (v : V) (N : Net), vs = [v] ∧ Dp K H v (netD N) ∧ NetOk N ∧ ∀ H' o, Same H H' → LinkAt H' o N → Q (.ref o) H'
def spRank (K : PySem.W.Frag) : Sp := fun vs H Q _ => ∃ (p : Addr) (os : List Int), vs = [.ref p] ∧ SqL K H p (os.map V.int) ∧ os.Nodup ∧ os.length ≤ 100 ∧ ∀ H' o, Same H H' → RankAt H' o os → Q (.ref o) H'
section
variable {P : Program} {w : World} {K : PySem.W.Frag} {mg : Str → Option Value} {base : Heap}
theorem ok_rank {f : Addr} {fd : FuncData} {k : Nat} (F : Fun K "_law_rank" "_law_rank" sRank f fd) (ml : mg "len" = none) (mr : mg "range" = none) : FnOk P w K mg base CX0 (k + 1) f fd ["order"] (spRank K) := by
  refine F.ok scRank (fun vs H Q E h => ?_) (fun cdv A outer s H vs Q E hr h => ?_)
  · obtain ⟨p, os, rfl, _⟩ := h
    rfl
  · obtain ⟨p, os, rfl, hS, hn, hl, q⟩ := h
    have hu := hu_of hr
    refine ⟨_, pss_cons (ps_set (i := 1) scRank.nd rfl (.inl rfl) pe_dnewK)
      (pss_cons (ps_for PassesOwn.never rfl (pi_range1 (by rfl) mr (pa_cons (pe_callB call_len_seq (by rfl) ml PySem.boot_len (pa_cons (pv 0) pa_nil)) pa_nil)) (pg_name (i := 2) scRank.nd rfl (.inl rfl))
      (pss_one (ps_dput hu (pv 1) (pe_ix ix_list (pv 0) (pv 2) (fun _ _ => rfl)) (pv 2) rfl)))
      (pss_one (ps_ret (pv 1)))), ?_⟩
    refine q_dnewK fun o no => ?_
    have so : Same H (upd H o (.dK [])) := same_upd no
    refine q_forR (n := (os.length : Int)) (va_cons (vl_lenI (vl_var rfl) (so.seq hS)) va_nil) ⟨by omega, by omega⟩
      (fun i σ H3 => ∃ y2 kvs, σ = [some (.ref p), some (.ref o), y2] ∧ H3 o = some (.dK kvs) ∧ Same H (but H3 o) ∧ kvs.length ≤ i ∧ ∀ x ∈ os.take i, valV kvs (.inl x) = some (.int (posOf x os : Nat)))
      ⟨none, [], rfl, upd_same, same_but so no, Nat.le_refl _, fun x hx => by
        rw [List.take_zero] at hx
        cases hx⟩ (fun i σ H3 hi hP => ?_) (fun σ H3 hP => ?_)
    · obtain ⟨y2, kvs, rfl, ho, s3, hk, hA⟩ := hP
      have hg : os[i]? = some os[i] := List.getElem?_eq_getElem (by omega)
      generalize os[i] = x at hg
      refine g_dputV (v := .int i) (vl_var rfl) (vl_var rfl) (vl_ixI (vl_var rfl) (vl_var rfl) ((s3.trans but_same).seq hS) hg) ho ?_ ?_
      · exact Nat.lt_of_le_of_lt (m := 10000) (by omega) (by decide)
      · refine ⟨_, _, rfl, upd_same, ?_, Nat.le_trans (length_putK _ _ _) (Nat.succ_le_succ hk), fun z hz => ?_⟩
        · rw [but_upd]
          exact s3
        · rw [valV_put]
          by_cases e : z = x
          · subst e
            rw [if_pos rfl, posOf_get hn hg]
          · rw [if_neg (fun h => e (Sum.inl.inj h))]
            rw [take_snoc hg] at hz
            rcases List.mem_append.mp hz with hz | hz
            · exact hA z hz
            · exact absurd (List.mem_singleton.mp hz) e
    · obtain ⟨y2, kvs, rfl, ho, s3, hk, hA⟩ := hP
      rw [Int.toNat_natCast, List.take_length] at hA
      exact g_ret (vl_var rfl) (q H3 o (s3.trans but_same) ⟨kvs, ho, hA⟩)
theorem ok_linked {f : Addr} {fd : FuncData} {k : Nat} (F : Fun K "_law_linked" "_law_linked" sLinked f fd) (mr : mg "range" = none) : FnOk P w K mg base CX0 (k + 1) f fd ["net"] (spLinked K) := by
  refine F.ok scLinked (fun vs H Q E h => ?_) (fun cdv A outer s H vs Q E hr h => ?_)
  · obtain ⟨v, N, rfl, _⟩ := h
    rfl
  · obtain ⟨v, N, rfl, hN, okN, q⟩ := h
    have hu := hu_of hr
    refine ⟨_, pss_cons (ps_set (i := 1) scLinked.nd rfl (.inl rfl) pe_dnewK)
      (pss_cons (ps_for PassesOwn.never rfl (pi_range1 (by rfl) mr (pa_cons (pe_ix ix_tup (pv 0) pe_int (fun _ _ => rfl)) pa_nil)) (pg_name (i := 2) scLinked.nd rfl (.inl rfl))
      (pss_one (ps_dput hu (pv 1) (pv 2) (pe_lst pa_nil) rfl)))
      (pss_cons (ps_for PassesOwn.never rfl (pi_list (pe_ix ix_tup (pv 0) pe_int (fun _ _ => rfl))) (pg_tup rfl (pgs_cons (pg_name (i := 3) scLinked.nd rfl (.inl rfl)) (pgs_cons (pg_name (i := 4) scLinked.nd rfl (.inl rfl)) (pgs_cons (pg_name (i := 5) scLinked.nd rfl (.inl rfl)) (pgs_cons (pg_name (i := 6) scLinked.nd rfl (.inl rfl)) pgs_nil)))))
      (pss_cons (ps_dput hu (pv 1) (pv 3) (pe_op op_cat (pe_dget hu (pv 1) (pv 3) (fun _ _ => rfl)) (pe_lst (pa_cons (pv 4) pa_nil))) rfl)
        (pss_one (ps_dput hu (pv 1) (pv 4) (pe_op op_cat (pe_dget hu (pv 1) (pv 4) (fun _ _ => rfl)) (pe_lst (pa_cons (pv 3) pa_nil))) rfl))))
      (pss_one (ps_ret (pv 1))))), ?_⟩
    obtain ⟨p, c, xs, rfl, hp, hc, hx⟩ := Dp.net_inv hN
    have n1 := okN.n1
    have n40 := okN.n40
    have l16 := okN.len
    refine q_dnewK fun o no => ?_
    have so : Same H (upd H o (.dK [])) := same_upd no
    refine q_forR (n := N.n) (va_cons (vl_ixT (vl_var rfl) vl_c (seqT so hp) (atI_nat (j := 0) rfl)) va_nil) ⟨by omega, by omega⟩
      (fun i σ H3 => ∃ y2 kvs, σ = [some (.ref p), some (.ref o), y2, none, none, none, none] ∧ H3 o = some (.dK kvs) ∧ Same H (but H3 o) ∧ kvs.length = i ∧ (∀ x : Int, (i : Int) ≤ x → valV kvs (.inl x) = none) ∧ ∀ x : Int, 0 ≤ x → x < i → ∃ a, valV kvs (.inl x) = some (.ref a) ∧ but H3 o a = some (.lst (([] : List Int).map V.int)))
      ⟨none, [], rfl, upd_same, same_but so no, rfl, fun _ _ => rfl, fun x h0 h1 => by omega⟩ (fun i σ H3 hi hP => ?_) (fun σ H3 hP => ?_)
    · obtain ⟨y2, kvs, rfl, ho, s3, hk, hN, hA⟩ := hP
      refine g_dputN (xs := ([] : List Int).map V.int) (vn_lst va_nil (Nat.zero_le _)) (fun _ _ => vl_var rfl) (fun _ _ => vl_var rfl) ho ?_ (fun a H4 s4 na ea => ?_)
      · exact Nat.lt_of_le_of_lt (m := 10000) (by omega) (by decide)
      · have oa : o ≠ a := ne_of_none ho na
        refine ⟨_, _, rfl, upd_same, ?_, ?_, fun x hx => ?_, fun x h0 h1 => ?_⟩
        · rw [but_upd]
          exact s3.trans (but_mono s4)
        · rw [putK_new _ (hN i (Int.le_refl _)), List.length_append, hk]
          rfl
        · rw [valV_put, if_neg (fun z => by
            have := Sum.inl.inj z
            omega)]
          exact hN x (by omega)
        · rw [valV_put, but_upd]
          by_cases e : x = (i : Int)
          · rw [if_pos (by rw [e])]
            exact ⟨a, rfl, by rw [but_ne oa.symm, ea]⟩
          · rw [if_neg (fun z => e (Sum.inl.inj z))]
            obtain ⟨b, hb1, hb2⟩ := hA x h0 (by omega)
            exact ⟨b, hb1, but_mono s4 _ _ hb2⟩
    · obtain ⟨y2, kvs, rfl, ho, s3, hk, hN, hA⟩ := hP
      rw [show ((N.n.toNat : Nat) : Int) = N.n by omega] at hA
      have sH := s3.trans but_same
      refine q_forLnk (j1 := 3) (j2 := 4) (j3 := 5) (j4 := 6) (Hb := H) (vl_ixT (vl_var rfl) vl_c (seqT sH hp) (atI_nat (j := 1) rfl)) hc hx sH
        (fun i σ H3 => ∃ y2 y3 y4 y5 y6 kvs near, σ = [some (.ref p), some (.ref o), y2, y3, y4, y5, y6] ∧ H3 o = some (.dK kvs) ∧ Same H (but H3 o) ∧ kvs.length = N.n.toNat ∧ ∀ x : Int, 0 ≤ x → x < N.n → ∃ a, valV kvs (.inl x) = some (.ref a) ∧ but H3 o a = some (.lst ((near x : List Int).map V.int)) ∧ (near x).length ≤ i ∧ ∀ y, y ∈ near x ↔ adj0 (N.ls.take i) x y = true)
        ⟨_, _, _, _, _, kvs, fun _ => [], rfl, ho, s3, hk, fun x h0 h1 => by
          obtain ⟨a, h2, h3⟩ := hA x h0 h1
          exact ⟨a, h2, h3, Nat.le_refl _, fun y => ⟨fun h => (nomatch h), fun h => (nomatch h)⟩⟩⟩ (fun i σ H3 hP => ?_) (fun i l σ H3 hl hP => ?_) (fun σ H3 hP => ?_)
      · obtain ⟨_, _, _, _, _, _, _, _, _, s4, _⟩ := hP
        exact s4.trans but_same
      · obtain ⟨y2, y3, y4, y5, y6, kvs, near, rfl, ho, s3, hk, hA⟩ := hP
        have hi := (List.getElem?_eq_some_iff.mp hl).1
        have hlk := okN.ok l (List.mem_of_getElem? hl)
        have h0 := hlk.a0
        have hab := hlk.ab
        have hbn := hlk.bn
        obtain ⟨aa, ha1, ha2, ha3, ha4⟩ := hA l.a (by omega) (by omega)
        refine q_dputN (xs := (near l.a ++ [l.b]).map V.int) (vn_catL (vl_dgetI (vl_var rfl) (vl_var rfl) ho ha1) (but_same _ _ ha2) (vn_oneI (vl_var rfl)) ?_) (fun _ _ => vl_var rfl) (fun _ _ => vl_var rfl) ho ?_ (fun a H4 s4 na ea => ?_)
        · show _ + 1 ≤ 1000000
          omega
        · exact Nat.lt_of_le_of_lt (m := 10000) (by omega) (by decide)
        have oa : o ≠ a := ne_of_none ho na
        have hA4 : ∀ x : Int, 0 ≤ x → x < N.n → ∃ b, valV (putK kvs (.inl l.a) (.ref a)) (.inl x) = some (.ref b) ∧ but (upd H4 o (.dK (putK kvs (.inl l.a) (.ref a)))) o b = some (.lst ((if x = l.a then near l.a ++ [l.b] else near x).map V.int)) := fun x h0 h1 => by
          rw [valV_put, but_upd]
          by_cases e : x = l.a
          · rw [if_pos (by rw [e]), if_pos e]
            exact ⟨a, rfl, by rw [but_ne oa.symm, ea]⟩
          · rw [if_neg (fun z => e (Sum.inl.inj z)), if_neg e]
            obtain ⟨b, hb1, hb2, _⟩ := hA x h0 h1
            exact ⟨b, hb1, but_mono s4 _ _ hb2⟩
        have hk4 : (putK kvs (.inl l.a) (.ref a)).length = N.n.toNat := by
          rw [putK_len (by rw [ha1]; rfl)]
          exact hk
        have s34 : Same H (but (upd H4 o (.dK (putK kvs (.inl l.a) (.ref a)))) o) := by
          rw [but_upd]
          exact s3.trans (but_mono s4)
        have ho4 : upd H4 o (.dK (putK kvs (.inl l.a) (.ref a))) o = some (.dK (putK kvs (.inl l.a) (.ref a))) := upd_same
        generalize upd H4 o (.dK (putK kvs (.inl l.a) (.ref a))) = H5 at hA4 s34 ho4 ⊢
        generalize putK kvs (.inl l.a) (.ref a) = kv5 at hA4 hk4 ho4
        obtain ⟨ab, hb1, hb2⟩ := hA4 l.b (by omega) hbn
        rw [if_neg (show ¬ l.b = l.a by omega)] at hb2
        have hbl := (hA l.b (by omega) hbn).choose_spec.2.2.1
        refine g_dputN (xs := (near l.b ++ [l.a]).map V.int) (vn_catL (vl_dgetI (vl_var rfl) (vl_var rfl) ho4 hb1) (but_same _ _ hb2) (vn_oneI (vl_var rfl)) ?_) (fun _ _ => vl_var rfl) (fun _ _ => vl_var rfl) ho4 ?_ (fun a6 H6 s6 na6 ea6 => ?_)
        · show _ + 1 ≤ 1000000
          omega
        · exact Nat.lt_of_le_of_lt (m := 10000) (by omega) (by decide)
        have oa6 : o ≠ a6 := ne_of_none ho4 na6
        refine ⟨_, _, _, _, _, _, fun x => if x = l.b then near l.b ++ [l.a] else if x = l.a then near l.a ++ [l.b] else near x, rfl, upd_same, ?_, ?_, fun x h0 h1 => ?_⟩
        · rw [but_upd]
          exact s34.trans (but_mono s6)
        · rw [putK_len (by rw [hb1]; rfl)]
          exact hk4
        · rw [valV_put, but_upd]
          show ∃ a, _ ∧ _ = some (HO.lst (((if x = l.b then near l.b ++ [l.a] else if x = l.a then near l.a ++ [l.b] else near x) : List Int).map V.int)) ∧ ((if x = l.b then near l.b ++ [l.a] else if x = l.a then near l.a ++ [l.b] else near x) : List Int).length ≤ i + 1 ∧ ∀ y, y ∈ ((if x = l.b then near l.b ++ [l.a] else if x = l.a then near l.a ++ [l.b] else near x) : List Int) ↔ _
          by_cases e : x = l.b
          · subst e
            rw [if_pos rfl, if_pos rfl]
            obtain ⟨_, _, _, h5, h6⟩ := hA l.b h0 h1
            refine ⟨a6, rfl, by rw [but_ne oa6.symm, ea6], ?_, fun y => ?_⟩
            · rw [List.length_append]
              exact Nat.succ_le_succ h5
            · rw [adj_take hl, List.mem_append, List.mem_singleton, h6 y]
              constructor
              · rintro (h | h)
                · exact .inl h
                · exact .inr (.inr ⟨h.symm, rfl⟩)
              · rintro (h | h | h)
                · exact .inl h
                · omega
                · exact .inr h.1.symm
          · rw [if_neg (fun z => e (Sum.inl.inj z)), if_neg e]
            obtain ⟨b, hb3, hb4⟩ := hA4 x h0 h1
            obtain ⟨_, _, _, h5, h6⟩ := hA x h0 h1
            refine ⟨b, hb3, but_mono s6 _ _ hb4, ?_, fun y => ?_⟩
            · by_cases e2 : x = l.a
              · subst e2
                rw [if_pos rfl, List.length_append]
                exact Nat.succ_le_succ h5
              · rw [if_neg e2]
                omega
            · rw [adj_take hl]
              by_cases e2 : x = l.a
              · subst e2
                rw [if_pos rfl, List.mem_append, List.mem_singleton, h6 y]
                constructor
                · rintro (h | h)
                  · exact .inl h
                  · exact .inr (.inl ⟨rfl, h.symm⟩)
                · rintro (h | h | h)
                  · exact .inl h
                  · exact .inr h.2.symm
                  · omega
              · rw [if_neg e2, h6 y]
                constructor
                · exact .inl
                · rintro (h | h | h)
                  · exact h
                  · exact absurd h.1.symm e2
                  · exact absurd h.2.symm e
      · obtain ⟨y2, y3, y4, y5, y6, kvs, near, rfl, ho, s3, hk, hA⟩ := hP
        rw [List.take_length] at hA
        refine g_ret (vl_var rfl) (q H3 o (s3.trans but_same) ⟨kvs, ho, hk, fun x h0 h1 => ?_⟩)
        obtain ⟨a, h2, h3, h4, h5⟩ := hA x h0 h1
        exact ⟨a, near x, h2, but_same _ _ h3, by omega, h5⟩
end
/-! ### what is reached over lower places -/
structure BfsAt (N : Net) (os : List Int) (u : Int) (inner found : List Int) : Prop where
  i0 : inner[0]? = some u
  ind : inner.Nodup
  iin : ∀ x ∈ inner, 0 ≤ x ∧ x < N.n
  irc : ∀ x ∈ inner, x = u ∨ (posOf x os < posOf u os ∧ Rch (adj0 N.ls) (fun z => posOf z os < posOf u os) u x)
  fnd : found.Nodup
  frc : ∀ v ∈ found, PairP N.ls os u v
def Seen (os : List Int) (u : Int) (inner found : List Int) (o : Int) : Prop := (posOf u os < posOf o os → o ∈ found) ∧ (posOf o os < posOf u os → o ∈ inner)
def BfsDone (N : Net) (os : List Int) (u : Int) (inner found : List Int) (t : Nat) : Prop := ∀ j, j < t → ∀ x, inner[j]? = some x → ∀ o, adj0 N.ls x o = true → Seen os u inner found o
section
variable {N : Net} {os : List Int} {u : Int} {inner found : List Int}
theorem nodup_snoc {xs : List Int} {o : Int} (h : xs.Nodup) (n : o ∉ xs) : (xs ++ [o]).Nodup := List.nodup_append.mpr ⟨h, List.nodup_cons.mpr ⟨List.not_mem_nil, .nil⟩, fun a ha b hb e => n (by
  rw [List.mem_singleton] at hb
  rw [← hb, ← e]
  exact ha)⟩
theorem BfsAt.find (ok : NetOk N) (h : BfsAt N os u inner found) {x o : Int} (hx : x ∈ inner) (a : adj0 N.ls x o = true) (hi : posOf u os < posOf o os) (n : o ∉ found) : BfsAt N os u inner (found ++ [o]) :=
  ⟨h.i0, h.ind, h.iin, h.irc, nodup_snoc h.fnd n, fun v hv => by
    rcases List.mem_append.mp hv with hv | hv
    · exact h.frc v hv
    · rw [List.mem_singleton.mp hv]
      rcases h.irc x hx with e | ⟨l, r⟩
      · subst e
        exact ⟨hi, .one a⟩
      · exact ⟨hi, .step r l a⟩⟩
theorem BfsAt.grow (ok : NetOk N) (h : BfsAt N os u inner found) {x o : Int} (hx : x ∈ inner) (a : adj0 N.ls x o = true) (lo : posOf o os < posOf u os) (n : o ∉ inner) : BfsAt N os u (inner ++ [o]) found :=
  ⟨by
    have := h.i0
    rw [List.getElem?_append_left (List.getElem?_eq_some_iff.mp this).1]
    exact this, nodup_snoc h.ind n, fun z hz => by
    rcases List.mem_append.mp hz with hz | hz
    · exact h.iin z hz
    · rw [List.mem_singleton.mp hz]
      exact (adj0_in ok a).2.1, fun z hz => by
    rcases List.mem_append.mp hz with hz | hz
    · exact h.irc z hz
    · rw [List.mem_singleton.mp hz]
      right
      rcases h.irc x hx with e | ⟨l, r⟩
      · subst e
        exact ⟨lo, .one a⟩
      · exact ⟨lo, .step r l a⟩, h.fnd, h.frc⟩
theorem BfsAt.len (h : BfsAt N os u inner found) : inner.length ≤ N.n.toNat := by
  have := sub_len (ys := rng N.n) h.ind fun x hx => mem_rng.mpr (h.iin x hx)
  rw [len_rng] at this
  exact this
theorem BfsAt.flen (ok : NetOk N) (h : BfsAt N os u inner found) : found.length ≤ N.n.toNat := by
  have := sub_len (ys := rng N.n) h.fnd fun x hx => mem_rng.mpr ((h.frc x hx).ins ok).2
  rw [len_rng] at this
  exact this
theorem bfs_all (ok : NetOk N) (h : BfsAt N os u inner found) (d : BfsDone N os u inner found N.n.toNat) : ∀ v, Rch (adj0 N.ls) (fun z => posOf z os < posOf u os) u v → Seen os u inner found v := by
  have all : ∀ x ∈ inner, ∀ o, adj0 N.ls x o = true → Seen os u inner found o := fun x hx o a => by
    obtain ⟨j, hj, e⟩ := List.getElem_of_mem hx
    have hl := h.len
    exact d j (by omega) x (by rw [List.getElem?_eq_getElem hj, e]) o a
  intro v hv
  induction hv with
  | one a => exact all u (List.mem_of_getElem? h.i0) _ a
  | step _ l a ih => exact all _ (ih.2 l) _ a
theorem bfs_iff (ok : NetOk N) (h : BfsAt N os u inner found) (d : BfsDone N os u inner found N.n.toNat) (v : Int) : v ∈ found ↔ PairP N.ls os u v :=
  ⟨h.frc v, fun p => (bfs_all ok h d v p.2).1 p.1⟩
end
abbrev sReached : Stmt := topS 25
theorem scReached : FnScope ["linked", "rank", "u", "inner", "found", "turn", "other"] ["linked", "rank", "u"] (defScope sReached) := ⟨rfl, rfl, rfl, by decide +kernel, rfl, by decide +kernel, by decide +kernel⟩
def spReached (K : PySem.W.Frag) : Sp := fun vs H Q _ => ∃ (lk rd : Addr) (u : Int) (N : Net) (os : List Int), vs = [.ref lk, .ref rd, .int u] ∧ LinkAt H lk N ∧ RankAt H rd os ∧ NetOk N ∧ OrdOk N.n os ∧ 0 ≤ u ∧ u < N.n ∧
  ∀ H' p fs, Same H H' → H' p = some (.lst ((fs : List Int).map V.int)) → (∀ v, v ∈ fs ↔ PairP N.ls os u v) → fs.length ≤ 40 → Q (.ref p) H'
section
variable {P : Program} {w : World} {K : PySem.W.Frag} {mg : Str → Option Value} {base : Heap}
theorem ok_reached {f : Addr} {fd : FuncData} {k : Nat} (F : Fun K "_law_reached" "_law_reached" sReached f fd) (ml : mg "len" = none) (mr : mg "range" = none) : FnOk P w K mg base CX0 (k + 1) f fd ["linked", "rank", "u"] (spReached K) := by
  refine F.ok scReached (fun vs H Q E h => ?_) (fun cdv A outer s H vs Q E hr h => ?_)
  · obtain ⟨lk, rd, u, N, os, rfl, _⟩ := h
    rfl
  · obtain ⟨lk, rd, u, N, os, rfl, hL, hR, ok, oo, u0, u1, q⟩ := h
    have hu := hu_of hr
    refine ⟨_, pss_cons (ps_set (i := 3) scReached.nd rfl (.inl rfl) (pe_lst (pa_cons (pv 2) pa_nil)))
      (pss_cons (ps_set (i := 4) scReached.nd rfl (.inl rfl) (pe_lst pa_nil))
      (pss_cons (ps_for PassesOwn.never rfl (pi_range1 (by rfl) mr (pa_cons (pe_callB call_lenD (by rfl) ml PySem.boot_len (pa_cons (pv 0) pa_nil)) pa_nil)) (pg_name (i := 5) scReached.nd rfl (.inl rfl))
      (pss_one (ps_if (pt_cmpR op_lt (pv 5) (pe_callB call_len_seq (by rfl) ml PySem.boot_len (pa_cons (pv 3) pa_nil)) (nomark _))
        (pss_one (ps_for PassesOwn.never rfl (pi_list (pe_dget hu (pv 0) (pe_ix ix_list (pv 3) (pv 5) (fun _ _ => rfl)) (fun _ _ => rfl))) (pg_name (i := 6) scReached.nd rfl (.inl rfl))
          (Evl.pss_cut (ps_if (PW.pt (pw_and (pt_cmpR op_gt (pe_dget hu (pv 1) (pv 6) (fun _ _ => rfl)) (pe_dget hu (pv 1) (pv 2) (fun _ _ => rfl)) (nomark _)) (pw_and1 (pt_cmpR op_notIn_seq (pv 6) (pv 4) (by rfl)))))
            (pss_one (ps_set (i := 4) scReached.nd rfl (.inl rfl) (pe_op op_cat (pv 4) (pe_lst (pa_cons (pv 6) pa_nil)))))
            pss_nil)
            (pss_one (ps_if (PW.pt (pw_and (pt_cmpR op_lt (pe_dget hu (pv 1) (pv 6) (fun _ _ => rfl)) (pe_dget hu (pv 1) (pv 2) (fun _ _ => rfl)) (nomark _)) (pw_and1 (pt_cmpR op_notIn_seq (pv 6) (pv 3) (by rfl)))))
            (pss_one (ps_set (i := 3) scReached.nd rfl (.inl rfl) (pe_op op_cat (pv 3) (pe_lst (pa_cons (pv 6) pa_nil)))))
            pss_nil)))))
        pss_nil)))
      (pss_one (ps_ret (pv 4))))), ?_⟩
    have n40 := ok.n40
    have uo := oo.mem.mpr ⟨u0, u1⟩
    obtain ⟨kl, hl1, hl2, hl3⟩ := hL.ex
    obtain ⟨kr, hr1, hr2⟩ := hR.ex
    refine q_asgN (vn_oneI (vl_var rfl)) fun pi H1 s1 n1 e1 => ?_
    refine q_lnew fun pf nf => ?_
    have s2 : Same H1 (upd H1 pf (.lst [])) := same_upd nf
    refine q_forR (n := (kl.length : Int)) (va_cons (vl_cb (va_cons (vl_var rfl) va_nil) fun _ k => ⟨lk, kl, rfl, (s1.trans s2) _ _ hl1, k⟩) va_nil) ⟨by omega, by omega⟩
      (fun i σ H3 => ∃ y5 y6 pi pf inner found, σ = [some (.ref lk), some (.ref rd), some (.int u), some (.ref pi), some (.ref pf), y5, y6] ∧ Same H H3 ∧ H3 pi = some (.lst ((inner : List Int).map V.int)) ∧ H3 pf = some (.lst ((found : List Int).map V.int)) ∧ BfsAt N os u inner found ∧ BfsDone N os u inner found i)
      ⟨none, none, pi, pf, [u], [], rfl, s1.trans s2, s2 _ _ e1, upd_same, ⟨rfl, List.nodup_cons.mpr ⟨List.not_mem_nil, .nil⟩, fun x hx => by
        rw [List.mem_singleton.mp hx]
        exact ⟨u0, u1⟩, fun x hx => .inl (List.mem_singleton.mp hx), .nil, fun v hv => (nomatch hv)⟩, fun j hj => absurd hj (Nat.not_lt_zero _)⟩ (fun i σ H3 hi hP => ?_) (fun σ H3 hP => ?_)
    · obtain ⟨y5, y6, pi, pf, inner, found, rfl, s3, hpi, hpf, hB, hD⟩ := hP
      refine g_when (b := decide ((i : Int) < (inner.length : Int))) (an_test (vl_I0 (vl_var rfl) (vl_lenI (vl_var rfl) (.of hpi)))) (fun hb => ?_) (fun hb => ?_)
      · have hb := of_decide_eq_true hb
        have hg : inner[i]? = some inner[i] := List.getElem?_eq_getElem (by omega)
        generalize inner[i] = x at hg
        have hxi := List.mem_of_getElem? hg
        have hxr := hB.iin x hxi
        obtain ⟨a, ns, h4, h5, h6, h7⟩ := hl3 x hxr.1 hxr.2
        have vk : ∀ (σ' : L2.St) (i : Nat) (z : Int) (H' : Hp), Same H H' → σ'[1]? = some (some (.ref rd)) → σ'[i]? = some (some (.int z)) → z ∈ os → Vl (tDGet (tVar 1) (tVar i)) σ' H' (.int (posOf z os : Nat)) := fun σ' i z H' s' e1 e2 hz => vl_dgetI (vl_var e1) (vl_var e2) (s' _ _ hr1) (hr2 z hz)
        refine g_forL (xs := ns.map V.int) (vl_dgetI (vl_var rfl) (vl_ixI (vl_var rfl) (vl_var rfl) (.of hpi) hg) (s3 _ _ hl1) h4) (.of (s3 _ _ h5))
          (fun j σ' H' => ∃ y6 pi pf inner found, σ' = [some (.ref lk), some (.ref rd), some (.int u), some (.ref pi), some (.ref pf), some (.int i), y6] ∧ Same H H' ∧ H' pi = some (.lst ((inner : List Int).map V.int)) ∧ H' pf = some (.lst ((found : List Int).map V.int)) ∧ BfsAt N os u inner found ∧ BfsDone N os u inner found i ∧ inner[i]? = some x ∧ ∀ o ∈ ns.take j, Seen os u inner found o)
          ⟨_, pi, pf, inner, found, rfl, s3, hpi, hpf, hB, hD, hg, fun o ho => by
            rw [List.take_zero] at ho
            cases ho⟩ (fun j σ' H' hP => ?_) (fun j y σ' H' hy hP => ?_) (fun σ' H' hP => ?_)
        · obtain ⟨_, _, _, _, _, _, s', _⟩ := hP
          exact .of (s' _ _ h5)
        · obtain ⟨y6, pi, pf, inner, found, rfl, s', hpi, hpf, hB, hD, hg, hS⟩ := hP
          rw [List.getElem?_map] at hy
          cases hgo : ns[j]? with
          | none =>
            rw [hgo] at hy
            cases hy
          | some o =>
            rw [hgo] at hy
            cases hy
            have hadj := (h7 o).mp (List.mem_of_getElem? hgo)
            have hor := (adj0_in ok hadj).2.1
            have hoo := oo.mem.mpr hor
            have hxi := List.mem_of_getElem? hg
            have hfl := hB.flen ok
            have hil := hB.len
            -- found
            refine q_cut (M := fun σ2 H2 => ∃ pf found, σ2 = [some (.ref lk), some (.ref rd), some (.int u), some (.ref pi), some (.ref pf), some (.int i), some (.int o)] ∧ Same H H2 ∧ H2 pi = some (.lst (inner.map V.int)) ∧ H2 pf = some (.lst ((found : List Int).map V.int)) ∧ BfsAt N os u inner found ∧ BfsDone N os u inner found i ∧ (∀ z ∈ ns.take j, Seen os u inner found z) ∧ (posOf u os < posOf o os → o ∈ found)) ?_ ?_
            · refine g_when (b := decide (((posOf u os : Nat) : Int) < (posOf o os : Nat)) && !decide (o ∈ found)) ?_ (fun hb => ?_) (fun hb => ?_)
              · exact an_and (an_test (vl_I0 (vk _ 6 o H' s' rfl rfl hoo) (vk _ 2 u H' s' rfl rfl uo))) fun _ => an_test (vl_notInI (vl_var rfl) (vl_var rfl) (.of hpf))
              · rw [Bool.and_eq_true, decide_eq_true_eq, Bool.not_eq_true', decide_eq_false_iff_not] at hb
                have hlt : posOf u os < posOf o os := by omega
                refine g_asgN (vn_catL (vl_var rfl) hpf (vn_oneI (vl_var rfl)) ?_) fun p2 H2 s2 n2 e2 => ?_
                · show _ + 1 ≤ 1000000
                  omega
                · refine ⟨p2, found ++ [o], rfl, s'.trans s2, s2 _ _ hpi, e2, hB.find ok hxi hadj hlt hb.2, fun j' hj' z hz w hw => ?_, fun z hz => ?_, fun _ => List.mem_append.mpr (.inr (List.mem_singleton.mpr rfl))⟩
                  · have := hD j' hj' z hz w hw
                    exact ⟨fun h => List.mem_append.mpr (.inl (this.1 h)), this.2⟩
                  · have := hS z hz
                    exact ⟨fun h => List.mem_append.mpr (.inl (this.1 h)), this.2⟩
              · refine ⟨pf, found, rfl, s', hpi, hpf, hB, hD, hS, fun h => ?_⟩
                rw [Bool.and_eq_false_iff, decide_eq_false_iff_not, Bool.not_eq_false', decide_eq_true_eq] at hb
                rcases hb with hb | hb
                · omega
                · exact hb
            · rintro σ2 H2 ⟨pf, found, rfl, s2, hpi, hpf, hB, hD, hS, hF⟩
              refine g_when (b := decide (((posOf o os : Nat) : Int) < (posOf u os : Nat)) && !decide (o ∈ inner)) ?_ (fun hb => ?_) (fun hb => ?_)
              · exact an_and (an_test (vl_I0 (vk _ 6 o H2 s2 rfl rfl hoo) (vk _ 2 u H2 s2 rfl rfl uo))) fun _ => an_test (vl_notInI (vl_var rfl) (vl_var rfl) (.of hpi))
              · rw [Bool.and_eq_true, decide_eq_true_eq, Bool.not_eq_true', decide_eq_false_iff_not] at hb
                have hlt : posOf o os < posOf u os := by omega
                refine g_asgN (vn_catL (vl_var rfl) hpi (vn_oneI (vl_var rfl)) ?_) fun p2 H4 s4 n2 e2 => ?_
                · show _ + 1 ≤ 1000000
                  omega
                · have keep : ∀ {j' : Nat} {z : Int}, j' < inner.length → (inner ++ [o])[j']? = some z → inner[j']? = some z := fun hj h => by
                    rw [List.getElem?_append_left hj] at h
                    exact h
                  have hil2 := (List.getElem?_eq_some_iff.mp hg).1
                  refine ⟨_, p2, pf, inner ++ [o], found, rfl, s2.trans s4, e2, s4 _ _ hpf, hB.grow ok hxi hadj hlt hb.2, fun j' hj' z hz w hw => ?_, ?_, fun z hz => ?_⟩
                  · have := hD j' hj' z (keep (by omega) hz) w hw
                    exact ⟨this.1, fun h => List.mem_append.mpr (.inl (this.2 h))⟩
                  · rw [List.getElem?_append_left hil2]
                    exact hg
                  · rw [take_snoc hgo] at hz
                    rcases List.mem_append.mp hz with hz | hz
                    · have := hS z hz
                      exact ⟨this.1, fun h => List.mem_append.mpr (.inl (this.2 h))⟩
                    · rw [List.mem_singleton.mp hz]
                      exact ⟨hF, fun _ => List.mem_append.mpr (.inr (List.mem_singleton.mpr rfl))⟩
              · refine ⟨_, pi, pf, inner, found, rfl, s2, hpi, hpf, hB, hD, hg, fun z hz => ?_⟩
                rw [take_snoc hgo] at hz
                rcases List.mem_append.mp hz with hz | hz
                · exact hS z hz
                · rw [List.mem_singleton.mp hz]
                  refine ⟨hF, fun h => ?_⟩
                  rw [Bool.and_eq_false_iff, decide_eq_false_iff_not, Bool.not_eq_false', decide_eq_true_eq] at hb
                  rcases hb with hb | hb
                  · omega
                  · exact hb
        · obtain ⟨y6, pi, pf, inner, found, rfl, s', hpi, hpf, hB, hD, hg, hS⟩ := hP
          rw [List.length_map, List.take_length] at hS
          refine ⟨_, _, pi, pf, inner, found, rfl, s', hpi, hpf, hB, fun j hj z hz w hw => ?_⟩
          by_cases e : j = i
          · subst e
            cases hg.symm.trans hz
            exact hS w ((h7 w).mpr hw)
          · exact hD j (by omega) z hz w hw
      · have hb := of_decide_eq_false hb
        refine ⟨_, _, pi, pf, inner, found, rfl, s3, hpi, hpf, hB, fun j hj z hz w hw => ?_⟩
        have := (List.getElem?_eq_some_iff.mp hz).1
        exact hD j (by omega) z hz w hw
    · obtain ⟨y5, y6, pi, pf, inner, found, rfl, s3, hpi, hpf, hB, hD⟩ := hP
      rw [Int.toNat_natCast, hl2] at hD
      have := hB.flen ok
      exact g_ret (vl_var rfl) (q H3 pf found s3 hpf (bfs_iff ok hB hD) (by omega))
end
/-! ### the law's upper neighbours -/
structure UpAt (H : Hp) (o : Addr) (ls : List Lnk) (os : List Int) : Prop where
  ex : ∃ kvs, H o = some (.dK kvs) ∧ kvs.map (·.1) = os.map Sum.inl ∧ ∀ x ∈ os, ∃ a, valV kvs (.inl x) = some (.ref a) ∧ H a = some (.lst ((upP ls os x).map V.int))
theorem UpAt.to {H H' : Hp} {o : Addr} {ls : List Lnk} {os : List Int} (h : UpAt H o ls os) (s : Same H H') : UpAt H' o ls os := by
  obtain ⟨kvs, h1, h2, h3⟩ := h.ex
  exact ⟨kvs, s _ _ h1, h2, fun x hx => let ⟨a, h4, h5⟩ := h3 x hx; ⟨a, h4, s _ _ h5⟩⟩
abbrev sUpperL : Stmt := topS 27
theorem scUpperL : FnScope ["net", "order", "rank", "linked", "upper", "u", "found", "other"] ["net", "order"] (defScope sUpperL) := ⟨rfl, rfl, rfl, by decide +kernel, rfl, by decide +kernel, by decide +kernel⟩
def spUpperL (K : PySem.W.Frag) : Sp := fun vs H Q _ => ∃ (v : V) (N : Net) (p : Addr) (os : List Int), vs = [v, .ref p] ∧ Dp K H v (netD N) ∧ NetOk N ∧ SqL K H p (os.map V.int) ∧ OrdOk N.n os ∧ ∀ H' o, Same H H' → UpAt H' o N.ls os → Q (.ref o) H'
section
variable {P : Program} {w : World} {K : PySem.W.Frag} {mg : Str → Option Value} {base : Heap}
theorem ok_upperL {f : Addr} {fd : FuncData} (F : Fun K "_law_upper" "_law_upper" sUpperL f fd) (c_law_rank : Kal P w K mg base 1 "_law_rank" ["order"] (spRank K)) (c_law_linked : Kal P w K mg base 1 "_law_linked" ["net"] (spLinked K)) (c_law_reached : Kal P w K mg base 1 "_law_reached" ["linked", "rank", "u"] (spReached K)) : FnOk P w K mg base CX0 2 f fd ["net", "order"] (spUpperL K) := by
  refine F.ok scUpperL (fun vs H Q E h => ?_) (fun cdv A outer s H vs Q E hr h => ?_)
  · obtain ⟨v, N, p, os, rfl, _⟩ := h
    rfl
  · obtain ⟨v, N, p, os, rfl, hN, ok, hS, oo, q⟩ := h
    have hu := hu_of hr
    refine ⟨_, pss_cons (ps_set (i := 2) scUpperL.nd rfl (.inl rfl) (pe_k c_law_rank hr (by first | decide | omega) (by rfl) (pa_cons (pv 1) pa_nil)))
      (pss_cons (ps_set (i := 3) scUpperL.nd rfl (.inl rfl) (pe_k c_law_linked hr (by first | decide | omega) (by rfl) (pa_cons (pv 0) pa_nil)))
      (pss_cons (ps_set (i := 4) scUpperL.nd rfl (.inl rfl) pe_dnewK)
      (pss_cons (ps_for PassesOwn.never rfl (pi_list (pv 1)) (pg_name (i := 5) scUpperL.nd rfl (.inl rfl))
      (pss_cons (ps_set (i := 6) scUpperL.nd rfl (.inr rfl) (pe_k c_law_reached hr (by first | decide | omega) (by rfl) (pa_cons (pv 3) (pa_cons (pv 2) (pa_cons (pv 5) pa_nil)))))
        (pss_one (ps_dput hu (pv 4) (pv 5) (pe_lc (own := [("other", 7)]) (g := gName 7) (tt := (tTest (tOp (rIn K false) (tVar 7) (tVar 6)))) (te := (tVar 7)) (by rfl) scUpperL.nd (pi_list (pv 1)) (blkOk_by (own := [("other", 7)]) (N := ["net", "order", "rank", "linked", "upper", "u", "found", "other"]) (sc := defScope sUpperL) (by decide +kernel)) (fun _ _ _ _ _ => pg_name (i := 7) scUpperL.nd rfl (Or.inl rfl)) (fun _ _ _ _ _ => by exact (pts_one (pt_cmpR op_in_seq (pv 7) (pv 6) (by rfl)))) (fun _ _ _ _ _ => by exact (pv 7))) rfl))))
      (pss_one (ps_ret (pv 4)))))), ?_⟩
    have n40 := ok.n40
    have ol := oo.len
    refine q_asgE ⟨.ref p, rfl, p, os, rfl, hS, oo.nodup, by omega, fun H1 rd s1 hR => ?_⟩
    refine q_asgE ⟨v, rfl, v, N, rfl, Dp.to hN s1, ok, fun H2 lk s2 hL => ?_⟩
    have hR2 := hR.to s2
    have s12 := s1.trans s2
    refine q_dnewK fun o no => ?_
    have so : Same H2 (upd H2 o (.dK [])) := same_upd no
    refine q_forL (xs := os.map V.int) (vl_var rfl) (((s12.trans so).seq hS))
      (fun i σ H3 => ∃ y5 y6, ∃ kvs, σ = [some v, some (.ref p), some (.ref rd), some (.ref lk), some (.ref o), y5, y6, none] ∧ H3 o = some (.dK kvs) ∧ Same H2 (but H3 o) ∧ kvs.map (·.1) = (os.take i).map Sum.inl ∧ ∀ x ∈ os.take i, ∃ a, valV kvs (.inl x) = some (.ref a) ∧ but H3 o a = some (.lst ((upP N.ls os x).map V.int)))
      ⟨_, _, [], rfl, upd_same, same_but so no, rfl, fun x hx => by
        rw [List.take_zero] at hx
        cases hx⟩ (fun i σ H3 hP => ?_) (fun i y σ H3 hy hP => ?_) (fun σ H3 hP => ?_)
    · obtain ⟨_, _, _, _, _, s3, _⟩ := hP
      exact (s12.trans (s3.trans but_same)).seq hS
    · obtain ⟨y5, y6, kvs, rfl, ho, s3, hk, hA⟩ := hP
      rw [List.getElem?_map] at hy
      cases hg : os[i]? with
      | none =>
        rw [hg] at hy
        cases hy
      | some x =>
        rw [hg] at hy
        cases hy
        have hx := oo.mem.mp (List.mem_of_getElem? hg)
        have hi := (List.getElem?_eq_some_iff.mp hg).1
        have sH := s3.trans but_same
        refine q_asgE ⟨.ref lk, rfl, .ref rd, rfl, .int x, rfl, lk, rd, x, N, os, rfl, hL.to sH, hR2.to sH, ok, oo, hx.1, hx.2, fun H4 pf fs s4 hpf hfs hfl => ?_⟩
        have ho4 := s4 _ _ ho
        have hS4 := ((s12.trans sH).trans s4).seq hS
        refine g_dputN (xs := (upP N.ls os x).map V.int) (by
          rw [← up_eq oo fun v _ => hfs v]
          exact vn_lcI (ns := os) (pb := fun v => decide (v ∈ fs)) (f := V.int) (vx_list (vl_var rfl) hS4) (by omega) (fun z hz H' s' => an_test (vl_inI (vl_var rfl) (vl_var rfl) (.of (s' _ _ hpf)))) (fun z hz H' s' => vl_var rfl)) (fun _ _ => vl_var rfl) (fun _ _ => vl_var rfl) ho4 ?_ (fun a H5 s5 na ea => ?_)
        · have := congrArg List.length hk
          rw [List.length_map, List.length_map, List.length_take] at this
          exact Nat.lt_of_le_of_lt (m := 10000) (by omega) (by decide)
        · have oa : o ≠ a := ne_of_none ho4 na
          have hnx : x ∉ os.take i := fun h => by
            have hn := oo.nodup
            rw [split_at hg] at hn
            exact (List.nodup_append.mp hn).2.2 x h x List.mem_cons_self rfl
          have hnone : valV kvs (.inl x) = none := by
            cases e : valV kvs (.inl x) with
            | none => rfl
            | some v =>
              have := valV_in e
              rw [hk] at this
              obtain ⟨z, hz, e2⟩ := List.mem_map.mp this
              rw [Sum.inl.inj e2] at hz
              exact absurd hz hnx
          refine ⟨_, _, _, rfl, upd_same, ?_, ?_, fun z hz => ?_⟩
          · rw [but_upd]
            exact s3.trans (but_mono (s4.trans s5))
          · rw [putK_new _ hnone, List.map_append, hk, take_snoc hg, List.map_append]
            rfl
          · rw [valV_put, but_upd]
            by_cases e : z = x
            · subst e
              rw [if_pos rfl]
              exact ⟨a, rfl, by rw [but_ne oa.symm, ea]⟩
            · rw [if_neg (fun h => e (Sum.inl.inj h))]
              rw [take_snoc hg] at hz
              rcases List.mem_append.mp hz with hz | hz
              · obtain ⟨b, hb1, hb2⟩ := hA z hz
                exact ⟨b, hb1, but_mono (s4.trans s5) _ _ hb2⟩
              · exact absurd (List.mem_singleton.mp hz) e
    · obtain ⟨y5, y6, kvs, rfl, ho, s3, hk, hA⟩ := hP
      rw [List.length_map, List.take_length] at hk hA
      exact g_ret (vl_var rfl) (q H3 o (s12.trans (s3.trans but_same)) ⟨kvs, ho, hk, fun x hx => let ⟨a, h1, h2⟩ := hA x hx; ⟨a, h1, but_same _ _ h2⟩⟩)
end
/-! ### chains -/
def chainF (up : Int → List Int) : Nat → Int → List Int
  | 0, p => [p]
  | k + 1, p => p :: (match up p with
    | [] => []
    | s :: _ => chainF up k s)
def chainE (up : Int → List Int) : Nat → Int → Int
  | 0, p => p
  | k + 1, p => match up p with
    | [] => p
    | s :: _ => chainE up k s
theorem chain_snoc {up : Int → List Int} : ∀ (k : Nat) (p : Int), chainF up (k + 1) p = chainF up k p ++ (match up (chainE up k p) with
    | [] => []
    | s :: _ => [s]) ∧ chainE up (k + 1) p = (match up (chainE up k p) with
    | [] => chainE up k p
    | s :: _ => s)
  | 0, p => by
    constructor
    · show p :: (match up p with
        | [] => []
        | s :: _ => chainF up 0 s) = [p] ++ (match up p with
        | [] => []
        | s :: _ => [s])
      cases up p <;> rfl
    · show (match up p with
        | [] => p
        | s :: _ => chainE up 0 s) = (match up p with
        | [] => p
        | s :: _ => s)
      cases up p <;> rfl
  | k + 1, p => by
    cases e : up p with
    | nil =>
      have e1 : chainF up (k + 1) p = [p] := by
        show p :: (match up p with
          | [] => []
          | s :: _ => chainF up k s) = [p]
        rw [e]
      have e2 : chainE up (k + 1) p = p := by
        show (match up p with
          | [] => p
          | s :: _ => chainE up k s) = p
        rw [e]
      have e3 : chainF up (k + 1 + 1) p = [p] := by
        show p :: (match up p with
          | [] => []
          | s :: _ => chainF up (k + 1) s) = [p]
        rw [e]
      have e4 : chainE up (k + 1 + 1) p = p := by
        show (match up p with
          | [] => p
          | s :: _ => chainE up (k + 1) s) = p
        rw [e]
      rw [e1, e2, e3, e4, e]
      exact ⟨rfl, rfl⟩
    | cons s r =>
      have ih := chain_snoc (up := up) k s
      have e1 : chainF up (k + 1) p = p :: chainF up k s := by
        show p :: (match up p with
          | [] => []
          | s :: _ => chainF up k s) = _
        rw [e]
      have e2 : chainE up (k + 1) p = chainE up k s := by
        show (match up p with
          | [] => p
          | s :: _ => chainE up k s) = _
        rw [e]
      have e3 : chainF up (k + 1 + 1) p = p :: chainF up (k + 1) s := by
        show p :: (match up p with
          | [] => []
          | s :: _ => chainF up (k + 1) s) = _
        rw [e]
      have e4 : chainE up (k + 1 + 1) p = chainE up (k + 1) s := by
        show (match up p with
          | [] => p
          | s :: _ => chainE up (k + 1) s) = _
        rw [e]
      rw [e1, e2, e3, e4, ih.1, ih.2]
      exact ⟨rfl, rfl⟩
theorem chain_get {up : Int → List Int} : ∀ (k : Nat) (p : Int), (chainF up k p)[(chainF up k p).length - 1]? = some (chainE up k p) ∧ 1 ≤ (chainF up k p).length ∧ (chainF up k p).length ≤ k + 1
  | 0, p => ⟨rfl, Nat.le_refl _, Nat.le_refl _⟩
  | k + 1, p => by
    obtain ⟨h1, h2⟩ := chain_snoc (up := up) k p
    obtain ⟨i1, i2, i3⟩ := chain_get (up := up) k p
    rw [h1, h2]
    cases up (chainE up k p) with
    | nil =>
      show (chainF up k p ++ [])[_]? = some (chainE up k p) ∧ _
      rw [List.append_nil]
      exact ⟨i1, i2, by omega⟩
    | cons s r =>
      show (chainF up k p ++ [s])[(chainF up k p ++ [s]).length - 1]? = some s ∧ 1 ≤ (chainF up k p ++ [s]).length ∧ (chainF up k p ++ [s]).length ≤ k + 1 + 1
      rw [List.length_append]
      have e1 : [s].length = 1 := rfl
      rw [e1, Nat.add_sub_cancel, List.getElem?_append_right (Nat.le_refl _), Nat.sub_self]
      exact ⟨rfl, by omega, by omega⟩
theorem chain_head {up : Int → List Int} (k : Nat) (p : Int) : p ∈ chainF up k p := by
  cases k with
  | zero => exact List.mem_singleton.mpr rfl
  | succ k => exact List.mem_cons_self
section
variable {N : Net} {os : List Int}
theorem chain_all (ok : NetOk N) (oo : OrdOk N.n os) : ∀ (k : Nat) (p v : Int), os.length ≤ posOf p os + k + 1 → v ∈ upP N.ls os p → v ∈ chainF (upP N.ls os) k p
  | 0, p, v, hk, hv => by
    have h := (mem_up.mp hv)
    have := pos_len h.1
    have := h.2.1
    omega
  | k + 1, p, v, hk, hv => by
    have hs := up_sorted (N := N) (u := p) oo
    have hm : ∀ s ∈ upP N.ls os p, PairP N.ls os p s := fun s h => (mem_up.mp h).2
    show v ∈ p :: (match upP N.ls os p with
      | [] => []
      | s :: _ => chainF (upP N.ls os) k s)
    cases e : upP N.ls os p with
    | nil =>
      rw [e] at hv
      cases hv
    | cons s r =>
      rw [e] at hv hs hm
      refine List.mem_cons_of_mem _ ?_
      show v ∈ chainF (upP N.ls os) k s
      rcases List.mem_cons.mp hv with h | h
      · rw [h]
        exact chain_head k s
      · have hps := hm s List.mem_cons_self
        have hpv := hm v (List.mem_cons_of_mem _ h)
        have hsv := (List.pairwise_cons.mp hs).1 v h
        have := hps.1
        exact chain_all ok oo k s v (by omega) ((mem_upP ok oo).mpr (pair_clique ok hps hpv hsv))
theorem chain_in (ok : NetOk N) (oo : OrdOk N.n os) : ∀ (k : Nat) (p : Int), p ∈ os → (∀ x ∈ chainF (upP N.ls os) k p, x ∈ os) ∧ chainE (upP N.ls os) k p ∈ os
  | 0, p, hp => ⟨fun x hx => by
    rw [List.mem_singleton.mp hx]
    exact hp, hp⟩
  | k + 1, p, hp => by
    obtain ⟨h1, h2⟩ := chain_snoc (up := upP N.ls os) k p
    obtain ⟨i1, i2⟩ := chain_in ok oo k p hp
    have hm : ∀ s ∈ upP N.ls os (chainE (upP N.ls os) k p), s ∈ os := fun s h => (mem_up.mp h).1
    rw [h1, h2]
    cases e : upP N.ls os (chainE (upP N.ls os) k p) with
    | nil =>
      refine ⟨fun x hx => ?_, i2⟩
      rw [show (chainF (upP N.ls os) k p ++ []) = chainF (upP N.ls os) k p from List.append_nil _] at hx
      exact i1 x hx
    | cons s r =>
      have hs := hm s (by rw [e]; exact List.mem_cons_self)
      refine ⟨fun x hx => ?_, hs⟩
      rcases List.mem_append.mp hx with hx | hx
      · exact i1 x hx
      · rw [List.mem_singleton.mp hx]
        exact hs
end
noncomputable def chainOf (N : Net) (os : List Int) (p : Int) : List Int := chainF (upP N.ls os) N.n.toNat p
def spChain (K : PySem.W.Frag) (CN : Addr) : Sp := fun vs H Q E => ∃ (v : V) (N : Net) (p : Addr) (os : List Int) (x : Int), vs = [v, .ref p, .int x] ∧ Dp K H v (netD N) ∧ NetOk N ∧ SqL K H p (os.map V.int) ∧ OrdOk N.n os ∧
  (0 ≤ x ∧ x < N.n → ∀ H' q, Same H H' → H q = none → H' q = some (.lst ((chainOf N os x).map V.int)) → Q (.ref q) H') ∧ (¬ (0 ≤ x ∧ x < N.n) → RaiseTo E H CN x)
def spLChain (K : PySem.W.Frag) : Sp := fun vs H Q _ => ∃ (v : V) (N : Net) (p : Addr) (os : List Int) (x : Int), vs = [v, .ref p, .int x] ∧ Dp K H v (netD N) ∧ NetOk N ∧ SqL K H p (os.map V.int) ∧ OrdOk N.n os ∧
  (0 ≤ x ∧ x < N.n → ∀ H' q, Same H H' → H q = none → H' q = some (.lst ((chainOf N os x).map V.int)) → Q (.ref q) H') ∧ (¬ (0 ≤ x ∧ x < N.n) → ∀ H', Same H H' → Q (.int x) H')
section
variable {P : Program} {w : World} {K : PySem.W.Frag} {mg : Str → Option Value} {base : Heap} {CN fI : Addr}
end
/-! ### any two upper neighbours are a pair -/
noncomputable def pairsL (ls : List Lnk) (os : List Int) : List (Int × Int) := os.flatMap fun u => (upP ls os u).map fun v => (u, v)
theorem mem_pairsL {N : Net} {os : List Int} (ok : NetOk N) (oo : OrdOk N.n os) {u v : Int} : (u, v) ∈ pairsL N.ls os ↔ PairP N.ls os u v := by
  unfold pairsL
  rw [List.mem_flatMap]
  constructor
  · rintro ⟨x, hx, h⟩
    obtain ⟨y, hy, e⟩ := List.mem_map.mp h
    cases e
    exact (mem_up.mp hy).2
  · intro h
    exact ⟨u, oo.mem.mpr (h.ins ok).1, List.mem_map.mpr ⟨v, (mem_upP ok oo).mpr h, rfl⟩⟩
/-- a list of new tuples of two ints -/
structure TupsAt (H : Hp) (ts : List V) (L : List (Int × Int)) : Prop where
  len : ts.length = L.length
  at_ : ∀ (i : Nat) (u v : Int), L[i]? = some (u, v) → ∃ t, ts[i]? = some (.ref t) ∧ H t = some (.tup [.int u, .int v])
theorem TupsAt.to {H H' : Hp} {ts : List V} {L : List (Int × Int)} (h : TupsAt H ts L) (s : Same H H') : TupsAt H' ts L := ⟨h.len, fun i u v e => let ⟨t, h1, h2⟩ := h.at_ i u v e; ⟨t, h1, s _ _ h2⟩⟩
def pairD2 (x : Int × Int) : PyData := .tuple [.int x.1, .int x.2]
theorem TupsAt.dp {K : PySem.W.Frag} {H : Hp} : ∀ {ts : List V} {L : List (Int × Int)}, TupsAt H ts L → DpAll K H ts (L.map pairD2)
  | [], [], _ => .nil
  | [], _ :: _, h => absurd h.len (by simp)
  | _ :: _, [], h => absurd h.len (by simp)
  | x :: ts, (u, v) :: L, h => by
    obtain ⟨t, h1, h2⟩ := h.at_ 0 u v rfl
    cases Option.some.inj h1
    exact .cons (.tup (.of h2) (.cons (.int u) (.cons (.int v) .nil))) (TupsAt.dp ⟨Nat.succ.inj h.len, fun i a b e => h.at_ (i + 1) a b e⟩)
def spClique (K : PySem.W.Frag) : Sp := fun vs H Q _ => ∃ (fp ap : Addr) (ts : List V) (N : Net) (os : List Int), vs = [.ref fp, .ref ap] ∧ H fp = some (.lst ts) ∧ TupsAt H ts (pairsL N.ls os) ∧ UpAt H ap N.ls os ∧ NetOk N ∧ OrdOk N.n os ∧ ∀ H', Same H H' → Q (.bl true) H'
theorem pairsL_len {N : Net} {os : List Int} (ok : NetOk N) (oo : OrdOk N.n os) : (pairsL N.ls os).length ≤ 1600 := by
  unfold pairsL
  have h : ∀ xs : List Int, (xs.flatMap fun u => (upP N.ls os u).map fun v => (u, v)).length ≤ xs.length * 40 := by
    intro xs
    induction xs with
    | nil => exact Nat.zero_le _
    | cons x r ih =>
      rw [List.flatMap_cons, List.length_append, List.length_map, List.length_cons, Nat.succ_mul]
      have := up_len (u := x) ok oo
      omega
  have := h os
  have := oo.len
  have := ok.n40
  omega
section
variable {P : Program} {w : World} {K : PySem.W.Frag} {mg : Str → Option Value} {base : Heap}
end
/-! ### the law of pairs -/
theorem TupsAt.upd {H : Hp} {ts zs : List V} {L : List (Int × Int)} {D : Addr} {u : HO} (h : TupsAt H ts L) (hD : H D = some (.lst zs)) : TupsAt (L2.upd H D u) ts L := ⟨h.len, fun i a b e => by
  obtain ⟨t, h1, h2⟩ := h.at_ i a b e
  refine ⟨t, h1, ?_⟩
  rw [upd_ne (fun z => by
    rw [z, hD] at h2
    cases h2)]
  exact h2⟩
theorem TupsAt.but {H : Hp} {ts zs : List V} {L : List (Int × Int)} {D : Addr} (h : TupsAt H ts L) (hD : H D = some (.lst zs)) : TupsAt (Ovc.but H D) ts L := ⟨h.len, fun i a b e => by
  obtain ⟨t, h1, h2⟩ := h.at_ i a b e
  refine ⟨t, h1, ?_⟩
  rw [but_ne (fun z => by
    rw [z, hD] at h2
    cases h2)]
  exact h2⟩
theorem TupsAt.app {H : Hp} {ts zs : List V} {L M : List (Int × Int)} (h : TupsAt H ts L) (k : TupsAt H zs M) : TupsAt H (ts ++ zs) (L ++ M) := ⟨by
  rw [List.length_append, List.length_append, h.len, k.len], fun i u v e => by
  by_cases hi : i < L.length
  · rw [List.getElem?_append_left hi] at e
    rw [List.getElem?_append_left (by rw [h.len]; exact hi)]
    exact h.at_ i u v e
  · rw [List.getElem?_append_right (by omega)] at e
    rw [List.getElem?_append_right (by rw [h.len]; omega), h.len]
    exact k.at_ _ u v e⟩
theorem TupsAt.nil {H : Hp} : TupsAt H [] [] := ⟨rfl, fun i u v e => by simp at e⟩
theorem TupsAt.one {H : Hp} {t : Addr} {u v : Int} (h : H t = some (.tup [.int u, .int v])) : TupsAt H [.ref t] [(u, v)] := ⟨rfl, fun i a b e => by
  cases i with
  | zero =>
    cases Option.some.inj e
    exact ⟨t, rfl, h⟩
  | succ i => simp at e⟩
section
variable {K : PySem.W.Frag} {σ : L2.St} {H : Hp} {ta tb te tl : TE} {tr : TA} {D : Ends} {tw : TS} {x y : V}
/-- [(u, v) for v in xs] -/
theorem vt_lc {i j : Nat} {u : Int} {ns : List Int} {a : Addr} (hv : ∀ x, ((σ.set j none).set j (some x))[i]? = some (some (V.int u))) (hw : ∀ x, ((σ.set j none).set j (some x))[j]? = some (some x)) (hl : Vl tl σ H (.ref a)) (hx : SqL K H a (ns.map V.int)) (hz : ns.length ≤ 10000) (Q : VK)
    (q : ∀ D H' zs, Same H H' → H D = none → H' D = some (.lst zs) → TupsAt H' zs (ns.map fun v => (u, v)) → Q (.ref D) H') : tLc (iList K tl) (gName j) tYes (tTup (tCons (tVar i) (tCons (tVar j) tNil))) [j] σ H Q := by
  refine hl _ ⟨a, rfl, ⟨_, hx⟩, fun D nD => lc_list (K := K) (a := a) (xs := ns.map V.int) (fun k H' => ∃ zs, H' D = some (.lst zs) ∧ Same H H' ∧ TupsAt H' zs ((ns.take k).map fun v => (u, v))) ⟨[], upd_same, same_upd nD, TupsAt.nil⟩ (fun k H' _ hP => hP.choose_spec.2.1.seq hx) (fun k x H' hk hP => ?_) (fun H' hP => ?_)⟩
  · obtain ⟨zs, hD, s', hT⟩ := hP
    rw [List.getElem?_map] at hk
    cases hg : ns[k]? with
    | none =>
      rw [hg] at hk
      cases hk
    | some v =>
      rw [hg] at hk
      cases hk
      refine ⟨?_, iteT (B := ∃ zs, H' D = some (.lst zs) ∧ Same H H' ∧ TupsAt H' zs ((ns.take (k + 1)).map fun v => (u, v))) ⟨_, hv _, _, hw _, by show 2 ≤ sizeLine; decide, fun T nT => ⟨zs, same_upd nT _ _ hD, ?_, zs ++ [.ref T], upd_same, same_upd' (s'.trans (same_upd nT)) nD, ?_⟩⟩⟩
      · show ((σ.set j none).set j (some (V.int v))).set j none = σ.set j none
        rw [List.set_set, List.set_set]
      · rw [hT.len, List.length_map, List.length_take]
        exact Nat.lt_of_le_of_lt (m := 10000) (by omega) (by decide)
      · rw [take_snoc hg, List.map_append]
        exact ((hT.to (same_upd nT)).app (TupsAt.one upd_same)).upd (same_upd nT _ _ hD)
  · obtain ⟨zs, hD, s', hT⟩ := hP
    rw [List.length_map, List.take_length] at hT
    exact q D H' zs s' nD hD hT
/-- [e for x in range(n)], e told by f -/
theorem vn_lcRV {j : Nat} {n : Int} {f : Int → V} (hl : Va tr σ H [.int n]) (h0 : 0 ≤ n) (hz : n ≤ 1000000) (he : ∀ x : Int, 0 ≤ x → x < n → ∀ H', Same H H' → Ve te ((σ.set j none).set j (some (.int x))) H' (f x)) :
    Vn (tLc (iRng1 tr) (gName j) tYes te [j]) σ H ((rng n).map f) := fun Q q => by
  refine hl _ ⟨n, rfl, by omega, by omega, fun D nD => lc_range (lo := 0) (n := n.toNat) (fun i H' => H' D = some (.lst (((List.range i).map fun (i : Nat) => (i : Int)).map f)) ∧ Same H H') ⟨upd_same, same_upd nD⟩ (fun i H2 hi hP => ?_) (fun H2 hP => ?_)⟩
  · obtain ⟨hD, s2⟩ := hP
    rw [Int.zero_add]
    refine ⟨?_, iteT (B := H2 D = some (.lst (((List.range (i + 1)).map fun (i : Nat) => (i : Int)).map f)) ∧ Same H H2) (he i (by omega) (by omega) H2 s2 _ fun H3 s3 => ⟨_, s3 _ _ hD, ?_, ?_, same_upd' (s2.trans s3) nD⟩)⟩
    · show ((σ.set j none).set j (some (V.int i))).set j none = σ.set j none
      rw [List.set_set, List.set_set]
    · rw [List.length_map, List.length_map, List.length_range]
      exact Nat.lt_of_le_of_lt (m := 1000000) (by omega) (by decide)
    · rw [upd_same, List.range_succ, List.map_append, List.map_append]
      rfl
  · obtain ⟨hD, s2⟩ := hP
    exact q D H2 s2 nD hD
theorem ax_neV2 (ha : Ve ta σ H x) (hb : ∀ H', Same H H' → Vl tb σ H' y) (hs : scal x y = true) : Ax (tTest (tOp rNe ta tb)) σ H (!decide (x = y)) := fun Q k => ha _ fun H' s' => hb H' s' _ ⟨hs, _, rfl, k H' s'⟩
theorem q_appT2 {l : Addr} {xs : List V} {i j : Int} (ho : Vl ta σ H (.ref l)) (hl : H l = some (.lst xs)) (hz : xs.length < sizeLine) (k : ∀ T H', Same H H' → H T = none → tw D σ (L2.upd H' l (.lst (xs ++ [.ref T])))) :
    tSeq (tDrop (tBM K "list" rAppend ta (tCons (tTup (tCons (tC (.int i)) (tCons (tC (.int j)) tNil))) tNil))) tw D σ H := ho _ ⟨.inl ⟨rfl, _, .inl (.inl hl)⟩, by show 2 ≤ sizeLine; decide, fun T nT => ⟨l, xs, .ref T, rfl, rfl, same_upd nT _ _ hl, hz, k T _ (same_upd nT) nT⟩⟩
end
/-! ### how long a text of data is -/
theorem textFrom_le : ∀ (ts : List Str) (k : Nat) (acc : Str), (textFrom k acc ts).length ≤ acc.length + piled ts
  | [], k, acc => Nat.le_add_right _ _
  | t :: r, k, acc => by
    have h := textFrom_le r (k + 1) (acc ++ (if k > 0 then ", " else "" : String) ++ t)
    have e : (acc ++ (if k > 0 then ", " else "" : String) ++ t).length ≤ acc.length + 2 + t.length := by
      rw [strLen_append, strLen_append]
      split
      · have : (Str.ofString ", ").length = 2 := by decide +kernel
        omega
      · have : (Str.ofString "").length = 0 := by decide +kernel
        omega
    show (textFrom (k + 1) _ r).length ≤ acc.length + piled (t :: r)
    rw [piled_cons]
    omega
theorem listText_le (ts : List Str) : (listText ts).length ≤ piled ts + 2 := by
  unfold listText
  rw [strLen_append]
  have h := textFrom_le ts 0 "["
  have e1 : ("[" : Str).length = 1 := by decide +kernel
  have e2 : ("]" : Str).length = 1 := by decide +kernel
  omega
theorem tupleText_le (ts : List Str) : (tupleText ts).length ≤ piled ts + 4 := by
  unfold tupleText
  rw [strLen_append, strLen_append]
  have e1 : ("(" : Str).length = 1 := by decide +kernel
  have e2 : ((if ts.length == 1 then ",)" else ")" : String) : Str).length ≤ 2 := by
    split
    · exact Nat.le_of_eq (by decide +kernel)
    · exact Nat.le_trans (Nat.le_of_eq (by decide +kernel)) (show 1 ≤ 2 by decide)
  by_cases h : ts = []
  · subst h
    have e3 : (Str.join ", " []).length = 0 := by decide +kernel
    omega
  · have := join_length_add ts h
    omega
theorem piled_le {ds : List PyData} {m : Nat} (h : ∀ d ∈ ds, d.shown.length ≤ m) : piled (PyData.shownAll ds) ≤ ds.length * (m + 2) := by
  induction ds with
  | nil => exact Nat.zero_le _
  | cons d r ih =>
    show piled (d.shown :: PyData.shownAll r) ≤ _
    rw [piled_cons, List.length_cons, Nat.succ_mul]
    have h1 := h d List.mem_cons_self
    have h2 := ih fun x hx => h x (List.mem_cons_of_mem _ hx)
    omega
theorem shown_int {i : Int} (h0 : 0 ≤ i) (h1 : i ≤ 10000000) : (PyData.int i).shown.length ≤ 10 := PySem.W.KT.len_num h0 (by omega)
theorem shown_o {o : Option Int} (h : PriceOk o) : (oD o).shown.length ≤ 10 := by
  cases o with
  | none =>
    show ("None" : Str).length ≤ 10
    decide +kernel
  | some x =>
    have := h x rfl
    exact shown_int (by omega) (by omega)
theorem showable_int {i : Int} (h0 : 0 ≤ i) (h1 : i ≤ 10000000) : (PyData.int i).showable = true := by
  refine decide_eq_true ?_
  by_cases hz : i.natAbs = 0
  · rw [hz]
    decide
  · rw [Nat.log2_lt hz]
    have h : i.natAbs < 2 ^ 24 := by omega
    exact Nat.lt_of_lt_of_le h (Nat.pow_le_pow_right (by decide : 2 > 0) (show 24 ≤ 1920 by decide))
theorem showable_o {o : Option Int} (h : PriceOk o) : (oD o).showable = true := by
  cases o with
  | none => rfl
  | some x =>
    have := h x rfl
    exact showable_int (by omega) (by omega)
theorem showable_all {ds : List PyData} (h : ∀ d ∈ ds, d.showable = true) : PyData.showableAll ds = true := by
  induction ds with
  | nil => rfl
  | cons d r ih =>
    show (d.showable && PyData.showableAll r) = true
    rw [h d List.mem_cons_self, ih fun x hx => h x (List.mem_cons_of_mem _ hx)]
    rfl
/-- what repr asks of data -/
structure ShowOk (d : PyData) (m : Nat) : Prop where
  sh : d.showable = true
  nd : d.hasDict = false
  dep : d.depth ≤ 10
  len : d.shown.length ≤ m
theorem showOk_net {N : Net} (ok : NetOk N) : ShowOk (netD N) 200000 := by
  have n1 := ok.n1
  have n40 := ok.n40
  have l16 := ok.len
  have hl : ∀ d ∈ N.ls.map lnkD, d.shown.length ≤ 60 ∧ d.showable = true := fun d hd => by
    obtain ⟨l, hl, rfl⟩ := List.mem_map.mp hd
    have h := ok.ok l hl
    have a0 := h.a0
    have ab := h.ab
    have bn := h.bn
    have s1 := shown_int (i := l.a) (by omega) (by omega)
    have s2 := shown_int (i := l.b) (by omega) (by omega)
    have s3 := shown_o h.t
    have s4 := shown_o h.k
    constructor
    · show (tupleText (PyData.shownAll [.int l.a, .int l.b, oD l.t, oD l.k])).length ≤ 60
      have := tupleText_le (PyData.shownAll [.int l.a, .int l.b, oD l.t, oD l.k])
      have p := piled_le (ds := [.int l.a, .int l.b, oD l.t, oD l.k]) (m := 10) (fun d hd => by
        simp only [List.mem_cons, List.not_mem_nil, or_false] at hd
        rcases hd with rfl | rfl | rfl | rfl <;> assumption)
      have e : ([.int l.a, .int l.b, oD l.t, oD l.k] : List PyData).length = 4 := rfl
      rw [e] at p
      omega
    · show (PyData.showableAll [.int l.a, .int l.b, oD l.t, oD l.k]) = true
      refine showable_all fun d hd => ?_
      simp only [List.mem_cons, List.not_mem_nil, or_false] at hd
      rcases hd with rfl | rfl | rfl | rfl
      · exact showable_int (by omega) (by omega)
      · exact showable_int (by omega) (by omega)
      · exact showable_o h.t
      · exact showable_o h.k
  have p := piled_le (ds := N.ls.map lnkD) (m := 60) fun d hd => (hl d hd).1
  rw [List.length_map] at p
  have q := listText_le (PyData.shownAll (N.ls.map lnkD))
  have s1 := shown_int (i := N.n) (by omega) (by omega)
  refine ⟨?_, PyData.hasDict_of_canLay _ (lay_net N).1, Nat.le_trans (lay_net N).2 (by decide), ?_⟩
  · show (PyData.showableAll [.int N.n, .list (N.ls.map lnkD)]) = true
    refine showable_all fun d hd => ?_
    simp only [List.mem_cons, List.not_mem_nil, or_false] at hd
    rcases hd with rfl | rfl
    · exact showable_int (by omega) (by omega)
    · exact showable_all fun d hd => (hl d hd).2
  · show (tupleText (PyData.shownAll [.int N.n, .list (N.ls.map lnkD)])).length ≤ 200000
    have := tupleText_le (PyData.shownAll [.int N.n, .list (N.ls.map lnkD)])
    have p2 := piled_le (ds := [.int N.n, .list (N.ls.map lnkD)]) (m := 99902) (fun d hd => by
      simp only [List.mem_cons, List.not_mem_nil, or_false] at hd
      rcases hd with rfl | rfl
      · omega
      · show (listText (PyData.shownAll (N.ls.map lnkD))).length ≤ 99902
        omega)
    have e : ([.int N.n, .list (N.ls.map lnkD)] : List PyData).length = 2 := rfl
    rw [e] at p2
    omega
theorem showOk_ints {ns : List Int} (h : ∀ x ∈ ns, 0 ≤ x ∧ x ≤ 10000000) (hl : ns.length ≤ 1000) : ShowOk (.list (ns.map PyData.int)) 20000 := by
  have p := piled_le (ds := ns.map PyData.int) (m := 10) fun d hd => by
    obtain ⟨x, hx, rfl⟩ := List.mem_map.mp hd
    exact shown_int (h x hx).1 (h x hx).2
  rw [List.length_map] at p
  have q := listText_le (PyData.shownAll (ns.map PyData.int))
  refine ⟨?_, PyData.hasDict_of_canLay _ ((lay_ints ns).1), ?_, ?_⟩
  · refine showable_all fun d hd => ?_
    obtain ⟨x, hx, rfl⟩ := List.mem_map.mp hd
    exact showable_int (h x hx).1 (h x hx).2
  · show PyData.depthAll (ns.map PyData.int) + 1 ≤ 10
    rw [(lay_ints ns).2]
    decide
  · show (listText (PyData.shownAll (ns.map PyData.int))).length ≤ 20000
    omega
theorem showOk_pair {a b : PyData} {m : Nat} (ha : ShowOk a m) (hb : ShowOk b m) : (PyData.tuple [a, b]).showable = true ∧ (PyData.tuple [a, b]).hasDict = false ∧ (PyData.tuple [a, b]).depth ≤ 60 ∧ (PyData.tuple [a, b]).shown.length ≤ 2 * (m + 2) + 4 := by
  refine ⟨?_, ?_, ?_, ?_⟩
  · show (PyData.showableAll [a, b]) = true
    exact showable_all fun d hd => by
      simp only [List.mem_cons, List.not_mem_nil, or_false] at hd
      rcases hd with rfl | rfl
      · exact ha.sh
      · exact hb.sh
  · show (a.hasDict || (b.hasDict || false)) = false
    rw [ha.nd, hb.nd]
    rfl
  · show max a.depth (max b.depth 0) + 1 ≤ 60
    have := ha.dep
    have := hb.dep
    omega
  · have := tupleText_le (PyData.shownAll [a, b])
    have p := piled_le (ds := [a, b]) (m := m) (fun d hd => by
      simp only [List.mem_cons, List.not_mem_nil, or_false] at hd
      rcases hd with rfl | rfl
      · exact ha.len
      · exact hb.len)
    have e : ([a, b] : List PyData).length = 2 := rfl
    rw [e] at p
    show (tupleText (PyData.shownAll [a, b])).length ≤ _
    omega
/-! ### what the check of pairs stands on -/
theorem lay_pairs : ∀ L : List (Int × Int), PyData.canLayAll0 (L.map pairD2) = true ∧ PyData.depthAll (L.map pairD2) ≤ 1
  | [] => ⟨rfl, Nat.zero_le _⟩
  | x :: L => by
    have ih := lay_pairs L
    constructor
    · show ((true && (true && true)) && PyData.canLayAll0 (L.map pairD2)) = true
      rw [ih.1]
      rfl
    · show max (max 0 (max 0 0) + 1) (PyData.depthAll (L.map pairD2)) ≤ 1
      have := ih.2
      simp only [Nat.max_self, Nat.zero_add]
      omega
theorem shaped_pairs (L : List (Int × Int)) : SeqAt.shaped (.list (L.map pairD2)) = true := by
  have h := lay_pairs L
  show (PyData.canLayAll0 (L.map pairD2) && decide (PyData.depthAll (L.map pairD2) + 1 ≤ 64)) = true
  rw [h.1, decide_eq_true (show PyData.depthAll (L.map pairD2) + 1 ≤ 64 by
    have := h.2
    omega)]
  rfl
theorem any_pairs (L : List (Int × Int)) (p q : Int) : ((L.map pairD2).any fun z => PyData.eqv z (.tuple [.int p, .int q])) = decide ((p, q) ∈ L) := by
  rw [Bool.eq_iff_iff, List.any_eq_true, decide_eq_true_eq]
  have e : ∀ x : Int × Int, PyData.eqv (pairD2 x) (.tuple [.int p, .int q]) = decide (x = (p, q)) := fun x => by
    obtain ⟨a, b⟩ := x
    show (a == p && (b == q && true)) = _
    rw [Bool.and_true, Bool.eq_iff_iff]
    simp
  constructor
  · rintro ⟨z, hz, hq⟩
    obtain ⟨x, hx, rfl⟩ := List.mem_map.mp hz
    rw [e, decide_eq_true_eq] at hq
    rw [← hq]
    exact hx
  · intro h
    refine ⟨_, List.mem_map_of_mem h, ?_⟩
    rw [e, decide_eq_true rfl]

theorem ve_inP {K : PySem.W.Frag} {σ : L2.St} {H : Hp} {ta tb tf : TE} {p q : Int} {f : V} {L : List (Int × Int)} (ha : Vl ta σ H (.int p)) (hb : Vl tb σ H (.int q)) (hf : ∀ H', Same H H' → Vl tf σ H' f) (hd : Dp K H f (.list (L.map pairD2))) :
    Ve (tOp (rInD K) (tTup (tCons ta (tCons tb tNil))) tf) σ H (.bl (decide ((p, q) ∈ L))) := fun Q k =>
  ha _ (hb _ ⟨by show 2 ≤ sizeLine; decide, fun T nT => by
    have s1 : Same H (upd H T (.tup [.int p, .int q])) := same_upd nT
    refine hf _ s1 _ ⟨.tuple [.int p, .int q], L.map pairD2, .tup (.of upd_same) (.cons (.int _) (.cons (.int _) .nil)), Dp.to hd s1, by rfl, shaped_pairs L, ?_⟩
    rw [any_pairs]
    exact k _ s1⟩)
theorem mk_tup2 {σ : L2.St} {H : Hp} {t1 t2 : TE} {x y : Int} {Q : VK} (h1 : Vl t1 σ H (.int x)) (h2 : Vl t2 σ H (.int y)) (k : ∀ T, H T = none → Q (.ref T) (upd H T (.tup [.int x, .int y]))) : tTup (tCons t1 (tCons t2 tNil)) σ H Q := h1 _ (h2 _ ⟨by show 2 ≤ sizeLine; decide, k⟩)
theorem for_zip5 {K : PySem.W.Frag} {a b : Addr} {xs ys : List V} {g : TG} {tb : TS} {D : Ends} {σ : L2.St} {H : Hp} (Pv : Nat → L2.St → Hp → Prop) (h0 : Pv 0 σ H)
    (hq : ∀ i σ H, Pv i σ H → SqL K H a xs ∧ SqL K H b ys)
    (hs : ∀ (i : Nat) x y T σ H, xs[i]? = some x → ys[i]? = some y → Pv i σ H → H T = none → g (.ref T) σ (upd H T (.tup [x, y])) fun σ2 H2 => tb { D with nx := Pv (i + 1), ct := Pv (i + 1), bk := D.nx } σ2 H2)
    (hd : ∀ σ H, Pv (min xs.length ys.length) σ H → D.nx σ H) :
    ∃ W : Nat → Nat → L2.St → Hp → Prop, (∃ m, W 0 m σ H) ∧ ∀ i m σ H, W i m σ H → ((Itz K a b).stop i H ∧ D.nx σ H) ∨
      ((Itz K a b).go i H ∧ ∃ N : L2.St → Hp → Prop, (∀ σ' H', N σ' H' → ∃ m', m' < m ∧ W (i + 1) m' σ' H') ∧ ∀ v H', (Itz K a b).yld i H v H' → g v σ H' fun σ2 H2 => tb { D with nx := N, ct := N, bk := D.nx } σ2 H2) := by
  refine ⟨fun i m σ H => m + i = min xs.length ys.length ∧ Pv i σ H, ⟨min xs.length ys.length, rfl, h0⟩, fun i m σ H hW => ?_⟩
  obtain ⟨em, p⟩ := hW
  obtain ⟨qx, qy⟩ := hq i σ H p
  by_cases hlt : i < min xs.length ys.length
  · have h1 : i < xs.length := by omega
    have h2 : i < ys.length := by omega
    refine .inr ⟨⟨xs, ys, xs[i], ys[i], qx, qy, List.getElem?_eq_getElem h1, List.getElem?_eq_getElem h2⟩, Pv (i + 1), fun σ' H' p' => ⟨m - 1, by omega, by omega, p'⟩, fun v H' yy => ?_⟩
    obtain ⟨T, x', y', rfl, hT, rfl, f1, f2⟩ := yy
    exact hs i x' y' T σ H (f1 xs qx) (f2 ys qy) p hT
  · have e : i = min xs.length ys.length := by omega
    rw [e] at p
    exact .inl ⟨⟨xs, ys, qx, qy, by omega⟩, hd σ H p⟩
theorem room65 {k : Nat} {A : Around} (r : Room k A) : A.units + 65 < cLine := by
  have := r.un
  omega
/-! ### the price of a link, the places lower than both -/
def K2 (p : Int × Int) : List L2.Key := [Sum.inl p.1, Sum.inl p.2]
theorem K2_inj {p q : Int × Int} (h : K2 p = K2 q) : p = q := by
  unfold K2 at h
  injection h with e1 e2
  injection e2 with e2 _
  exact Prod.ext (Sum.inl.inj e1) (Sum.inl.inj e2)
theorem cut_1 (w : List Int) (h : 1 ≤ w.length) : cutV (w.map V.int) (some 1) none = (w.drop 1).map V.int := by
  cases w with
  | nil => exact absurd h (by decide)
  | cons x r =>
    unfold cutV
    rw [show HT.sIx ((x :: r).map V.int).length 0 (some 1) = min 1 ((x :: r).map V.int).length from HT.sIx_nat _ 0 1, HT.sIx_none]
    rw [show min 1 ((x :: r).map V.int).length = 1 by
      rw [List.length_map, List.length_cons]
      omega]
    show List.take _ (r.map V.int) = r.map V.int
    rw [List.length_map, List.length_cons, Nat.add_sub_cancel]
    exact List.take_of_length_le (by rw [List.length_map]; exact Nat.le_refl _)
theorem ax_op {σ : L2.St} {H : Hp} {ta tb : TE} {r : R2} {b : Bool} (h : ∀ Q : Bool → Hp → Prop, (∀ H', Same H H' → Q b H') → ta σ H fun x H1 => tb σ H1 fun y H2 => r x y H2 fun z H3 => ∃ b', z = .bl b' ∧ Q b' H3) : Ax (tTest (tOp r ta tb)) σ H b := fun Q q => h Q q
theorem ax_notN7 {σ : L2.St} {H : Hp} {te : TE} {v : V} (h : Ve te σ H v) : Ax (tTest (tOp (fun x y H Q => y = V.non ∧ Q (V.bl (!decide (x = V.non))) H) te (tC .non))) σ H (!decide (v = .non)) := fun Q k => h _ fun H' s' => ⟨rfl, _, rfl, k H' s'⟩
section
variable {K : PySem.W.Frag} {σ : L2.St} {H : Hp} {D : Ends} {tw tz : TS} {tl : TE}
theorem g_forP7 {j1 j2 : Nat} {a : Addr} {ts : List V} {L : List (Int × Int)} (h : Vl tl σ H (.ref a)) (Pv : Nat → L2.St → Hp → Prop) (h0 : Pv 0 σ H) (hl : ∀ i σ' H', Pv i σ' H' → SqL K H' a ts ∧ TupsAt H' ts L)
    (hs : ∀ (i : Nat) u v σ H, L[i]? = some (u, v) → Pv i σ H → tz { D with nx := Pv (i + 1), ct := Pv (i + 1), bk := D.nx } ((σ.set j1 (some (.int u))).set j2 (some (.int v))) H) (hd : ∀ σ H, Pv L.length σ H → D.nx σ H) :
    tFor (iList K tl) (gTup K 2 (gCons (gName j1) (gCons (gName j2) gNil))) tz D σ H := h _ ⟨a, rfl, ⟨_, (hl 0 σ H h0).1⟩, for_list (xs := ts) Pv h0 (fun i σ H _ p => (hl i σ H p).1) (fun i x σ H hi p => by
      have hW := (hl i σ H p).2
      have hlt : i < L.length := by
        rw [← hW.len]
        exact (List.getElem?_eq_some_iff.mp hi).1
      have hg : L[i]? = some L[i] := List.getElem?_eq_getElem hlt
      generalize L[i] = w at hg
      obtain ⟨u, v⟩ := w
      obtain ⟨t, h1, h2⟩ := hW.at_ i u v hg
      cases hi.symm.trans h1
      exact ⟨t, _, rfl, .of h2, rfl, _, _, rfl, _, _, rfl, rfl, hs i u v σ H hg p⟩) (fun σ H p => by
      rw [(hl _ σ H p).2.len] at p
      exact hd σ H p)⟩
theorem q_forP7 {j1 j2 : Nat} {a : Addr} {ts : List V} {L : List (Int × Int)} (h : Vl tl σ H (.ref a)) (Pv : Nat → L2.St → Hp → Prop) (h0 : Pv 0 σ H) (hl : ∀ i σ' H', Pv i σ' H' → SqL K H' a ts ∧ TupsAt H' ts L)
    (hs : ∀ (i : Nat) u v σ H, L[i]? = some (u, v) → Pv i σ H → tz { D with nx := Pv (i + 1), ct := Pv (i + 1), bk := tw D } ((σ.set j1 (some (.int u))).set j2 (some (.int v))) H) (hd : ∀ σ H, Pv L.length σ H → tw D σ H) :
    tSeq (tFor (iList K tl) (gTup K 2 (gCons (gName j1) (gCons (gName j2) gNil))) tz) tw D σ H := g_forP7 (D := { D with nx := tw D }) h Pv h0 hl hs hd
end
theorem nd_self {x : V} : (!decide (x = x)) = false := by
  rw [decide_eq_true rfl]
  rfl
theorem mk_all {K : PySem.W.Frag} {σ : L2.St} {H : Hp} {te : TE} {xs : List V} {Q : Bool → Hp → Prop} (h : Vn te σ H xs) (k : ∀ p H', Same H H' → H p = none → H' p = some (.lst xs) → rAll K [.ref p] H' fun v H2 => ∃ b, TruV K v H2 b ∧ Q b H2) : tCB (rAll K) (tCons te tNil) σ H fun x H' => ∃ b, TruV K x H' b ∧ Q b H' := h _ k
section
variable {K : PySem.W.Frag} {σ : L2.St} {H : Hp} {ta tb td te : TE} {D : Ends} {tw tz : TS}
theorem an_dinI {o : Addr} {x : Int} {kvs : List (L2.Key × V)} (h1 : Vl ta σ H (.int x)) (h2 : Vl td σ H (.ref o)) (hd : H o = some (.dK kvs)) : An (tB (tDIn ta td)) σ H (valV kvs (.inl x)).isSome := fun Q k => h1 _ (h2 _ ⟨o, _, rfl, DGet.k (k := .inl x) hd, _, rfl, k⟩)
theorem an_dnI7 {o : Addr} {x : Int} {kvs : List (L2.Key × V)} (h1 : Vl ta σ H (.int x)) (h2 : Vl td σ H (.ref o)) (hd : H o = some (.dK kvs)) : An (tB (tDNotIn ta td)) σ H (!(valV kvs (.inl x)).isSome) := fun Q k => h1 _ (h2 _ ⟨o, _, rfl, DGet.k (k := .inl x) hd, _, rfl, k⟩)
end
theorem yes_of {σ : L2.St} {H : Hp} {Q : Bool → Hp → Prop} (h : Q true H) : tYes σ H Q := h
theorem putK_new {kvs : List (List L2.Key × V)} {k : List L2.Key} {v : V} (h : valV kvs k = none) : (putK kvs k v).length = kvs.length + 1 := by
  unfold putK
  rw [valV_any, h, if_neg (by decide), List.length_append]
  rfl
theorem putK_old {kvs : List (List L2.Key × V)} {k : List L2.Key} {v : V} (h : (valV kvs k).isSome = true) : (putK kvs k v).length = kvs.length := by
  unfold putK
  rw [valV_any, if_pos h, List.length_map]
/-- the dict of the told tuples -/
structure ListedAt (H : Hp) (d : Addr) (L : List (Int × Int)) : Prop where
  ex : ∃ kvs : List (List L2.Key × V), H d = some (.dT kvs) ∧ kvs.length ≤ L.length ∧ (kvs.length = L.length ↔ L.Nodup) ∧ ∀ x y : Int, (valV kvs (K2 (x, y))).isSome = decide ((x, y) ∈ L)
theorem ListedAt.to {H H' : Hp} {d : Addr} {L : List (Int × Int)} (h : ListedAt H d L) (s : Same H H') : ListedAt H' d L := by
  obtain ⟨kvs, e, h1, h2, h3⟩ := h.ex
  exact ⟨kvs, s _ _ e, h1, h2, h3⟩
/-- {way: True for way in ways} -/
theorem dcT_true {K : PySem.W.Frag} {σ : L2.St} {H : Hp} {tl : TE} {j : Nat} {L : List (Int × Int)} {Q : VK} (hj : j < σ.length) (hl : ∀ Q : VK, (∀ a H1 ts, Same H H1 → SqL K H1 a ts → TupsAt H1 ts L → Q (.ref a) H1) → tl σ H Q) (hz : L.length ≤ 10000)
    (q : ∀ D H', Same H H' → H D = none → ListedAt H' D L → Q (.ref D) H') : tDcT (iList K tl) (gName j) tYes (tVar j) (tC (.bl true)) [j] σ H Q := by
  refine hl _ fun a H1 ts s1 hx hT => ⟨a, rfl, ⟨_, hx⟩, fun D nD => ?_⟩
  refine ⟨fun i m H2 => m + i = L.length ∧ ∃ kvs : List (List L2.Key × V), H2 D = some (.dT kvs) ∧ Same H1 H2 ∧ kvs.length ≤ i ∧ (kvs.length = i ↔ (L.take i).Nodup) ∧ ∀ x y : Int, (valV kvs (K2 (x, y))).isSome = decide ((x, y) ∈ L.take i),
    ⟨L.length, rfl, [], upd_same, same_upd nD, Nat.le_refl _, ⟨fun _ => List.nodup_nil, fun _ => rfl⟩, fun x y => rfl⟩, fun i m H2 hW => ?_⟩
  obtain ⟨em, kvs, hD, s2, hlen, hnd, hv⟩ := hW
  by_cases hi : i < L.length
  · have hg : L[i]? = some L[i] := List.getElem?_eq_getElem hi
    generalize L[i] = n at hg
    obtain ⟨u, v⟩ := n
    obtain ⟨t, e1, e2⟩ := hT.at_ i u v hg
    refine .inr ⟨⟨_, _, s2.seq hx, e1⟩, fun H2 => ∃ kvs : List (List L2.Key × V), H2 D = some (.dT kvs) ∧ Same H1 H2 ∧ kvs.length ≤ i + 1 ∧ (kvs.length = i + 1 ↔ (L.take (i + 1)).Nodup) ∧ ∀ x y : Int, (valV kvs (K2 (x, y))).isSome = decide ((x, y) ∈ L.take (i + 1)), fun H' h => ⟨m - 1, by omega, by omega, h⟩, fun x H' hy => ?_⟩
    obtain ⟨rfl, hy⟩ := hy
    cases (hy _ (s2.seq hx)).symm.trans e1
    refine ⟨?_, ?_⟩
    · show ((σ.set j none).set j (some (V.ref t))).set j none = σ.set j none
      rw [List.set_set, List.set_set]
    · refine yes_of ?_
      dsimp only
      rw [if_pos rfl]
      have hjl : ((σ.set j none).set j (some (V.ref t)))[j]? = some (some (V.ref t)) := List.getElem?_set_self (by rw [List.length_set]; exact hj)
      refine ⟨_, hjl, ⟨_, K2 (u, v), t, rfl, s2 _ _ e2, hD, ?_, putK kvs (K2 (u, v)) (.bl true), upd_same, same_upd' s2 nD, ?_, ?_, fun x y => ?_⟩⟩
      · exact Nat.lt_of_le_of_lt (m := 10000) (by omega) (by decide)
      · have := put_len (kvs := kvs) (k := K2 (u, v)) (v := .bl true)
        omega
      · rw [take_snoc hg, List.nodup_append]
        by_cases c : (u, v) ∈ L.take i
        · rw [putK_old (by rw [hv, decide_eq_true c])]
          exact ⟨fun h => by omega, fun h => absurd rfl (h.2.2 _ c _ List.mem_cons_self)⟩
        · rw [putK_new (by
            have := hv u v
            rw [decide_eq_false c] at this
            cases z : valV kvs (K2 (u, v)) with
            | none => rfl
            | some w =>
              rw [z] at this
              cases this)]
          refine ⟨fun h => ⟨hnd.mp (by omega), List.nodup_cons.mpr ⟨List.not_mem_nil, List.nodup_nil⟩, fun a ha b hb e => c ?_⟩, fun h => ?_⟩
          · rw [← List.mem_singleton.mp hb, ← e]
            exact ha
          · have := hnd.mpr h.1
            omega
      · rw [valV_put, take_snoc hg]
        by_cases c : (x, y) = (u, v)
        · rw [if_pos (congrArg K2 c), decide_eq_true (List.mem_append.mpr (.inr (List.mem_singleton.mpr c)))]
          rfl
        · rw [if_neg fun h => c (K2_inj h), hv]
          by_cases c3 : (x, y) ∈ L.take i
          · rw [decide_eq_true c3, decide_eq_true (List.mem_append.mpr (.inl c3))]
          · rw [decide_eq_false c3, decide_eq_false fun h => by
              rcases List.mem_append.mp h with h | h
              · exact c3 h
              · exact c (List.mem_singleton.mp h)]
  · refine .inl ⟨⟨_, s2.seq hx, by rw [hT.len]; omega⟩, ?_⟩
    rw [List.take_of_length_le (by omega)] at hv hnd
    have ei : i = L.length ∨ L.length < i := by omega
    have ei2 : i = L.length := by omega
    rw [ei2] at hnd hlen
    exact q D H2 (s1.trans s2) (Same.free s1 nD) ⟨kvs, hD, hlen, hnd, hv⟩
/-- (a, b) in d, a dict of tuples -/
theorem ve_dinT {σ : L2.St} {H : Hp} {ta tb td : TE} {o : Addr} {kvs : List (List L2.Key × V)} {x y : Int} (h1 : Vl ta σ H (.int x)) (h2 : Vl tb σ H (.int y)) (h3 : ∀ H', Same H H' → Vl td σ H' (.ref o)) (hD : H o = some (.dT kvs)) : Ve (tDIn (tTup (tCons ta (tCons tb tNil))) td) σ H (.bl (valV kvs (K2 (x, y))).isSome) := fun Q k =>
  h1 _ (h2 _ ⟨by show 2 ≤ sizeLine; decide, fun T nT => h3 _ (same_upd nT) _ ⟨o, _, rfl, DGet.t (k := K2 (x, y)) (same_upd nT _ _ hD) upd_same, k _ (same_upd nT)⟩⟩)
theorem ax_dnotT {σ : L2.St} {H : Hp} {ta tb td : TE} {o : Addr} {kvs : List (List L2.Key × V)} {x y : Int} (h1 : Vl ta σ H (.int x)) (h2 : Vl tb σ H (.int y)) (h3 : ∀ H', Same H H' → Vl td σ H' (.ref o)) (hD : H o = some (.dT kvs)) : Ax (tB (tDNotIn (tTup (tCons ta (tCons tb tNil))) td)) σ H (!(valV kvs (K2 (x, y))).isSome) := fun Q k =>
  h1 _ (h2 _ ⟨by show 2 ≤ sizeLine; decide, fun T nT => h3 _ (same_upd nT) _ ⟨o, _, rfl, DGet.t (k := K2 (x, y)) (same_upd nT _ _ hD) upd_same, _, rfl, k _ (same_upd nT)⟩⟩)
theorem ve_orV {σ : L2.St} {H : Hp} {ta tb : TE} {k m : Bool} (h1 : Ve ta σ H (.bl k)) (h2 : ∀ H', Same H H' → Ve tb σ H' (.bl m)) : Ve (tOrV ta tb) σ H (.bl (k || m)) := fun Q q => h1 _ fun H1 s1 => ⟨k, rfl, by
  cases k with
  | true => exact iteT (q H1 s1)
  | false => exact iteF (h2 H1 s1 _ fun H2 s2 => q H2 (s1.trans s2))⟩
theorem ve_andV {σ : L2.St} {H : Hp} {ta tb : TE} {k m : Bool} (h1 : Ve ta σ H (.bl k)) (h2 : k = true → ∀ H', Same H H' → Ve tb σ H' (.bl m)) : Ve (tAndV ta tb) σ H (.bl (k && m)) := fun Q q => h1 _ fun H1 s1 => ⟨k, rfl, by
  cases k with
  | true => exact iteT (h2 rfl H1 s1 _ fun H2 s2 => q H2 (s1.trans s2))
  | false => exact iteF (q H1 s1)⟩
/-- all([..]) of a list of truths -/
theorem ve_all {K : PySem.W.Frag} {σ : L2.St} {H : Hp} {te : TE} {bs : List Bool} (h : Vn te σ H (bs.map V.bl)) : Ve (tCB (rAll K) (tCons te tNil)) σ H (.bl (bs.all id)) := fun Q q => h _ fun p H' s' _ e => ⟨p, bs, rfl, .of e, q H' s'⟩
theorem lkv_adj {ls : List Lnk} {x y : Int} : (lkv ls x y).isSome = adj0 ls x y := by
  have key : ∀ n, ∀ ls : List Lnk, ls.length = n → (lkv ls x y).isSome = adj0 ls x y := by
    intro n
    induction n with
    | zero =>
      intro ls h
      rw [List.length_eq_zero_iff.mp h]
      rfl
    | succ n ih =>
      intro ls h
      rcases List.eq_nil_or_concat ls with e | ⟨L, l, e⟩
      · rw [e] at h
        cases h
      · rw [List.concat_eq_append] at e
        subst e
        rw [List.length_append] at h
        have := ih L (by simpa using h)
        rw [lkv_snoc, Bool.eq_iff_iff]
        have ea : adj0 (L ++ [l]) x y = true ↔ adj0 L x y = true ∨ (l.a = x ∧ l.b = y) ∨ (l.a = y ∧ l.b = x) := by
          rw [adj0_iff, adj0_iff]
          constructor
          · rintro ⟨m, hm, e⟩
            rcases List.mem_append.mp hm with hm | hm
            · exact .inl ⟨m, hm, e⟩
            · rw [List.mem_singleton.mp hm] at e
              exact .inr e
          · rintro (⟨m, hm, e⟩ | e)
            · exact ⟨m, List.mem_append.mpr (.inl hm), e⟩
            · exact ⟨l, List.mem_append.mpr (.inr List.mem_cons_self), e⟩
        rw [ea, ← this]
        unfold lkS
        by_cases c1 : x = l.b ∧ y = l.a
        · rw [if_pos c1]
          exact ⟨fun _ => .inr (.inr ⟨c1.2.symm, c1.1.symm⟩), fun _ => rfl⟩
        · rw [if_neg c1]
          by_cases c2 : x = l.a ∧ y = l.b
          · rw [if_pos c2]
            exact ⟨fun _ => .inr (.inl ⟨c2.1.symm, c2.2.symm⟩), fun _ => rfl⟩
          · rw [if_neg c2]
            exact ⟨.inl, fun h => h.elim id fun h => h.elim (fun z => absurd ⟨z.1.symm, z.2.symm⟩ c2) fun z => absurd ⟨z.2.symm, z.1.symm⟩ c1⟩
  exact key _ ls rfl
/-- lists of ints in a list -/
structure ListsAt (H : Hp) (ws : List V) (W : List (List Int)) : Prop where
  len : ws.length = W.length
  at_ : ∀ (i : Nat) (w : List Int), W[i]? = some w → ∃ a, ws[i]? = some (.ref a) ∧ H a = some (.lst (w.map V.int))
theorem ListsAt.to {H H' : Hp} {ws : List V} {W : List (List Int)} (h : ListsAt H ws W) (s : Same H H') : ListsAt H' ws W := ⟨h.len, fun i w e => let ⟨t, h1, h2⟩ := h.at_ i w e; ⟨t, h1, s _ _ h2⟩⟩
theorem ListsAt.nil {H : Hp} : ListsAt H [] [] := ⟨rfl, fun i w e => by simp at e⟩
theorem ListsAt.one {H : Hp} {t : Addr} {w : List Int} (h : H t = some (.lst (w.map V.int))) : ListsAt H [.ref t] [w] := ⟨rfl, fun i a e => by
  cases i with
  | zero =>
    cases Option.some.inj e
    exact ⟨t, rfl, h⟩
  | succ i => simp at e⟩
theorem ListsAt.app {H : Hp} {ws zs : List V} {W M : List (List Int)} (h : ListsAt H ws W) (k : ListsAt H zs M) : ListsAt H (ws ++ zs) (W ++ M) := ⟨by
  rw [List.length_append, List.length_append, h.len, k.len], fun i w e => by
  by_cases hi : i < W.length
  · rw [List.getElem?_append_left hi] at e
    rw [List.getElem?_append_left (by rw [h.len]; exact hi)]
    exact h.at_ i w e
  · rw [List.getElem?_append_right (by omega)] at e
    rw [List.getElem?_append_right (by rw [h.len]; omega), h.len]
    exact k.at_ _ w e⟩
theorem ListsAt.take {H : Hp} {ws : List V} {W : List (List Int)} (h : ListsAt H ws W) (n : Nat) : ListsAt H (ws.take n) (W.take n) := ⟨by rw [List.length_take, List.length_take, h.len], fun i w e => by
  have hl := (List.getElem?_eq_some_iff.mp e).1
  rw [List.length_take] at hl
  rw [List.getElem?_take_of_lt (by omega)] at e ⊢
  exact h.at_ i w e⟩
theorem ListsAt.drop {H : Hp} {ws : List V} {W : List (List Int)} (h : ListsAt H ws W) (n : Nat) : ListsAt H (ws.drop n) (W.drop n) := ⟨by rw [List.length_drop, List.length_drop, h.len], fun i w e => by
  rw [List.getElem?_drop] at e ⊢
  exact h.at_ _ w e⟩
theorem TupsAt.take {H : Hp} {ts : List V} {L : List (Int × Int)} (h : TupsAt H ts L) (n : Nat) : TupsAt H (ts.take n) (L.take n) := ⟨by rw [List.length_take, List.length_take, h.len], fun i u v e => by
  have hl := (List.getElem?_eq_some_iff.mp e).1
  rw [List.length_take] at hl
  rw [List.getElem?_take_of_lt (by omega)] at e ⊢
  exact h.at_ i u v e⟩
theorem TupsAt.drop {H : Hp} {ts : List V} {L : List (Int × Int)} (h : TupsAt H ts L) (n : Nat) : TupsAt H (ts.drop n) (L.drop n) := ⟨by rw [List.length_drop, List.length_drop, h.len], fun i u v e => by
  rw [List.getElem?_drop] at e ⊢
  exact h.at_ _ u v e⟩
theorem ListsAt.dp {K : PySem.W.Frag} {H : Hp} : ∀ {ws : List V} {W : List (List Int)}, ListsAt H ws W → DpAll K H ws (W.map fun w => .list (w.map PyData.int))
  | [], [], _ => .nil
  | [], _ :: _, h => absurd h.len (by simp)
  | _ :: _, [], h => absurd h.len (by simp)
  | x :: ws, w :: W, h => by
    obtain ⟨t, h1, h2⟩ := h.at_ 0 w rfl
    cases Option.some.inj h1
    exact .cons (Dp.ints (.of h2)) (ListsAt.dp ⟨Nat.succ.inj h.len, fun i a e => h.at_ (i + 1) a e⟩)
/-! ### what the check of pairs asks -/
structure IsWayP (N : Net) (os : List Int) (u v : Int) (w : List Int) : Prop where
  len : 2 ≤ w.length
  hd : w[0]? = some u
  end_ : w[w.length - 1]? = some v
  adj : ∀ (i : Nat) (a b : Int), w[i]? = some a → w[i + 1]? = some b → adj0 N.ls a b = true
  low : ∀ (i : Nat) (x : Int), 0 < i → i + 1 < w.length → w[i]? = some x → posOf x os < posOf u os
def GoUp (N : Net) (os : List Int) (L : List (Int × Int)) : Prop := ∀ u v, (u, v) ∈ L → (0 ≤ u ∧ u < N.n) ∧ (0 ≤ v ∧ v < N.n) ∧ posOf u os < posOf v os
def HasL (N : Net) (L : List (Int × Int)) : Prop := ∀ l ∈ N.ls, (l.a, l.b) ∈ L ∨ (l.b, l.a) ∈ L
def HasJ (L : List (Int × Int)) : Prop := ∀ u v w, (u, v) ∈ L → (u, w) ∈ L → v ≠ w → (v, w) ∈ L ∨ (w, v) ∈ L
def AllW (N : Net) (os : List Int) (L : List (Int × Int)) (W : List (List Int)) : Prop := ∀ (i : Nat) u v w, L[i]? = some (u, v) → W[i]? = some w → IsWayP N os u v w
structure DueP (N : Net) (os : List Int) (L : List (Int × Int)) (W : List (List Int)) : Prop where
  len : W.length = L.length
  nd : L.Nodup
  up : GoUp N os L
  lnk : HasL N L
  joins : HasJ L
  way : AllW N os L W
section
variable {N : Net} {os : List Int} {L : List (Int × Int)} {W : List (List Int)} {u v : Int} {w : List Int}
theorem IsWayP.rch (h : IsWayP N os u v w) : Rch (adj0 N.ls) (fun z => posOf z os < posOf u os) u v := by
  have key : ∀ (k : Nat) (x : Int), 1 ≤ k → k + 1 ≤ w.length → w[k]? = some x → Rch (adj0 N.ls) (fun z => posOf z os < posOf u os) u x := by
    intro k
    induction k with
    | zero => intro x h1 _ _; omega
    | succ k ih =>
      intro x _ h2 hx
      have hl := (List.getElem?_eq_some_iff.mp hx).1
      have hg : w[k]? = some (w[k]'(by omega)) := List.getElem?_eq_getElem (by omega)
      have ha := h.adj k _ _ hg hx
      by_cases k0 : k = 0
      · subst k0
        have e := Option.some.inj (hg.symm.trans h.hd)
        rw [e] at ha
        exact .one ha
      · exact .step (ih _ (by omega) (by omega) hg) (h.low k _ (by omega) (by omega) hg) ha
  have := h.len
  exact key (w.length - 1) v (by omega) (by omega) h.end_
/-- what passes the check are the pairs -/
theorem DueP.pairs (ok : NetOk N) (oo : OrdOk N.n os) (h : DueP N os L W) : (u, v) ∈ L ↔ PairP N.ls os u v := by
  constructor
  · intro hm
    obtain ⟨i, hi⟩ := List.mem_iff_getElem?.mp hm
    have hil := (List.getElem?_eq_some_iff.mp hi).1
    have hg : W[i]? = some (W[i]'(by rw [h.len]; exact hil)) := List.getElem?_eq_getElem _
    exact ⟨(h.up u v hm).2.2, (h.way i u v _ hi hg).rch⟩
  · have key : ∀ (k : Nat) (u v : Int), posOf u os < k → PairP N.ls os u v → (u, v) ∈ L := by
      intro k
      induction k with
      | zero => intro u v h0 _; omega
      | succ k ih =>
        intro u v hk hp
        obtain ⟨h1, h2⟩ := (pair_rec ok oo).mp hp
        have fix : (u, v) ∈ L ∨ (v, u) ∈ L → (u, v) ∈ L := fun z => z.elim id fun z => by
          have := (h.up v u z).2.2
          omega
        rcases h2 with h2 | ⟨x, hx1, hx2⟩
        · obtain ⟨l, hl, e⟩ := adj0_iff.mp h2
          rcases e with ⟨rfl, rfl⟩ | ⟨rfl, rfl⟩
          · exact fix (h.lnk l hl)
          · exact fix (h.lnk l hl).symm
        · have hx := hx1.1
          exact fix (h.joins x u v (ih x u (by omega) hx1) (ih x v (by omega) hx2) fun e => by
            rw [e] at h1
            omega)
    exact key (posOf u os + 1) u v (Nat.lt_succ_self _)
/-- the pairs with ways pass it -/
theorem due_of (ok : NetOk N) (oo : OrdOk N.n os) (hl : W.length = L.length) (nd : L.Nodup) (hL : ∀ u v, (u, v) ∈ L ↔ PairP N.ls os u v) (hw : AllW N os L W) : DueP N os L W where
  len := hl
  nd := nd
  up := fun u v h => by
    have hp := (hL u v).mp h
    have := hp.ins ok
    exact ⟨this.1, this.2, hp.1⟩
  lnk := fun l hl => by
    have hk := ok.ok l hl
    have ha : adj0 N.ls l.a l.b = true := adj0_iff.mpr ⟨l, hl, .inl ⟨rfl, rfl⟩⟩
    have h0 := hk.a0
    have h1 := hk.ab
    have h2 := hk.bn
    have ne : posOf l.a os ≠ posOf l.b os := fun e => by
      have := pos_inj (oo.mem.mpr ⟨h0, by omega⟩) (oo.mem.mpr ⟨by omega, h2⟩) e
      omega
    rcases Nat.lt_or_gt_of_ne ne with h | h
    · exact .inl ((hL _ _).mpr ⟨h, .one ha⟩)
    · exact .inr ((hL _ _).mpr ⟨h, .one (by rw [adj0_sym]; exact ha)⟩)
  joins := fun u v w h1 h2 hvw => by
    have p1 := (hL u v).mp h1
    have p2 := (hL u w).mp h2
    have ne : posOf v os ≠ posOf w os := fun e => hvw (pos_inj (oo.mem.mpr (p1.ins ok).2) (oo.mem.mpr (p2.ins ok).2) e)
    rcases Nat.lt_or_gt_of_ne ne with h | h
    · exact .inl ((hL _ _).mpr (pair_clique ok p1 p2 h))
    · exact .inr ((hL _ _).mpr (pair_clique ok p2 p1 h))
  way := hw
end
/-! ### the program's check of pairs -/
section
variable {σ : L2.St} {H : Hp}
theorem for_cm6 {ps : List (V × V)} {g : TG} {tb : TS} {D : Ends} (Pv : Nat → L2.St → Hp → Prop) (h0 : Pv 0 σ H)
    (hs : ∀ (i : Nat) x y T σ H, ps[i]? = some (x, y) → Pv i σ H → H T = none → g (.ref T) σ (upd H T (.tup [x, y])) fun σ2 H2 => tb { D with nx := Pv (i + 1), ct := Pv (i + 1), bk := D.nx } σ2 H2) (hd : ∀ σ H, Pv ps.length σ H → D.nx σ H) :
    ∃ W : Nat → Nat → L2.St → Hp → Prop, (∃ m, W 0 m σ H) ∧ ∀ i m σ H, W i m σ H → ((Itcm ps).stop i H ∧ D.nx σ H) ∨
      ((Itcm ps).go i H ∧ ∃ N : L2.St → Hp → Prop, (∀ σ' H', N σ' H' → ∃ m', m' < m ∧ W (i + 1) m' σ' H') ∧ ∀ v H', (Itcm ps).yld i H v H' → g v σ H' fun σ2 H2 => tb { D with nx := N, ct := N, bk := D.nx } σ2 H2) := by
  refine ⟨fun i m σ H => m + i = ps.length ∧ Pv i σ H, ⟨ps.length, rfl, h0⟩, fun i m σ H hW => ?_⟩
  obtain ⟨em, p⟩ := hW
  by_cases hlt : i < ps.length
  · refine .inr ⟨hlt, Pv (i + 1), fun σ' H' p' => ⟨m - 1, by omega, by omega, p'⟩, fun v H' yy => ?_⟩
    obtain ⟨T, x, y, rfl, hT, rfl, f1⟩ := yy
    exact hs i x y T σ H f1 p hT
  · have e : i = ps.length := by omega
    rw [e] at p
    exact .inl ⟨by rw [e]; exact Nat.le_refl _, hd σ H p⟩
end
abbrev sHas : Stmt := topS 11
abbrev sHasL : Stmt := topS 12
abbrev sGoUp : Stmt := topS 10
abbrev sIsWay : Stmt := topS 14
theorem scGoUp : FnScope ["rank", "found", "n", "u", "v"] ["rank", "found"] (defScope sGoUp) := ⟨rfl, rfl, rfl, by decide +kernel, rfl, by decide +kernel, by decide +kernel⟩
theorem scHas : FnScope ["listed", "a", "b"] ["listed", "a", "b"] (defScope sHas) := ⟨rfl, rfl, rfl, by decide +kernel, rfl, by decide +kernel, by decide +kernel⟩
theorem scHasL : FnScope ["net", "listed", "link"] ["net", "listed"] (defScope sHasL) := ⟨rfl, rfl, rfl, by decide +kernel, rfl, by decide +kernel, by decide +kernel⟩
theorem scIsWay : FnScope ["rank", "joined", "pair", "way", "u", "v", "a", "b", "place"] ["rank", "joined", "pair", "way"] (defScope sIsWay) := ⟨rfl, rfl, rfl, by decide +kernel, rfl, by decide +kernel, by decide +kernel⟩
def spHas (K : PySem.W.Frag) : Sp := fun vs H Q _ => ∃ (d : Addr) (L : List (Int × Int)) (a b : Int), vs = [.ref d, .int a, .int b] ∧ ListedAt H d L ∧ ∀ H', Same H H' → Q (.bl (decide ((a, b) ∈ L) || decide ((b, a) ∈ L))) H'
def spHasL (K : PySem.W.Frag) : Sp := fun vs H Q _ => ∃ (v : V) (N : Net) (d : Addr) (L : List (Int × Int)), vs = [v, .ref d] ∧ Dp K H v (netD N) ∧ N.ls.length ≤ 1600 ∧ ListedAt H d L ∧ ∀ H' (r : Bool), Same H H' → (r = true ↔ HasL N L) → Q (.bl r) H'
def spGoUp (K : PySem.W.Frag) : Sp := fun vs H Q _ => ∃ (rp fp : Addr) (N : Net) (os : List Int) (ts : List V) (L : List (Int × Int)), vs = [.ref rp, .ref fp] ∧ SqL K H rp ((rk os).map V.int) ∧ OrdOk N.n os ∧ 0 ≤ N.n ∧ N.n ≤ 40 ∧ H fp = some (.lst ts) ∧ TupsAt H ts L ∧ ∀ H' (r : Bool), Same H H' → (r = true ↔ GoUp N os L) → Q (.bl r) H'
def spIsWay (K : PySem.W.Frag) : Sp := fun vs H Q _ => ∃ (rp jd t wp : Addr) (N : Net) (os : List Int) (u v : Int) (w : List Int), vs = [.ref rp, .ref jd, .ref t, .ref wp] ∧ NetOk N ∧ SqL K H rp ((rk os).map V.int) ∧ OrdOk N.n os ∧ LinksAt H jd N.ls ∧ SqT K H t [.int u, .int v] ∧ SqL K H wp (w.map V.int) ∧ (0 ≤ u ∧ u < N.n) ∧ u ≠ v ∧ w.length ≤ 1000 ∧
  ∀ H' (r : Bool), Same H H' → (r = true ↔ IsWayP N os u v w) → Q (.bl r) H'
theorem rk_at {n : Int} {os : List Int} (oo : OrdOk n os) {x : Int} (hx : 0 ≤ x ∧ x < n) : atI ((rk os).map V.int) x = some (.int (posOf x os : Nat)) := by
  have ol := oo.len
  obtain ⟨i, rfl⟩ := Int.eq_ofNat_of_zero_le hx.1
  refine atI_nat ?_
  unfold rk
  rw [List.getElem?_map, List.getElem?_map]
  unfold rng
  rw [List.getElem?_map, List.getElem?_range (by omega)]
  rfl
/-- the elements between the first and the last -/
def midW (w : List Int) : List Int := (w.drop 1).take (w.length - 2)
theorem mid_mem {w : List Int} {x : Int} : x ∈ midW w ↔ ∃ i, 0 < i ∧ i + 1 < w.length ∧ w[i]? = some x := by
  unfold midW
  rw [List.mem_iff_getElem?]
  constructor
  · rintro ⟨i, hi⟩
    have hl := (List.getElem?_eq_some_iff.mp hi).1
    rw [List.length_take, List.length_drop] at hl
    rw [List.getElem?_take_of_lt (by omega), List.getElem?_drop] at hi
    exact ⟨1 + i, by omega, by omega, hi⟩
  · rintro ⟨i, h0, h1, hi⟩
    refine ⟨i - 1, ?_⟩
    rw [List.getElem?_take_of_lt (by omega), List.getElem?_drop, show 1 + (i - 1) = i by omega]
    exact hi
theorem cut_mid {w : List Int} (h : 2 ≤ w.length) : cutV (w.map V.int) (some 1) (some (-1)) = (midW w).map V.int := by
  unfold cutV midW
  rw [show HT.sIx (w.map V.int).length 0 (some 1) = 1 by
    rw [show (some (1 : Int)) = some ((1 : Nat) : Int) from rfl, HT.sIx_nat, List.length_map]
    omega, show HT.sIx (w.map V.int).length (w.map V.int).length (some (-1)) = w.length - 1 by
    rw [List.length_map]
    show (if (-1 : Int) < 0 then ((-1 : Int) + (w.length : Int)).toNat else min (-1 : Int).toNat w.length) = _
    rw [if_pos (by omega)]
    omega, show w.length - 1 - 1 = w.length - 2 by omega, List.map_take, List.map_drop]
theorem at_lastI {w : List Int} {x : Int} (h : w[w.length - 1]? = some x) (hl : 1 ≤ w.length) : atI (w.map V.int) (-1) = some (.int x) := by
  have e : ixN (w.map V.int).length (-1) = some (w.length - 1) := by
    rw [List.length_map]
    unfold ixN
    rw [if_neg (by omega), if_pos (by omega)]
    congr 1
    omega
  unfold atI
  rw [e]
  show (w.map V.int)[w.length - 1]? = _
  rw [List.getElem?_map, h]
  rfl
section
variable {P : Program} {w : World} {K : PySem.W.Frag} {mg : Str → Option Value} {base : Heap} {CN : Addr}
theorem ok_has {f : Addr} {fd : FuncData} {k : Nat} (F : Fun K "_has" "_has" sHas f fd) : FnOk P w K mg base CX0 (k + 1) f fd ["listed", "a", "b"] (spHas K) := by
  refine F.ok scHas (fun vs H Q E h => ?_) (fun cdv A outer s H vs Q E hr h => ?_)
  · obtain ⟨d, L, a, b, rfl, _⟩ := h
    rfl
  · obtain ⟨d, L, a, b, rfl, hL, q⟩ := h
    have hu := hu_of hr
    refine ⟨_, pss_one (ps_ret (pe_or (pe_cmp (pc_din hu (pe_tup (pa_cons (pv 1) (pa_cons (pv 2) pa_nil))) (pv 0))) (pe_one (pe_cmp (pc_din hu (pe_tup (pa_cons (pv 2) (pa_cons (pv 1) pa_nil))) (pv 0)))))), ?_⟩
    obtain ⟨kvs, ed, _, _, hv⟩ := hL.ex
    refine g_retV (ve_orV (ve_dinT (vl_var rfl) (vl_var rfl) (fun _ _ => vl_var rfl) ed) fun H' s' => ve_dinT (vl_var rfl) (vl_var rfl) (fun _ _ => vl_var rfl) (s' _ _ ed)) fun H' s' => ?_
    rw [hv, hv]
    exact q H' s'
theorem ok_hasL {f : Addr} {fd : FuncData} {k : Nat} (F : Fun K "_has_links" "_has_links" sHasL f fd) (c_has : Kal P w K mg base k "_has" ["listed", "a", "b"] (spHas K)) (mall : mg "all" = none) : FnOk P w K mg base CX0 (k + 1) f fd ["net", "listed"] (spHasL K) := by
  refine F.ok scHasL (fun vs H Q E h => ?_) (fun cdv A outer s H vs Q E hr h => ?_)
  · obtain ⟨v, N, d, L, rfl, _⟩ := h
    rfl
  · obtain ⟨v, N, d, L, rfl, hN, l16, hL, q⟩ := h
    have hu := hu_of hr
    refine ⟨_, pss_one (ps_ret (pe_callB (cr_all rfl) (by rfl) mall (by decide +kernel) (pa_cons (pe_lc (own := [("link", 2)]) (g := gName 2) (tt := tYes) (te := (tCall (spHas K) [] E0 (tCons (tVar 1) (tCons (tOp (rIxT K) (tVar 2) (tC (.int 0))) (tCons (tOp (rIxT K) (tVar 2) (tC (.int 1))) tNil))))) (by rfl) scHasL.nd (pi_list (pe_ix ix_tup (pv 0) pe_int (fun _ _ => rfl))) (blkOk_by (own := [("link", 2)]) (N := ["net", "listed", "link"]) (sc := defScope sHasL) (by decide +kernel)) (fun _ _ _ _ _ => pg_name (i := 2) scHasL.nd rfl (Or.inl rfl)) (fun _ _ _ _ _ => by exact pts_nil) (fun _ _ _ _ _ => by exact (pe_k c_has hr (by first | decide | omega) (by rfl) (pa_cons (pv 1) (pa_cons (pe_ix ix_tup (pv 2) pe_int (fun _ _ => rfl)) (pa_cons (pe_ix ix_tup (pv 2) pe_int (fun _ _ => rfl)) pa_nil)))))) pa_nil))), ?_⟩
    obtain ⟨p, c, xs, rfl, hp, hc, hx⟩ := Dp.net_inv hN
    have lx := DpAll.len hx
    rw [List.length_map] at lx
    refine g_retV (ve_all (K := K) (bs := N.ls.map fun l : Lnk => decide ((l.a, l.b) ∈ L) || decide ((l.b, l.a) ∈ L)) (vn_lc (K := K) (xs := xs) (ys := (N.ls.map fun l : Lnk => decide ((l.a, l.b) ∈ L) || decide ((l.b, l.a) ∈ L)).map V.bl) (vx_list (vl_ixT (K := K) (vl_var rfl) vl_c hp (atI_nat (j := 1) rfl)) hc) (by rw [List.length_map, List.length_map]; exact lx) (by rw [List.length_map, List.length_map]; omega) (fun i x y H' s' hx' hy => ?_))) fun H' s' => q H' _ s' ?_
    · have hil := (List.getElem?_eq_some_iff.mp hx').1
      have hg : N.ls[i]? = some (N.ls[i]'(by omega)) := List.getElem?_eq_getElem (by omega)
      generalize N.ls[i]'(by omega) = l at hg
      obtain ⟨v', ev, dv⟩ := DpAll.get (i := i) (d := lnkD l) hx (by
        rw [List.getElem?_map, hg]
        rfl)
      cases hx'.symm.trans ev
      obtain ⟨t, rfl, ht⟩ := Dp.lnk_inv dv
      rw [List.getElem?_map, List.getElem?_map, hg] at hy
      cases hy
      have ht' := seqT s' ht
      intro Q k
      exact (va_cons (vl_var rfl) (va_cons (vl_ixT (K := K) (vl_var rfl) vl_c ht' (atI_nat (j := 0) rfl)) (va_cons (vl_ixT (K := K) (vl_var rfl) vl_c ht' (atI_nat (j := 1) rfl)) va_nil))) _ ⟨d, L, l.a, l.b, rfl, hL.to s', fun H2 s2 => k H2 s2⟩
    · rw [List.all_map, List.all_eq_true]
      unfold HasL
      constructor
      · intro h l hl
        have := h l hl
        have : (decide ((l.a, l.b) ∈ L) || decide ((l.b, l.a) ∈ L)) = true := this
        rw [Bool.or_eq_true, decide_eq_true_eq, decide_eq_true_eq] at this
        exact this
      · intro h l hl
        have := h l hl
        show (decide ((l.a, l.b) ∈ L) || decide ((l.b, l.a) ∈ L)) = true
        rw [Bool.or_eq_true, decide_eq_true_eq, decide_eq_true_eq]
        exact this
theorem ok_goUp {f : Addr} {fd : FuncData} {k : Nat} (F : Fun K "_all_go_up" "_all_go_up" sGoUp f fd) (ml : mg "len" = none) : FnOk P w K mg base CX0 (k + 1) f fd ["rank", "found"] (spGoUp K) := by
  refine F.ok scGoUp (fun vs H Q E h => ?_) (fun cdv A outer s H vs Q E hr h => ?_)
  · obtain ⟨rp, fp, N, os, ts, L, rfl, _⟩ := h
    rfl
  · obtain ⟨rp, fp, N, os, ts, L, rfl, hR, oo, n0, n40, ef, hT, q⟩ := h
    have ol := oo.len
    refine ⟨_, pss_cons (ps_set (i := 2) scGoUp.nd rfl (.inl rfl) (pe_callB call_len_seq (by rfl) ml PySem.boot_len (pa_cons (pv 0) pa_nil)))
      (pss_cons (ps_for PassesOwn.never rfl (pi_list (pv 1)) (pg_tup rfl (pgs_cons (pg_name (i := 3) scGoUp.nd rfl (.inl rfl)) (pgs_cons (pg_name (i := 4) scGoUp.nd rfl (.inl rfl)) pgs_nil)))
      (pss_one (ps_if (PW.pt (pw_or (pt_not (pt_chain op_le op_lt pe_int (pv 3) (pv 2))) (pw_or (pt_not (pt_chain op_le op_lt pe_int (pv 4) (pv 2))) (pw_or1 (pt_cmpR op_ge (pe_ix ix_list (pv 0) (pv 3) (fun _ _ => rfl)) (pe_ix ix_list (pv 0) (pv 4) (fun _ _ => rfl)) (nomark _))))))
        (pss_one (ps_ret pe_bl))
        pss_nil)))
      (pss_one (ps_ret pe_bl))), ?_⟩
    have rl : ((rk os).map V.int).length = os.length := by
      rw [List.length_map]
      unfold rk
      rw [List.length_map, len_rng]
      omega
    refine q_asg (v := .int N.n) ((vl_lenL (K := K) (vl_var rfl) hR).is (by rw [rl]; congr 1; omega)) ?_
    refine q_forP7 (K := K) (a := fp) (ts := ts) (L := L) (vl_var rfl)
      (fun i σ H3 => ∃ y3 y4, σ = [some (.ref rp), some (.ref fp), some (.int N.n), y3, y4] ∧ Same H H3 ∧ GoUp N os (L.take i))
      ⟨_, _, rfl, Same.refl _, fun u v h => by
        rw [List.take_zero] at h
        cases h⟩ (fun i σ H3 hP => ?_) (fun i u v σ H3 hi hP => ?_) (fun σ H3 hP => ?_)
    · obtain ⟨_, _, _, s3, _⟩ := hP
      exact ⟨.of (s3 _ _ ef), hT.to s3⟩
    · obtain ⟨y3, y4, rfl, s3, hG⟩ := hP
      have cu : Vl _ _ H3 (.bl (decide (0 ≤ u) && decide (u < N.n))) := vl_chainI (σ := [some (.ref rp), some (.ref fp), some (.int N.n), some (.int u), some (.int v)]) (g := fun i j => decide (i ≤ j)) (g' := fun i j => decide (i < j)) vl_c (vl_var (i := 3) rfl) (vl_var (i := 2) rfl)
      have cv : Vl _ _ H3 (.bl (decide (0 ≤ v) && decide (v < N.n))) := vl_chainI (σ := [some (.ref rp), some (.ref fp), some (.int N.n), some (.int u), some (.int v)]) (g := fun i j => decide (i ≤ j)) (g' := fun i j => decide (i < j)) vl_c (vl_var (i := 4) rfl) (vl_var (i := 2) rfl)
      refine g_when (b := !(decide (0 ≤ u) && decide (u < N.n)) || (!(decide (0 ≤ v) && decide (v < N.n)) || decide ((posOf v os : Int) ≤ (posOf u os : Int)))) (an_or (an_not (an_test cu)) fun h1 => an_or (an_not (an_test cv)) fun h2 => ?_) (fun hb => ?_) (fun hb => ?_)
      · rw [Bool.not_eq_false', Bool.and_eq_true, decide_eq_true_eq, decide_eq_true_eq] at h1 h2
        exact an_test (vl_I0 (g := fun i j => .bl (decide (j ≤ i))) (vl_ixL (K := K) (vl_var rfl) (vl_var rfl) (s3.seq hR) (rk_at oo h1)) (vl_ixL (K := K) (vl_var rfl) (vl_var rfl) (s3.seq hR) (rk_at oo h2)))
      · refine g_ret vl_c (q H3 false s3 ⟨fun z => (nomatch z), fun h => ?_⟩)
        have := h u v (List.mem_of_getElem? hi)
        rw [decide_eq_true this.1.1, decide_eq_true this.1.2, decide_eq_true this.2.1.1, decide_eq_true this.2.1.2] at hb
        have : decide ((posOf v os : Int) ≤ (posOf u os : Int)) = true := hb
        rw [decide_eq_true_eq] at this
        omega
      · refine ⟨_, _, rfl, s3, fun x y h => ?_⟩
        rw [take_snoc hi] at h
        rcases List.mem_append.mp h with h | h
        · exact hG x y h
        · cases List.mem_singleton.mp h
          rw [Bool.or_eq_false_iff, Bool.or_eq_false_iff, Bool.not_eq_false', Bool.not_eq_false', Bool.and_eq_true, Bool.and_eq_true, decide_eq_true_eq, decide_eq_true_eq, decide_eq_true_eq, decide_eq_true_eq, decide_eq_false_iff_not] at hb
          exact ⟨hb.1, hb.2.1, by omega⟩
    · obtain ⟨y3, y4, rfl, s3, hG⟩ := hP
      rw [List.take_length] at hG
      exact g_ret vl_c (q H3 true s3 ⟨fun _ => hG, fun _ => rfl⟩)
theorem ok_isWay {f : Addr} {fd : FuncData} {k : Nat} (F : Fun K "_is_way" "_is_way" sIsWay f fd) (mz : mg "zip" = none) (mall : mg "all" = none) : FnOk P w K mg base CX0 (k + 1) f fd ["rank", "joined", "pair", "way"] (spIsWay K) := by
  refine F.ok scIsWay (fun vs H Q E h => ?_) (fun cdv A outer s H vs Q E hr h => ?_)
  · obtain ⟨rp, jd, t, wp, N, os, u, v, w, rfl, _⟩ := h
    rfl
  · obtain ⟨rp, jd, t, wp, N, os, u, v, w, rfl, ok, hR, oo, hJ, hT, hS, hur, huv, wl, q⟩ := h
    have hu := hu_of hr
    refine ⟨_, pss_cons (ps_asg (pv 2) (pg_tup rfl (pgs_cons (pg_name (i := 4) scIsWay.nd rfl (.inr rfl)) (pgs_cons (pg_name (i := 5) scIsWay.nd rfl (.inl rfl)) pgs_nil))))
      (pss_cons (ps_if (PW.pt (pw_or (pt_not (pt_truth (pv 3) (by intro _; rfl))) (pw_or (pt_cmpR op_ne (pe_ix ix_list (pv 3) pe_int (fun _ _ => rfl)) (pv 4) (nomark _)) (pw_or1 (pt_cmpR op_ne (pe_ix ix_list (pv 3) (pe_un un_neg pe_int) (fun _ _ => rfl)) (pv 5) (nomark _))))))
      (pss_one (ps_ret pe_bl))
      pss_nil)
      (pss_cons (ps_for PassesOwn.never rfl (pi_zip (by rfl) mz (pa_cons (pv 3) (pa_cons (pe_slice sl_list (pv 3) (po_some pe_int) po_none) pa_nil))) (pg_tup rfl (pgs_cons (pg_name (i := 6) scIsWay.nd rfl (.inl rfl)) (pgs_cons (pg_name (i := 7) scIsWay.nd rfl (.inl rfl)) pgs_nil)))
      (pss_one (ps_if (pt_cmp (pc_dnotin hu (pe_tup (pa_cons (pv 6) (pa_cons (pv 7) pa_nil))) (pv 1)))
        (pss_one (ps_ret pe_bl))
        pss_nil)))
      (pss_one (ps_ret (pe_callB (cr_all rfl) (by rfl) mall (by decide +kernel) (pa_cons (pe_lc (own := [("place", 8)]) (g := gName 8) (tt := tYes) (te := (tOp (rI0 fun i j => .bl (decide (i < j))) (tOp (rIxL K) (tVar 0) (tVar 8)) (tOp (rIxL K) (tVar 0) (tVar 4)))) (by rfl) scIsWay.nd (pi_list (pe_slice sl_list (pv 3) (po_some pe_int) (po_some (pe_un un_neg pe_int)))) (blkOk_by (own := [("place", 8)]) (N := ["rank", "joined", "pair", "way", "u", "v", "a", "b", "place"]) (sc := defScope sIsWay) (by decide +kernel)) (fun _ _ _ _ _ => pg_name (i := 8) scIsWay.nd rfl (Or.inl rfl)) (fun _ _ _ _ _ => by exact pts_nil) (fun _ _ _ _ _ => by exact (pe_cmpR op_lt (pe_ix ix_list (pv 0) (pv 8) (fun _ _ => rfl)) (pe_ix ix_list (pv 0) (pv 4) (fun _ _ => rfl)) (nomark _)))) pa_nil)))))), ?_⟩
    refine q_asgT2 (K := K) (vl_var rfl) hT ?_
    rcases Nat.eq_zero_or_pos w.length with l0 | l1
    · have hw := List.length_eq_zero_iff.mp l0
      subst hw
      refine q_when (b := true) (an_or (k := true) (m := true) (an_not (b := false) (fun Q q => ⟨.ref wp, rfl, _, .inl ⟨_, hS, rfl⟩, q⟩)) fun h => by cases h) (fun _ => ?_) (fun h => by cases h)
      exact g_ret vl_c (q H false (Same.refl _) ⟨fun z => (nomatch z), fun h => by
        have := h.len
        simp at this⟩)
    · have l1 : 1 ≤ w.length := l1
      have hg0 : w[0]? = some (w[0]'(by omega)) := List.getElem?_eq_getElem (by omega)
      generalize w[0]'(by omega) = w0 at hg0
      have hgl : w[w.length - 1]? = some (w[w.length - 1]'(by omega)) := List.getElem?_eq_getElem (by omega)
      generalize w[w.length - 1]'(by omega) = wl0 at hgl
      refine q_when (b := false || (!decide (V.int w0 = V.int u) || !decide (V.int wl0 = V.int v))) (an_or (an_not (b := true) (fun Q q => ⟨.ref wp, rfl, _, .inl ⟨_, hS, by
        cases w with
        | nil => simp at l1
        | cons => rfl⟩, q⟩)) fun _ => an_or (an_test (vl_ne (vl_ixL (K := K) (vl_var rfl) vl_c hS (atI_nat (j := 0) (by rw [List.getElem?_map, hg0]; rfl))) (vl_var rfl) rfl)) fun _ => an_test (vl_ne (vl_ixL (K := K) (vl_var rfl) (vl_neg (p := 1) vl_c) hS (at_lastI hgl l1)) (vl_var rfl) rfl)) (fun hb => ?_) (fun hb => ?_)
      · refine g_ret vl_c (q H false (Same.refl _) ⟨fun z => (nomatch z), fun h => ?_⟩)
        have e1 := Option.some.inj (hg0.symm.trans h.hd)
        have e2 := Option.some.inj (hgl.symm.trans h.end_)
        rw [e1, e2, decide_eq_true rfl, decide_eq_true rfl] at hb
        cases hb
      · rw [Bool.false_or, Bool.or_eq_false_iff, Bool.not_eq_false', Bool.not_eq_false', dI, dI, decide_eq_true_eq, decide_eq_true_eq] at hb
        obtain ⟨rfl, rfl⟩ := hb
        have l2 : 2 ≤ w.length := by
          rcases Nat.lt_or_ge w.length 2 with z | z
          · have : w.length - 1 = 0 := by omega
            rw [this] at hgl
            exact absurd (Option.some.inj (hg0.symm.trans hgl)) huv
          · exact z
        obtain ⟨kj, ej, _, hkj⟩ := hJ.ex
        -- zip
        refine ⟨.ref wp, rfl, .ref wp, rfl, 1, rfl, wp, _, rfl, hS, fun S nS => ?_⟩
        have sS : Same H (upd H S (.lst (cutV (w.map V.int) (some 1) none))) := same_upd nS
        have eS : upd H S (.lst (cutV (w.map V.int) (some 1) none)) S = some (.lst ((w.drop 1).map V.int)) := by
          rw [upd_same, cut_1 w l1]
        generalize upd H S (.lst (cutV (w.map V.int) (some 1) none)) = H2 at sS eS
        refine ⟨wp, S, w.map V.int, (w.drop 1).map V.int, rfl, sS.seq hS, .of eS, ?_⟩
        refine for_zip5 (xs := w.map V.int) (ys := (w.drop 1).map V.int)
          (fun i σ H4 => ∃ y6 y7, σ = [some (.ref rp), some (.ref jd), some (.ref t), some (.ref wp), some (.int w0), some (.int wl0), y6, y7, none] ∧ Same H2 H4 ∧ ∀ j, j < i → ∀ a b, w[j]? = some a → w[j + 1]? = some b → adj0 N.ls a b = true)
          ⟨none, none, rfl, Same.refl _, fun j hj => by omega⟩ (fun i σ H4 hP => ?_) (fun i x y T σ H4 hx1 hy1 hP nT => ?_) (fun σ H4 hP => ?_)
        · obtain ⟨_, _, _, s4, _⟩ := hP
          exact ⟨(sS.trans s4).seq hS, .of (s4 _ _ eS)⟩
        · obtain ⟨y6, y7, rfl, s4, hA⟩ := hP
          rw [List.getElem?_map] at hx1 hy1
          obtain ⟨a, ha, rfl⟩ := Option.map_eq_some_iff.mp hx1
          obtain ⟨b, hb, rfl⟩ := Option.map_eq_some_iff.mp hy1
          rw [List.getElem?_drop, Nat.add_comm] at hb
          have sT : Same H4 (upd H4 T (.tup [.int a, .int b])) := same_upd nT
          have s24 := sS.trans (s4.trans sT)
          refine ⟨T, _, rfl, .of upd_same, rfl, _, _, rfl, _, _, rfl, rfl, ?_⟩
          refine g_whenx (ax_dnotT (vl_var rfl) (vl_var rfl) (fun _ _ => vl_var rfl) (s24 _ _ ej)) (fun hb2 H5 s5 => ?_) (fun hb2 H5 s5 => ?_)
          · refine g_ret vl_c (q H5 false (s24.trans s5) ⟨fun z => (nomatch z), fun h => ?_⟩)
            have := h.adj i a b ha hb
            rw [← lkv_adj, ← hkj] at this
            rw [show valV kj (K2 (a, b)) = valV kj [Sum.inl a, Sum.inl b] from rfl, this] at hb2
            cases hb2
          · refine ⟨_, _, rfl, s4.trans (sT.trans s5), fun j hj a' b' ha' hb' => ?_⟩
            by_cases c : j < i
            · exact hA j c a' b' ha' hb'
            · have : j = i := by omega
              subst this
              cases ha.symm.trans ha'
              cases hb.symm.trans hb'
              rw [Bool.not_eq_false'] at hb2
              rw [← lkv_adj, ← hkj]
              exact hb2
        · obtain ⟨y6, y7, rfl, s4, hA⟩ := hP
          have em : min (w.map V.int).length ((w.drop 1).map V.int).length = w.length - 1 := by
            rw [List.length_map, List.length_map, List.length_drop]
            omega
          rw [em] at hA
          have hA' : ∀ (i : Nat) (a b : Int), w[i]? = some a → w[i + 1]? = some b → adj0 N.ls a b = true := fun i a b ha hb => by
            have := (List.getElem?_eq_some_iff.mp hb).1
            exact hA i (by omega) a b ha hb
          have sH := sS.trans s4
          have hmid : ∀ x ∈ midW w, 0 ≤ x ∧ x < N.n := fun x hx => by
            obtain ⟨i, h0, h1, hi⟩ := mid_mem.mp hx
            have hg : w[i - 1]? = some (w[i - 1]'(by omega)) := List.getElem?_eq_getElem (by omega)
            have := hA' (i - 1) _ x hg (by rw [show i - 1 + 1 = i by omega]; exact hi)
            exact (adj0_in ok this).2.1
          have ml0 : (midW w).length ≤ 1000 := by
            unfold midW
            rw [List.length_take, List.length_drop]
            omega
          refine nx_of ?_
          refine g_retV (ve_all (K := K) (bs := (midW w).map fun x => decide ((posOf x os : Int) < (posOf w0 os : Int))) (vn_lc (K := K) (xs := (midW w).map V.int) (ys := ((midW w).map fun x => decide ((posOf x os : Int) < (posOf w0 os : Int))).map V.bl) ?_ (by rw [List.length_map, List.length_map, List.length_map]) (by rw [List.length_map, List.length_map]; omega) (fun i x y H' s' hx hy => ?_))) fun H' s' => ?_
          · intro Q k
            refine ⟨.ref wp, rfl, 1, rfl, 1, rfl, -1, rfl, wp, w.map V.int, rfl, sH.seq hS, fun p np => ?_⟩
            rw [cut_mid l2]
            exact k p _ (same_upd np) (.of upd_same)
          · rw [List.getElem?_map] at hx
            obtain ⟨z, hz, rfl⟩ := Option.map_eq_some_iff.mp hx
            rw [List.getElem?_map, List.getElem?_map, hz] at hy
            cases hy
            have hR' := (sH.trans s').seq hR
            exact ve_of (vl_I0 (g := fun i j => .bl (decide (i < j))) (vl_ixL (K := K) (vl_var rfl) (vl_var rfl) hR' (rk_at oo (hmid z (List.mem_of_getElem? hz)))) (vl_ixL (K := K) (vl_var rfl) (vl_var rfl) hR' (rk_at oo hur)))
          · refine q H' _ (sH.trans s') ?_
            rw [List.all_map, List.all_eq_true]
            constructor
            · intro h
              refine ⟨l2, hg0, hgl, hA', fun i x h0 h1 hi => ?_⟩
              have := h x (mid_mem.mpr ⟨i, h0, h1, hi⟩)
              have : (posOf x os : Int) < (posOf w0 os : Int) := of_decide_eq_true this
              omega
            · intro h x hx
              obtain ⟨i, h0, h1, hi⟩ := mid_mem.mp hx
              have := h.low i x h0 h1 hi
              show decide ((posOf x os : Int) < (posOf w0 os : Int)) = true
              rw [decide_eq_true_eq]
              omega
end
/-! ### the joins; the check -/
def valsO (u : Int) (L : List (Int × Int)) : List Int := (L.filter fun p => decide (p.1 = u)).map (·.2)
theorem mem_valsO {u v : Int} {L : List (Int × Int)} : v ∈ valsO u L ↔ (u, v) ∈ L := by
  unfold valsO
  rw [List.mem_map]
  constructor
  · rintro ⟨⟨a, b⟩, h, rfl⟩
    obtain ⟨h1, h2⟩ := List.mem_filter.mp h
    rw [decide_eq_true_eq] at h2
    rw [← h2]
    exact h1
  · intro h
    exact ⟨(u, v), List.mem_filter.mpr ⟨h, decide_eq_true rfl⟩, rfl⟩
theorem valsO_nodup {u : Int} {L : List (Int × Int)} (h : L.Nodup) : (valsO u L).Nodup := by
  unfold valsO
  refine List.pairwise_map.mpr ((h.filter _).imp_of_mem ?_)
  rintro ⟨a, b⟩ ⟨c, d⟩ h1 h2 hne e
  have e1 := of_decide_eq_true (List.mem_filter.mp h1).2
  have e2 := of_decide_eq_true (List.mem_filter.mp h2).2
  have e1 : a = u := e1
  have e2 : c = u := e2
  have e : b = d := e
  exact hne (by rw [e1, e2, e])
theorem valsO_snoc {u : Int} {L : List (Int × Int)} {p : Int × Int} : valsO u (L ++ [p]) = valsO u L ++ if p.1 = u then [p.2] else [] := by
  unfold valsO
  rw [List.filter_append, List.map_append]
  congr 1
  by_cases c : p.1 = u
  · rw [if_pos c, List.filter_cons, if_pos (decide_eq_true c)]
    rfl
  · rw [if_neg c, List.filter_cons, if_neg (by rw [decide_eq_false c]; decide)]
    rfl
theorem valsO_len {u : Int} {L : List (Int × Int)} : (valsO u L).length ≤ L.length := by
  unfold valsO
  rw [List.length_map]
  exact List.length_filter_le _ _
theorem cmb_either {xs : List Int} {v w : Int} (hv : v ∈ xs) (hw : w ∈ xs) (h : v ≠ w) : (v, w) ∈ CpCmb.cmbs xs ∨ (w, v) ∈ CpCmb.cmbs xs := by
  induction xs with
  | nil => cases hv
  | cons x xs ih =>
    rw [CpCmb.cmbs]
    rcases List.mem_cons.mp hv with e | hv
    · rw [e] at h ⊢
      rcases List.mem_cons.mp hw with e2 | hw
      · exact absurd e2.symm h
      · exact .inl (List.mem_append.mpr (.inl (List.mem_map.mpr ⟨w, hw, rfl⟩)))
    · rcases List.mem_cons.mp hw with e | hw
      · rw [e]
        exact .inr (List.mem_append.mpr (.inl (List.mem_map.mpr ⟨v, hv, rfl⟩)))
      · exact (ih hv hw).imp (fun z => List.mem_append.mpr (.inr z)) fun z => List.mem_append.mpr (.inr z)
theorem cmb_ne {xs : List Int} (nd : xs.Nodup) {p : Int × Int} (h : p ∈ CpCmb.cmbs xs) : p.1 ≠ p.2 := by
  induction xs with
  | nil => cases h
  | cons x xs ih =>
    rw [CpCmb.cmbs] at h
    obtain ⟨n1, n2⟩ := List.nodup_cons.mp nd
    rcases List.mem_append.mp h with h | h
    · obtain ⟨y, hy, rfl⟩ := List.mem_map.mp h
      exact fun e => n1 (by have e : x = y := e; rw [e]; exact hy)
    · exact ih n2 h
/-- the lists of the higher places, by the lower one -/
structure AbvAt (H0 H : Hp) (o : Addr) (L : List (Int × Int)) : Prop where
  ex : ∃ kvs : List (L2.Key × V), H o = some (.dK kvs) ∧ (kvs.map (·.1)).Nodup ∧ kvs.length ≤ L.length ∧ (∀ k x, valV kvs k = some x → ∃ (u : Int) (a : Addr), k = .inl u ∧ x = .ref a ∧ a ≠ o ∧ H0 a = none ∧ H a = some (.lst ((valsO u L).map V.int))) ∧
    (∀ k k' a, valV kvs k = some (.ref a) → valV kvs k' = some (.ref a) → k = k') ∧ ∀ u, valV kvs (.inl u) = none ↔ valsO u L = []
/-- all of a place's list are joined -/
def OkAt (L : List (Int × Int)) (u : Int) : Prop := ∀ p ∈ CpCmb.cmbs (valsO u L), p ∈ L ∨ (p.2, p.1) ∈ L
theorem hasJ_of {L : List (Int × Int)} (h : ∀ u, OkAt L u) : HasJ L := fun u v w h1 h2 hne => by
  rcases cmb_either (mem_valsO.mpr h1) (mem_valsO.mpr h2) hne with z | z
  · exact h u _ z
  · exact (h u _ z).symm
theorem okAt_of {L : List (Int × Int)} (nd : L.Nodup) (h : HasJ L) (u : Int) : OkAt L u := fun p hp => by
  obtain ⟨h1, h2⟩ := CpCmb.mem_cmbs_lt _ _ hp
  exact h u p.1 p.2 (mem_valsO.mp h1) (mem_valsO.mp h2) (cmb_ne (valsO_nodup nd) hp)
abbrev sHasJ : Stmt := topS 13
theorem scHasJ : FnScope ["found", "listed", "above", "u", "v", "places", "w"] ["found", "listed"] (defScope sHasJ) := ⟨rfl, rfl, rfl, by decide +kernel, rfl, by decide +kernel, by decide +kernel⟩
def spHasJ (K : PySem.W.Frag) : Sp := fun vs H Q _ => ∃ (fp d : Addr) (ts : List V) (L : List (Int × Int)), vs = [.ref fp, .ref d] ∧ H fp = some (.lst ts) ∧ TupsAt H ts L ∧ ListedAt H d L ∧ L.Nodup ∧ L.length ≤ 4000 ∧ ∀ H' (r : Bool), Same H H' → (r = true ↔ HasJ L) → Q (.bl r) H'
section
variable {P : Program} {w : World} {K : PySem.W.Frag} {mg : Str → Option Value} {base : Heap} {CN : Addr}
theorem ok_hasJ {f : Addr} {fd : FuncData} {k : Nat} (F : Fun K "_has_joins" "_has_joins" sHasJ f fd) (c_has : Kal P w K mg base k "_has" ["listed", "a", "b"] (spHas K)) (mcmb : mg "combinations" = some (.type "itertools.combinations")) : FnOk P w K mg base CX0 (k + 1) f fd ["found", "listed"] (spHasJ K) := by
  refine F.ok scHasJ (fun vs H Q E h => ?_) (fun cdv A outer s H vs Q E hr h => ?_)
  · obtain ⟨fp, d, ts, L, rfl, _⟩ := h
    rfl
  · obtain ⟨fp, d, ts, L, rfl, ef, hT, hL, nd, hl, q⟩ := h
    have hu := hu_of hr
    refine ⟨_, pss_cons (ps_set (i := 2) scHasJ.nd rfl (.inl rfl) pe_dnewK)
      (pss_cons (ps_for PassesOwn.never rfl (pi_list (pv 0)) (pg_tup rfl (pgs_cons (pg_name (i := 3) scHasJ.nd rfl (.inl rfl)) (pgs_cons (pg_name (i := 4) scHasJ.nd rfl (.inl rfl)) pgs_nil)))
      (pss_one (ps_expr (pe_bm PySem.F.plainAttrs_list PySem.F.slot_list_append PySem.F.type_list_append mt_append (pe_dsetd (pv 2) (pv 3) (pe_lst pa_nil) ⟨by rfl, by rfl, by rfl, by rfl⟩) (pa_cons (pv 4) pa_nil)))))
      (pss_cons (ps_lock (ps_for PassesOwn.never rfl (pi_values (pv 2)) (pg_name (i := 5) scHasJ.nd rfl (.inl rfl))
      (pss_one (ps_for PassesOwn.never rfl (pi_cmb (by rfl) mcmb (pa_cons (pv 5) (pa_cons pe_int pa_nil))) (pg_tup rfl (pgs_cons (pg_name (i := 4) scHasJ.nd rfl (.inl rfl)) (pgs_cons (pg_name (i := 6) scHasJ.nd rfl (.inl rfl)) pgs_nil)))
        (pss_one (ps_if (pt_not (pt_val (pe_k c_has hr (by first | decide | omega) (by rfl) (pa_cons (pv 1) (pa_cons (pv 4) (pa_cons (pv 6) pa_nil))))))
          (pss_one (ps_ret pe_bl))
          pss_nil))))))
      (pss_one (ps_ret pe_bl)))), ?_⟩
    refine q_dnewK fun o no => ?_
    refine q_forP7 (K := K) (a := fp) (ts := ts) (L := L) (vl_var rfl)
      (fun i σ H3 => ∃ y3 y4, σ = [some (.ref fp), some (.ref d), some (.ref o), y3, y4, none, none] ∧ Same H H3 ∧ AbvAt H H3 o (L.take i))
      ⟨_, _, rfl, same_upd no, [], upd_same, List.nodup_nil, Nat.le_refl _, fun k x h => (nomatch h), fun k k' a h => (nomatch h), fun u => ⟨fun _ => rfl, fun _ => rfl⟩⟩ (fun i σ H3 hP => ?_) (fun i u v σ H3 hi hP => ?_) (fun σ H3 hP => ?_)
    · obtain ⟨_, _, _, s3, _⟩ := hP
      exact ⟨.of (s3 _ _ ef), hT.to s3⟩
    · obtain ⟨y3, y4, rfl, s3, kvs, eo, hnd, hk, hA, hinj, hv⟩ := hP
      have hil := (List.getElem?_eq_some_iff.mp hi).1
      rw [List.length_take] at hk
      have hst := take_snoc hi
      have l1 := valsO_len (u := u) (L := L.take i)
      rw [List.length_take] at l1
      refine ⟨.ref o, rfl, o, rfl, .inl ⟨kvs, .inl eo⟩, .int u, rfl, Nat.zero_le _, fun z nz => ?_⟩
      have sz : Same H3 (upd H3 z (.lst [])) := same_upd nz
      have oz : o ≠ z := ne_of_none eo nz
      have eo' := sz _ _ eo
      refine ⟨kvs, .inl u, eo', rfl, Nat.lt_of_le_of_lt (m := 10000) (by omega) (by decide), fun x hx => ?_, fun hn => ?_⟩
      · -- there
        obtain ⟨u', a, e1, rfl, ao, na, ea⟩ := hA _ _ hx
        cases e1
        have ea' := sz _ _ ea
        refine ⟨.inl ⟨rfl, _, .inl (.inl ea')⟩, .int v, rfl, a, _, .int v, rfl, rfl, ea', ?_, ?_⟩
        · rw [List.length_map]
          exact Nat.lt_of_le_of_lt (m := 10000) (by omega) (by decide)
        · refine ⟨_, _, rfl, same_upd' (s3.trans sz) na, kvs, (upd_ne ao.symm).trans eo', hnd, by rw [List.length_take]; omega, fun k2 x2 h2 => ?_, hinj, fun w => ?_⟩
          · obtain ⟨u2, a2, rfl, rfl, ao2, na2, ea2⟩ := hA _ _ h2
            refine ⟨u2, a2, rfl, rfl, ao2, na2, ?_⟩
            rw [hst, valsO_snoc]
            by_cases c : u = u2
            · subst c
              rw [hx] at h2
              injection h2 with h2
              injection h2 with h2
              subst h2
              rw [upd_same, if_pos rfl, List.map_append]
              rfl
            · rw [if_neg (show ¬ (u, v).1 = u2 from c), List.append_nil]
              have : a2 ≠ a := fun z => by
                rw [z] at h2
                exact c (Sum.inl.inj (hinj _ _ _ hx h2))
              rw [upd_ne this]
              exact sz _ _ ea2
          · rw [hst, valsO_snoc, hv]
            by_cases c : u = w
            · subst c
              rw [if_pos rfl]
              constructor
              · intro h
                rw [(hv u).mpr h] at hx
                cases hx
              · intro h
                simp at h
            · rw [if_neg (show ¬ (u, v).1 = w from c), List.append_nil]
      · -- new
        have hnz := (hv u).mp hn
        have nzH : H z = none := Same.free s3 nz
        have ez : upd (upd H3 z (.lst [])) o (.dK (putK kvs (.inl u) (.ref z))) z = some (.lst []) := (upd_ne oz.symm).trans upd_same
        refine ⟨.inl ⟨rfl, _, .inl (.inl ez)⟩, .int v, rfl, z, [], .int v, rfl, rfl, ez, Nat.lt_of_le_of_lt (m := 10000) (by decide) (by decide), ?_⟩
        have sA : Same H (upd (upd H3 z (.lst [])) o (.dK (putK kvs (.inl u) (.ref z)))) := same_upd' (s3.trans sz) no
        have zno : ∀ k x, valV kvs k = some x → x ≠ .ref z := fun k x hx e => by
          obtain ⟨u', a, _, e2, _, _, ea⟩ := hA _ _ hx
          rw [e] at e2
          injection e2 with e2
          rw [← e2, nz] at ea
          cases ea
        refine ⟨_, _, rfl, same_upd' sA nzH, putK kvs (.inl u) (.ref z), (upd_ne oz).trans upd_same, nd_putK _ hnd hn, ?_, fun k2 x2 h2 => ?_, fun k k' a h h' => ?_, fun w => ?_⟩
        · rw [L2.putK_new _ hn, List.length_append, List.length_take]
          show kvs.length + 1 ≤ _
          omega
        · rw [valV_put] at h2
          rw [hst]
          by_cases c : k2 = .inl u
          · rw [if_pos c] at h2
            cases h2
            subst c
            refine ⟨u, z, rfl, rfl, oz.symm, nzH, ?_⟩
            rw [upd_same, valsO_snoc, hnz, if_pos rfl]
            rfl
          · rw [if_neg c] at h2
            obtain ⟨u2, a2, rfl, rfl, ao2, na2, ea2⟩ := hA _ _ h2
            refine ⟨u2, a2, rfl, rfl, ao2, na2, ?_⟩
            have az : a2 ≠ z := fun e => zno _ _ h2 (by rw [e])
            rw [upd_ne az, upd_ne ao2, valsO_snoc, if_neg (show ¬ (u, v).1 = u2 from fun e => c (by rw [← e])), List.append_nil]
            exact sz _ _ ea2
        · rw [valV_put] at h h'
          by_cases c : k = .inl u
          · by_cases c' : k' = .inl u
            · rw [c, c']
            · rw [if_pos c] at h
              rw [if_neg c'] at h'
              cases h
              exact absurd rfl (zno _ _ h')
          · by_cases c' : k' = .inl u
            · rw [if_neg c] at h
              rw [if_pos c'] at h'
              cases h'
              exact absurd rfl (zno _ _ h)
            · rw [if_neg c] at h
              rw [if_neg c'] at h'
              exact hinj _ _ _ h h'
        · rw [valV_put, hst, valsO_snoc]
          by_cases c : w = u
          · subst c
            rw [if_pos rfl, if_pos rfl]
            constructor
            · intro h
              cases h
            · intro h
              simp at h
          · rw [if_neg (fun e => c (Sum.inl.inj e)), if_neg (show ¬ (u, v).1 = w from fun e => c e.symm), List.append_nil]
            exact hv w
    · obtain ⟨y3, y4, rfl, s3, kvs, eo, hnd, hk, hA, hinj, hv⟩ := hP
      rw [List.take_length] at hA hv
      -- above.values()
      refine ⟨o, .dK kvs, eo, True.intro, fun od => ⟨.ref o, rfl, o, od, kvs, rfl, upd_same, ?_⟩⟩
      have hf : ∀ {H' : Hp}, Same (but H3 o) (but H' o) → Same H (upd H' o (.dK kvs)) := fun {H'} s b x e => by
        have bo : b ≠ o := ne_of_none e no
        rw [upd_ne bo]
        exact but_same _ _ (s _ _ (by rw [but_ne bo]; exact s3 _ _ e))
      refine for_it walk_values
        (fun i σ H4 => ∃ y4 y5 y6, σ = [some (.ref fp), some (.ref d), some (.ref o), y3, y4, y5, y6] ∧ H4 o = some (.frz od (.dK kvs)) ∧ Same (but H3 o) (but H4 o) ∧ ∀ j, j < i → ∀ k x, kvs[j]? = some (k, x) → ∀ u, k = .inl u → OkAt L u)
        ⟨_, _, _, rfl, upd_same, by rw [but_upd]; exact Same.refl _, fun j hj => by omega⟩ (fun i σ H4 _ hP => ?_) (fun i x σ H4 H5 hi hP hY => ?_) (fun σ H4 hP => ?_)
      · obtain ⟨_, _, _, _, h, _⟩ := hP
        exact h
      · obtain ⟨y4, y5, y6, rfl, e4, s4, hO⟩ := hP
        obtain ⟨rfl, k0, hk0⟩ := hY
        have hval := val_nodup hnd _ (List.mem_of_getElem? hk0)
        obtain ⟨u, a, e1, e2, ao, na, ea⟩ := hA _ _ hval
        have e1 : k0 = .inl u := e1
        have e2 : x = .ref a := e2
        subst e1
        subst e2
        have ea4 : H5 a = some (.lst ((valsO u L).map V.int)) := but_same _ _ (s4 _ _ (by rw [but_ne ao]; exact ea))
        refine ⟨.ref a, rfl, a, _, rfl, .of ea4, ?_⟩
        refine for_cm6 (ps := CpCmb.cmbs ((valsO u L).map V.int))
          (fun j σ H6 => ∃ y4 y6, σ = [some (.ref fp), some (.ref d), some (.ref o), y3, y4, some (.ref a), y6] ∧ H6 o = some (.frz od (.dK kvs)) ∧ Same (but H3 o) (but H6 o) ∧ ∀ p ∈ (CpCmb.cmbs (valsO u L)).take j, p ∈ L ∨ (p.2, p.1) ∈ L)
          ⟨_, _, rfl, e4, s4, fun p hp => by rw [List.take_zero] at hp; cases hp⟩ (fun j x y T σ H6 hj hP nT => ?_) (fun σ H6 hP => ?_)
        · obtain ⟨y4, y6, rfl, e6, s6, hOk⟩ := hP
          rw [CpCmb.cmbs_map, List.getElem?_map] at hj
          obtain ⟨⟨v, w⟩, hvw, e⟩ := Option.map_eq_some_iff.mp hj
          cases e
          have sT : Same H6 (upd H6 T (.tup [.int v, .int w])) := same_upd nT
          refine ⟨T, _, rfl, .of upd_same, rfl, _, _, rfl, _, _, rfl, rfl, ?_⟩
          have hLt : ListedAt (upd H6 T (.tup [.int v, .int w])) d L := by
            obtain ⟨kl, ed, h1, h2, h3⟩ := hL.ex
            refine ⟨kl, sT _ _ (but_same _ _ (s6 _ _ ?_)), h1, h2, h3⟩
            have bo : d ≠ o := ne_of_none ed no
            rw [but_ne bo]
            exact s3 _ _ ed
          refine g_whenx (ax_not (b := decide ((v, w) ∈ L) || decide ((w, v) ∈ L)) (fun Q k => ⟨.ref d, rfl, .int v, rfl, .int w, rfl, d, L, v, w, rfl, hLt, fun H' s' => ⟨_, rfl, k H' s'⟩⟩)) (fun hb H7 s7 => ?_) (fun hb H7 s7 => ?_)
          · rw [Bool.not_eq_true', Bool.or_eq_false_iff, decide_eq_false_iff_not, decide_eq_false_iff_not] at hb
            have s67 := sT.trans s7
            refine g_ret vl_c ⟨s67 _ _ e6, q _ false (hf (s6.trans (but_mono s67))) ⟨fun z => (nomatch z), fun h => ?_⟩⟩
            rcases okAt_of nd h u _ (List.mem_of_getElem? hvw) with z | z
            · exact absurd z hb.1
            · exact absurd z hb.2
          · rw [Bool.not_eq_false', Bool.or_eq_true, decide_eq_true_eq, decide_eq_true_eq] at hb
            have s67 := sT.trans s7
            refine ⟨_, _, rfl, s67 _ _ e6, s6.trans (but_mono s67), fun p hp => ?_⟩
            rw [take_snoc hvw] at hp
            rcases List.mem_append.mp hp with hp | hp
            · exact hOk p hp
            · rw [List.mem_singleton.mp hp]
              exact hb
        · obtain ⟨y4, y6, rfl, e6, s6, hOk⟩ := hP
          rw [CpCmb.cmbs_map, List.length_map, List.take_length] at hOk
          refine ⟨_, _, _, rfl, e6, s6, fun j hj k x hx w hw => ?_⟩
          by_cases c : j < i
          · exact hO j c k x hx w hw
          · have : j = i := by omega
            subst this
            rw [hk0] at hx
            cases hx
            cases hw
            exact hOk
      · obtain ⟨y4, y5, y6, rfl, e4, s4, hO⟩ := hP
        refine ⟨e4, ?_⟩
        refine nx_of ?_
        refine g_ret vl_c (q _ true (hf s4) ⟨fun _ => hasJ_of fun u => ?_, fun _ => rfl⟩)
        cases e : valV kvs (.inl u) with
        | none =>
          intro p hp
          rw [(hv u).mp e] at hp
          cases hp
        | some x =>
          have := valV_in e
          obtain ⟨⟨k, x'⟩, hm, e3⟩ := List.mem_map.mp this
          have e3 : k = .inl u := e3
          obtain ⟨j, hj⟩ := List.mem_iff_getElem?.mp hm
          exact hO j (List.getElem?_eq_some_iff.mp hj).1 k x' hj u e3
end
/-! ### check_pairs -/
abbrev sChkP : Stmt := topS 9
theorem scChkP : FnScope ["net", "order", "found", "ways", "rank", "joined", "listed", "pair", "way"] ["net", "order", "found", "ways"] (defScope sChkP) := ⟨rfl, rfl, rfl, by decide +kernel, rfl, by decide +kernel, by decide +kernel⟩
def spChkP (K : PySem.W.Frag) : Sp := fun vs H Q _ => ∃ (v : V) (N : Net) (po fp wp : Addr) (os : List Int) (ts ws : List V) (L : List (Int × Int)) (W : List (List Int)), vs = [v, .ref po, .ref fp, .ref wp] ∧ Dp K H v (netD N) ∧ NetOk N ∧ SqL K H po (os.map V.int) ∧ OrdOk N.n os ∧
  H fp = some (.lst ts) ∧ TupsAt H ts L ∧ H wp = some (.lst ws) ∧ ListsAt H ws W ∧ L.length ≤ 3000 ∧ W.length ≤ 3000 ∧ (∀ w ∈ W, w.length ≤ 1000) ∧ ∀ H' (r : Bool), Same H H' → (r = true ↔ DueP N os L W) → Q (.bl r) H'
section
variable {P : Program} {w : World} {K : PySem.W.Frag} {mg : Str → Option Value} {base : Heap} {CN : Addr}
theorem ok_chkP {f : Addr} {fd : FuncData} {k k1 k2 k3 k4 k5 k6 : Nat} (l1 : k1 ≤ k) (l2 : k2 ≤ k) (l3 : k3 ≤ k) (l4 : k4 ≤ k) (l5 : k5 ≤ k) (l6 : k6 ≤ k) (F : Fun K "check_pairs" "check_pairs" sChkP f fd) (c_ranks : KalX P w K mg base k1 "ranks" ["order"] (spRk K CN)) (c_link_ways : Kal P w K mg base k2 "link_ways" ["net"] (spLinkWays K))
    (c_all_go_up : Kal P w K mg base k3 "_all_go_up" ["rank", "found"] (spGoUp K)) (c_has_links : Kal P w K mg base k4 "_has_links" ["net", "listed"] (spHasL K)) (c_has_joins : Kal P w K mg base k5 "_has_joins" ["found", "listed"] (spHasJ K)) (c_is_way : Kal P w K mg base k6 "_is_way" ["rank", "joined", "pair", "way"] (spIsWay K))
    (ml : mg "len" = none) (mz : mg "zip" = none) (mall : mg "all" = none) : FnOk P w K mg base CX0 (k + 1) f fd ["net", "order", "found", "ways"] (spChkP K) := by
  refine F.ok scChkP (fun vs H Q E h => ?_) (fun cdv A outer s H vs Q E hr h => ?_)
  · obtain ⟨v, N, po, fp, wp, os, ts, ws, L, W, rfl, _⟩ := h
    rfl
  · obtain ⟨v, N, po, fp, wp, os, ts, ws, L, W, rfl, hN, ok, hS, oo, ef, hT, ew, hW, Ll, Wl, wl, q⟩ := h
    have hu := hu_of hr
    refine ⟨_, pss_cons (ps_set (i := 4) scChkP.nd rfl (.inr rfl) (pe_kx (E := fun _ _ _ => False) c_ranks hr (by first | decide | omega) (by rfl) takes0 (pa_cons (pv 1) pa_nil)))
      (pss_cons (ps_set (i := 5) scChkP.nd rfl (.inr rfl) (pe_k c_link_ways hr (by first | decide | omega) (by rfl) (pa_cons (pv 0) pa_nil)))
      (pss_cons (ps_setDcT (i := 6) (own := [("pair", 7)]) (g := gName 7) (tt := tYes) (tk := (tVar 7)) (tv := (tC (.bl true))) hu rfl scChkP.nd rfl rfl (swapsD rfl rfl rfl (by decide +kernel)) (pi_list (pv 2)) (blkOk_by (own := [("pair", 7)]) (N := ["net", "order", "found", "ways", "rank", "joined", "listed", "pair", "way"]) (sc := defScope sChkP) (by decide +kernel)) (fun _ _ _ _ _ => pg_name (i := 7) scChkP.nd rfl (Or.inl rfl)) (fun _ _ _ _ _ => by exact pts_nil) (fun _ _ _ _ _ => by exact (pv 7)) (fun _ _ _ _ _ => by exact pe_bl))
      (pss_cons (ps_if (PW.pt (pw_or (pt_cmpR op_ne (pe_callB call_len_dT (by rfl) ml PySem.boot_len (pa_cons (pv 6) pa_nil)) (pe_callB call_len_seq (by rfl) ml PySem.boot_len (pa_cons (pv 2) pa_nil)) (nomark _)) (pw_or1 (pt_cmpR op_ne (pe_callB call_len_seq (by rfl) ml PySem.boot_len (pa_cons (pv 3) pa_nil)) (pe_callB call_len_seq (by rfl) ml PySem.boot_len (pa_cons (pv 2) pa_nil)) (nomark _)))))
      (pss_one (ps_ret pe_bl))
      pss_nil)
      (pss_one (ps_ret (pe_and (pe_k c_all_go_up hr (by first | decide | omega) (by rfl) (pa_cons (pv 4) (pa_cons (pv 2) pa_nil))) (pe_and (pe_k c_has_links hr (by first | decide | omega) (by rfl) (pa_cons (pv 0) (pa_cons (pv 6) pa_nil))) (pe_and (pe_k c_has_joins hr (by first | decide | omega) (by rfl) (pa_cons (pv 2) (pa_cons (pv 6) pa_nil))) (pe_one (pe_callB (cr_all rfl) (by rfl) mall (by decide +kernel) (pa_cons (pe_lc (own := [("pair", 7), ("way", 8)]) (g := gTup K 2 (gCons (gName 7) (gCons (gName 8) (gNil)))) (tt := tYes) (te := (tCall (spIsWay K) [] E0 (tCons (tVar 4) (tCons (tVar 5) (tCons (tVar 7) (tCons (tVar 8) tNil)))))) (by rfl) scChkP.nd (pi_zip (by rfl) mz (pa_cons (pv 2) (pa_cons (pv 3) pa_nil))) (blkOk_by (own := [("pair", 7), ("way", 8)]) (N := ["net", "order", "found", "ways", "rank", "joined", "listed", "pair", "way"]) (sc := defScope sChkP) (by decide +kernel)) (fun _ _ _ _ _ => pg_tup rfl (pgs_cons (pg_name (i := 7) scChkP.nd rfl (Or.inl rfl)) (pgs_cons (pg_name (i := 8) scChkP.nd rfl (Or.inl rfl)) pgs_nil))) (fun _ _ _ _ _ => by exact pts_nil) (fun _ _ _ _ _ => by exact (pe_k c_is_way hr (by first | decide | omega) (by rfl) (pa_cons (pv 4) (pa_cons (pv 5) (pa_cons (pv 7) (pa_cons (pv 8) pa_nil))))))) pa_nil))))))))))), ?_⟩
    have n40 := ok.n40
    have n1 := ok.n1
    have l16 := ok.len
    have ol := oo.len
    have hbad : badAt os = none := bad_iff.mpr (by
      rw [show (os.length : Int) = N.n by omega]
      exact oo)
    refine q_asgE ⟨.ref po, rfl, po, os, rfl, hS, by omega, ?_⟩
    rw [hbad]
    intro H1 rp s1 nr er
    refine q_asgE ⟨v, rfl, v, N, rfl, Dp.to hN s1, by omega, fun H2 jd s2 nj hJ => ?_⟩
    have s02 := s1.trans s2
    refine q_asgE (dcT_true (K := K) (L := L) (by show 7 < 9; decide) (fun Q q => ⟨.ref fp, rfl, q fp H2 ts (Same.refl _) (.of (s02 _ _ ef)) (hT.to s02)⟩) (by omega) fun D H3 s3 nD hD => ?_)
    have s03 := s02.trans s3
    obtain ⟨kvs, eD, hk1, hk2, hk3⟩ := id hD.ex
    have ef3 := s03 _ _ ef
    have ew3 := s03 _ _ ew
    refine q_when (b := !decide (V.int (kvs.length : Nat) = V.int (ts.length : Nat)) || !decide (V.int (ws.length : Nat) = V.int (ts.length : Nat))) (an_or (an_test (vl_ne (fun Q q => ⟨.ref D, rfl, D, kvs, rfl, eD, q⟩) (vl_lenL (K := K) (vl_var rfl) (.of ef3)) rfl)) fun _ => an_test (vl_ne (vl_lenL (K := K) (vl_var rfl) (.of ew3)) (vl_lenL (K := K) (vl_var rfl) (.of ef3)) rfl)) (fun hb => ?_) (fun hb => ?_)
    · refine g_ret vl_c (q H3 false s03 ⟨fun z => (nomatch z), fun h => ?_⟩)
      have e1 := hk2.mpr h.nd
      have e2 := h.len
      rw [dI, dI, hT.len, hW.len, e1, e2, decide_eq_true rfl] at hb
      cases hb
    · rw [Bool.or_eq_false_iff, Bool.not_eq_false', Bool.not_eq_false', dI, dI, decide_eq_true_eq, decide_eq_true_eq, hT.len, hW.len] at hb
      have nd : L.Nodup := hk2.mp (by omega)
      have WL : W.length = L.length := by omega
      have no : ∀ {H' : Hp}, Same H H' → ¬ DueP N os L W → Q (.bl false) H' := fun {H'} s h => q H' false s ⟨fun z => (nomatch z), fun z => absurd z h⟩
      have hR3 : SqL K H3 rp ((rk os).map V.int) := .of ((s2.trans s3) _ _ er)
      have hJ3 := hJ.to s3
      -- up
      refine ⟨.ref rp, rfl, .ref fp, rfl, rp, fp, N, os, ts, L, rfl, hR3, oo, by omega, n40, ef3, hT.to s03, fun H4 r4 s4 h4 => ⟨r4, rfl, ?_⟩⟩
      have s04 := s03.trans s4
      cases r4 with
      | false => exact iteF (no s04 fun h => by
          have := h4.mpr h.up
          cases this)
      | true =>
        have hup := h4.mp rfl
        refine iteT ⟨v, rfl, .ref D, rfl, v, N, D, L, rfl, Dp.to hN s04, l16, hD.to s4, fun H5 r5 s5 h5 => ⟨r5, rfl, ?_⟩⟩
        have s05 := s04.trans s5
        cases r5 with
        | false => exact iteF (no s05 fun h => by
            have := h5.mpr h.lnk
            cases this)
        | true =>
          have hln := h5.mp rfl
          refine iteT ⟨.ref fp, rfl, .ref D, rfl, fp, D, ts, L, rfl, s05 _ _ ef, hT.to s05, hD.to (s4.trans s5), nd, by omega, fun H6 r6 s6 h6 => ⟨r6, rfl, ?_⟩⟩
          have s06 := s05.trans s6
          have s36 := s4.trans (s5.trans s6)
          cases r6 with
          | false => exact iteF (no s06 fun h => by
              have := h6.mpr h.joins
              cases this)
          | true =>
            have hjn := h6.mp rfl
            refine iteT ?_
            have em : L.length = min ts.length ws.length := by
              rw [hT.len, hW.len]
              omega
            refine ⟨.ref fp, rfl, .ref wp, rfl, fp, wp, ts, ws, rfl, .of (s06 _ _ ef), .of (s06 _ _ ew), fun Z nZ => lc_it (walk_zip (K := K) (a := fp) (b := wp) (xs := ts) (ys := ws) em)
              (fun i H7 => ∃ bs : List Bool, H7 Z = some (.lst (bs.map V.bl)) ∧ Same H6 H7 ∧ bs.length = i ∧ ∀ (j : Nat) r, bs[j]? = some r → ∀ u v w, L[j]? = some (u, v) → W[j]? = some w → (r = true ↔ IsWayP N os u v w))
              ⟨[], upd_same, same_upd nZ, rfl, fun j r h => by simp at h⟩ (fun i H7 _ hP => ?_) (fun i x H7 H8 hi hP hY => ?_) (fun H7 hP => ?_)⟩
            · obtain ⟨bs, _, s7, _⟩ := hP
              exact ⟨.of (s7 _ _ (s06 _ _ ef)), .of (s7 _ _ (s06 _ _ ew))⟩
            · obtain ⟨bs, eZ, s7, hbl, hbs⟩ := hP
              obtain ⟨T, x1, y1, rfl, nT, rfl, hx1, hy1⟩ := hY
              have sT : Same H7 (upd H7 T (.tup [x1, y1])) := same_upd nT
              have hgL : L[i]? = some L[i] := List.getElem?_eq_getElem hi
              generalize L[i] = p at hgL
              obtain ⟨u, v'⟩ := p
              have hgW : W[i]? = some (W[i]'(by omega)) := List.getElem?_eq_getElem (by omega)
              generalize W[i]'(by omega) = w' at hgW
              obtain ⟨t, t1, t2⟩ := hT.at_ i u v' hgL
              cases hx1.symm.trans t1
              obtain ⟨wa, w1, w2⟩ := hW.at_ i w' hgW
              cases hy1.symm.trans w1
              have s0T := s06.trans (s7.trans sT)
              have s3T := s36.trans (s7.trans sT)
              have hgo := hup u v' (List.mem_of_getElem? hgL)
              have huv : u ≠ v' := fun e => by
                have := hgo.2.2
                rw [e] at this
                omega
              refine ⟨T, _, rfl, .of upd_same, rfl, _, _, rfl, _, _, rfl, rfl, rfl, iteT (B := ∃ bs : List Bool, upd H7 T (.tup [.ref t, .ref wa]) Z = some (.lst (bs.map V.bl)) ∧ Same H6 (upd H7 T (.tup [.ref t, .ref wa])) ∧ bs.length = i + 1 ∧ ∀ (j : Nat) r, bs[j]? = some r → ∀ u v w, L[j]? = some (u, v) → W[j]? = some w → (r = true ↔ IsWayP N os u v w)) ?_⟩
              refine ⟨.ref rp, rfl, .ref jd, rfl, .ref t, rfl, .ref wa, rfl, rp, jd, t, wa, N, os, u, v', w', rfl, ok, s3T.seq hR3, oo, hJ3.to s3T, .of (s0T _ _ t2), .of (s0T _ _ w2), hgo.1, huv, wl w' (List.mem_of_getElem? hgW), fun H9 r9 s9 h9 => ?_⟩
              refine ⟨bs.map V.bl, s9 _ _ (sT _ _ eZ), ?_, bs ++ [r9], ?_, same_upd' (s7.trans (sT.trans s9)) nZ, by rw [List.length_append, hbl]; rfl, fun j r hj u2 v2 w2' hL2 hW2 => ?_⟩
              · rw [List.length_map, hbl]
                exact Nat.lt_of_le_of_lt (m := 10000) (by omega) (by decide)
              · rw [upd_same, List.map_append]
                rfl
              · by_cases c : j < bs.length
                · rw [List.getElem?_append_left c] at hj
                  exact hbs j r hj u2 v2 w2' hL2 hW2
                · have hjl := (List.getElem?_eq_some_iff.mp hj).1
                  rw [List.length_append] at hjl
                  have hjl : j < bs.length + 1 := hjl
                  have : j = i := by omega
                  subst this
                  rw [List.getElem?_append_right (by omega), hbl, Nat.sub_self] at hj
                  cases Option.some.inj hj
                  cases hgL.symm.trans hL2
                  cases hgW.symm.trans hW2
                  exact h9
            · obtain ⟨bs, eZ, s7, hbl, hbs⟩ := hP
              refine ⟨Z, bs, rfl, .of eZ, q H7 _ (s06.trans s7) ?_⟩
              rw [List.all_eq_true]
              constructor
              · intro h
                refine ⟨WL, nd, hup, hln, hjn, fun i u v w hL hW => ?_⟩
                have hil := (List.getElem?_eq_some_iff.mp hL).1
                have hg : bs[i]? = some (bs[i]'(by omega)) := List.getElem?_eq_getElem (by omega)
                exact (hbs i _ hg u v w hL hW).mp (h _ (List.mem_of_getElem? hg))
              · intro h b hbm
                obtain ⟨i, hi⟩ := List.mem_iff_getElem?.mp hbm
                have hil := (List.getElem?_eq_some_iff.mp hi).1
                have hgL : L[i]? = some (L[i]'(by omega)) := List.getElem?_eq_getElem (by omega)
                have hgW : W[i]? = some (W[i]'(by omega)) := List.getElem?_eq_getElem (by omega)
                generalize L[i]'(by omega) = p at hgL
                obtain ⟨u, v'⟩ := p
                exact (hbs i b hi u v' _ hgL hgW).mpr (h.way i u v' _ hgL hgW)
end
/-! ### the law's check of pairs -/
structure RankX (H : Hp) (o : Addr) (os : List Int) : Prop where
  ex : ∃ kvs, H o = some (.dK kvs) ∧ ∀ x : Int, valV kvs (.inl x) = if x ∈ os then some (.int (posOf x os : Nat)) else none
theorem RankX.to {H H' : Hp} {o : Addr} {os : List Int} (h : RankX H o os) (s : Same H H') : RankX H' o os := by
  obtain ⟨kvs, h1, h2⟩ := h.ex
  exact ⟨kvs, s _ _ h1, h2⟩
abbrev sLJoined6 : Stmt := topS 23
abbrev sLIsWay6 : Stmt := topS 31
abbrev sDue6 : Stmt := topS 32
theorem scLJoined6 : FnScope ["links", "a", "b", "link"] ["links", "a", "b"] (defScope sLJoined6) := ⟨rfl, rfl, rfl, by decide +kernel, rfl, by decide +kernel, by decide +kernel⟩
theorem scLIsWay6 : FnScope ["net", "rank", "u", "v", "way", "k", "place"] ["net", "rank", "u", "v", "way"] (defScope sLIsWay6) := ⟨rfl, rfl, rfl, by decide +kernel, rfl, by decide +kernel, by decide +kernel⟩
theorem scDue6 : FnScope ["net", "order", "found", "ways", "rank", "k", "u", "v", "a", "b", "there", "back", "other", "w"] ["net", "order", "found", "ways"] (defScope sDue6) := ⟨rfl, rfl, rfl, by decide +kernel, rfl, by decide +kernel, by decide +kernel⟩
def spRankX (K : PySem.W.Frag) : Sp := fun vs H Q _ => ∃ (p : Addr) (os : List Int), vs = [.ref p] ∧ SqL K H p (os.map V.int) ∧ os.Nodup ∧ os.length ≤ 100 ∧ ∀ H' o, Same H H' → RankX H' o os → Q (.ref o) H'
def spLJoined (K : PySem.W.Frag) : Sp := fun vs H Q _ => ∃ (c : Addr) (xs : List V) (ls : List Lnk) (a b : Int), vs = [.ref c, .int a, .int b] ∧ SqL K H c xs ∧ DpAll K H xs (ls.map lnkD) ∧ (∀ l ∈ ls, l.a < l.b) ∧ ∀ H', Same H H' → Q (.bl (adj0 ls a b)) H'
def spLIsWay (K : PySem.W.Frag) : Sp := fun vs H Q _ => ∃ (v : V) (rd wp : Addr) (N : Net) (os : List Int) (a b : Int) (w : List Int), vs = [v, .ref rd, .int a, .int b, .ref wp] ∧ Dp K H v (netD N) ∧ NetOk N ∧ RankX H rd os ∧ OrdOk N.n os ∧ SqL K H wp (w.map V.int) ∧ w.length ≤ 1000 ∧ a ∈ os ∧ ∀ H' (r : Bool), Same H H' → (r = true ↔ IsWayP N os a b w) → Q (.bl r) H'
section
variable {P : Program} {w : World} {K : PySem.W.Frag} {mg : Str → Option Value} {base : Heap}
theorem ok_rankX {f : Addr} {fd : FuncData} {k : Nat} (F : Fun K "_law_rank" "_law_rank" sRank f fd) (ml : mg "len" = none) (mr : mg "range" = none) : FnOk P w K mg base CX0 (k + 1) f fd ["order"] (spRankX K) := by
  refine F.ok scRank (fun vs H Q E h => ?_) (fun cdv A outer s H vs Q E hr h => ?_)
  · obtain ⟨p, os, rfl, _⟩ := h
    rfl
  · obtain ⟨p, os, rfl, hS, hn, hl, q⟩ := h
    have hu := hu_of hr
    refine ⟨_, pss_cons (ps_set (i := 1) scRank.nd rfl (.inl rfl) pe_dnewK)
      (pss_cons (ps_for PassesOwn.never rfl (pi_range1 (by rfl) mr (pa_cons (pe_callB call_len_seq (by rfl) ml PySem.boot_len (pa_cons (pv 0) pa_nil)) pa_nil)) (pg_name (i := 2) scRank.nd rfl (.inl rfl))
      (pss_one (ps_dput hu (pv 1) (pe_ix ix_list (pv 0) (pv 2) (fun _ _ => rfl)) (pv 2) rfl)))
      (pss_one (ps_ret (pv 1)))), ?_⟩
    refine q_dnewK fun o no => ?_
    have so : Same H (upd H o (.dK [])) := same_upd no
    refine q_forR (n := (os.length : Int)) (va_cons (vl_lenI (vl_var rfl) (so.seq hS)) va_nil) ⟨by omega, by omega⟩
      (fun i σ H3 => ∃ y2 kvs, σ = [some (.ref p), some (.ref o), y2] ∧ H3 o = some (.dK kvs) ∧ Same H (but H3 o) ∧ kvs.length ≤ i ∧ ∀ x : Int, valV kvs (.inl x) = if x ∈ os.take i then some (.int (posOf x os : Nat)) else none)
      ⟨none, [], rfl, upd_same, same_but so no, Nat.le_refl _, fun x => by
        rw [List.take_zero, if_neg List.not_mem_nil]
        rfl⟩ (fun i σ H3 hi hP => ?_) (fun σ H3 hP => ?_)
    · obtain ⟨y2, kvs, rfl, ho, s3, hk, hA⟩ := hP
      have hg : os[i]? = some (os[i]'(by omega)) := List.getElem?_eq_getElem (by omega)
      generalize os[i]'(by omega) = x at hg
      refine g_dputV (v := .int i) (vl_var rfl) (vl_var rfl) (vl_ixI (vl_var rfl) (vl_var rfl) ((s3.trans but_same).seq hS) hg) ho ?_ ?_
      · exact Nat.lt_of_le_of_lt (m := 10000) (by omega) (by decide)
      · refine ⟨_, _, rfl, upd_same, ?_, Nat.le_trans (length_putK _ _ _) (Nat.succ_le_succ hk), fun z => ?_⟩
        · rw [but_upd]
          exact s3
        · rw [valV_put, hA, take_snoc hg]
          by_cases c : z = x
          · rw [if_pos (by rw [c]), if_pos (List.mem_append.mpr (.inr (List.mem_singleton.mpr c))), c, posOf_get hn hg]
          · rw [if_neg (fun e => c (Sum.inl.inj e))]
            by_cases c2 : z ∈ os.take i
            · rw [if_pos c2, if_pos (List.mem_append.mpr (.inl c2))]
            · rw [if_neg c2, if_neg (fun h => (List.mem_append.mp h).elim c2 fun h => c (List.mem_singleton.mp h))]
    · obtain ⟨y2, kvs, rfl, ho, s3, hk, hA⟩ := hP
      rw [Int.toNat_natCast, List.take_length] at hA
      exact g_ret (vl_var rfl) (q H3 o (s3.trans but_same) ⟨kvs, ho, hA⟩)
theorem ok_lJoined {f : Addr} {fd : FuncData} {k : Nat} (F : Fun K "_law_joined" "_law_joined" sLJoined6 f fd) (mm : mg "min" = none) (mx : mg "max" = none) : FnOk P w K mg base CX0 (k + 1) f fd ["links", "a", "b"] (spLJoined K) := by
  refine F.ok scLJoined6 (fun vs H Q E h => ?_) (fun cdv A outer s H vs Q E hr h => ?_)
  · obtain ⟨c, xs, ls, a, b, rfl, _⟩ := h
    rfl
  · obtain ⟨c, xs, ls, a, b, rfl, hc, hx, hlt, q⟩ := h
    have hu := hu_of hr
    refine ⟨_, pss_cons (ps_for PassesOwn.never rfl (pi_list (pv 0)) (pg_name (i := 3) scLJoined6.nd rfl (.inl rfl))
      (pss_one (ps_if (pt_cmpR (op_eqD hr.units) (pe_slice sl_tup (pv 3) po_none (po_some pe_int)) (pe_tup (pa_cons (pe_callB (call_min2 rfl) (by rfl) mm (by decide +kernel) (pa_cons (pv 1) (pa_cons (pv 2) pa_nil))) (pa_cons (pe_callB (call_max2 rfl) (by rfl) mx (by decide +kernel) (pa_cons (pv 1) (pa_cons (pv 2) pa_nil))) pa_nil))) (nomark _))
        (pss_one (ps_ret pe_bl))
        pss_nil)))
      (pss_one (ps_ret pe_bl)), ?_⟩
    refine q_forLk (K := K) (j := 3) (Hb := H) (ls := ls) (vl_var rfl) hc hx (Same.refl _)
      (fun i σ H3 => ∃ y3, σ = [some (.ref c), some (.int a), some (.int b), y3] ∧ Same H H3 ∧ adj0 (ls.take i) a b = false)
      ⟨_, rfl, Same.refl _, rfl⟩ (fun i σ H3 hP => ?_) (fun i l t σ H3 hl ht hP => ?_) (fun σ H3 hP => ?_)
    · obtain ⟨_, _, s3, _⟩ := hP
      exact s3
    · obtain ⟨y3, rfl, s3, hA⟩ := hP
      have ht3 := seqT s3 ht
      have hab := hlt l (List.mem_of_getElem? hl)
      refine g_whenx (b := decide ((l.a = a ∧ l.b = b) ∨ (l.a = b ∧ l.b = a))) (ax_op fun Q k => ?_) (fun hb H4 s4 => ?_) (fun hb H4 s4 => ?_)
      · refine ⟨.ref t, rfl, 2, rfl, t, lnkV l, rfl, ht3, fun z => ?_, fun T nT => ?_⟩
        · have := z.2
          rw [show HT.sIx (lnkV l).length (lnkV l).length (some 2) = min 2 4 from HT.sIx_nat 4 4 2] at this
          exact absurd (show (2 : Nat) = 4 from this) (by decide)
        rw [show cutV (lnkV l) none (some 2) = [.int l.a, .int l.b] from cut_to (xs := lnkV l) (n := 2) (by show 2 ≤ 4; decide)]
        refine mk_tup2 (vl_min2 (vl_var rfl) (vl_var rfl)) (vl_max2 (vl_var rfl) (vl_var rfl)) fun U nU => ⟨.tuple [.int l.a, .int l.b], .tuple [.int (if b < a then b else a), .int (if b > a then b else a)], .tup (.of (same_upd nU _ _ upd_same)) (.cons (.int _) (.cons (.int _) .nil)), .tup (.of upd_same) (.cons (.int _) (.cons (.int _) .nil)), by rfl, by rfl, _, rfl, ?_⟩
        have e : PyData.eqv (.tuple [.int l.a, .int l.b]) (.tuple [.int (if b < a then b else a), .int (if b > a then b else a)]) = decide ((l.a = a ∧ l.b = b) ∨ (l.a = b ∧ l.b = a)) := by
          show (l.a == _ && (l.b == _ && true)) = _
          rw [Bool.and_true, Bool.eq_iff_iff, Bool.and_eq_true, beq_iff_eq, beq_iff_eq, decide_eq_true_eq]
          by_cases c : b < a
          · rw [if_pos c, if_neg (by omega)]
            omega
          · rw [if_neg c]
            by_cases c2 : b > a
            · rw [if_pos c2]
              omega
            · rw [if_neg c2]
              omega
        rw [e]
        exact k _ ((same_upd nT).trans (same_upd nU))
      · rw [decide_eq_true_eq] at hb
        have : adj0 ls a b = true := adj0_iff.mpr ⟨l, List.mem_of_getElem? hl, hb.imp id fun h => h⟩
        have qq := q H4 (s3.trans s4)
        rw [this] at qq
        exact g_ret vl_c qq
      · rw [decide_eq_false_iff_not] at hb
        refine ⟨_, rfl, s3.trans s4, ?_⟩
        cases e : adj0 (ls.take (i + 1)) a b with
        | false => rfl
        | true =>
          rcases (adj_take hl).mp e with h | h
          · rw [hA] at h
            cases h
          · exact absurd h hb
    · obtain ⟨y3, rfl, s3, hA⟩ := hP
      rw [List.take_length] at hA
      have qq := q H3 s3
      rw [hA] at qq
      exact g_ret vl_c qq
end
/-! ### the law's way, what is due -/
theorem ve_notP {K : PySem.W.Frag} {σ : L2.St} {H : Hp} {ta tb tf : TE} {p q : Int} {f : V} {L : List (Int × Int)} (ha : Vl ta σ H (.int p)) (hb : Vl tb σ H (.int q)) (hf : ∀ H', Same H H' → Vl tf σ H' f) (hd : Dp K H f (.list (L.map pairD2))) :
    Ve (tOp (rNotInD K) (tTup (tCons ta (tCons tb tNil))) tf) σ H (.bl (!decide ((p, q) ∈ L))) := fun Q k =>
  ha _ (hb _ ⟨by show 2 ≤ sizeLine; decide, fun T nT => by
    have s1 : Same H (upd H T (.tup [.int p, .int q])) := same_upd nT
    refine hf _ s1 _ ⟨.tuple [.int p, .int q], L.map pairD2, .tup (.of upd_same) (.cons (.int _) (.cons (.int _) .nil)), Dp.to hd s1, by rfl, shaped_pairs L, ?_⟩
    rw [any_pairs]
    exact k _ s1⟩)
theorem cb_vn {σ : L2.St} {H : Hp} {te : TE} {xs : List V} {Q : VK} {r : List V → Hp → VK → Prop} (h : Vn te σ H xs) (k : ∀ p H', Same H H' → H p = none → H' p = some (.lst xs) → r [.ref p] H' Q) : tCB r (tCons te tNil) σ H Q := h _ k
theorem ax_call {σ : L2.St} {H : Hp} {tr : TA} {sp : Sp} {E : XK} {vs : List V} {b : Bool} (h : Va tr σ H vs) (k : ∀ Q : VK, (∀ H', Same H H' → Q (.bl b) H') → sp (vs ++ []) H Q E) : Ax (tB (tCall sp [] E tr)) σ H b := fun Q q => h _ (k _ fun H' s => ⟨b, rfl, q H' s⟩)
theorem ax_test {σ : L2.St} {H : Hp} {te : TE} {b : Bool} (h : Ve te σ H (.bl b)) : Ax (tTest te) σ H b := fun Q q => h _ fun H' s' => ⟨b, rfl, q H' s'⟩
section
variable {P : Program} {w : World} {K : PySem.W.Frag} {mg : Str → Option Value} {base : Heap}
theorem ok_lIsWay {f : Addr} {fd : FuncData} {k : Nat} (F : Fun K "_law_is_way" "_law_is_way" sLIsWay6 f fd) (c_law_joined : Kal P w K mg base k "_law_joined" ["links", "a", "b"] (spLJoined K)) (ml : mg "len" = none) (mr : mg "range" = none) : FnOk P w K mg base CX0 (k + 1) f fd ["net", "rank", "u", "v", "way"] (spLIsWay K) := by
  refine F.ok scLIsWay6 (fun vs H Q E h => ?_) (fun cdv A outer s H vs Q E hr h => ?_)
  · obtain ⟨v, rd, wp, N, os, a, b, w, rfl, _⟩ := h
    rfl
  · obtain ⟨v, rd, wp, N, os, a, b, w, rfl, hN, ok, hR, oo, hS, wl, ha, q⟩ := h
    have hu := hu_of hr
    refine ⟨_, pss_cons (ps_if (PW.pt (pw_or (pt_cmpR op_lt (pe_callB call_len_seq (by rfl) ml PySem.boot_len (pa_cons (pv 4) pa_nil)) pe_int (nomark _)) (pw_or (pt_cmpR op_ne (pe_ix ix_list (pv 4) pe_int (fun _ _ => rfl)) (pv 2) (nomark _)) (pw_or (pt_cmpR op_ne (pe_ix ix_list (pv 4) (pe_un un_neg pe_int) (fun _ _ => rfl)) (pv 3) (nomark _)) (pw_or1 (pt_cmpR op_gt (pe_callB call_len_seq (by rfl) ml PySem.boot_len (pa_cons (pe_lc (own := [("place", 6)]) (g := gName 6) (tt := (tB (tDNotIn (tVar 6) (tVar 1)))) (te := (tVar 6)) (by rfl) scLIsWay6.nd (pi_list (pv 4)) (blkOk_by (own := [("place", 6)]) (N := ["net", "rank", "u", "v", "way", "k", "place"]) (sc := defScope sLIsWay6) (by decide +kernel)) (fun _ _ _ _ _ => pg_name (i := 6) scLIsWay6.nd rfl (Or.inl rfl)) (fun _ _ _ _ _ => by exact (pts_one (pt_cmp (pc_dnotin hu (pv 6) (pv 1))))) (fun _ _ _ _ _ => by exact (pv 6))) pa_nil)) pe_int (nomark _)))))))
      (pss_one (ps_ret pe_bl))
      pss_nil)
      (pss_cons (ps_for PassesOwn.never rfl (pi_range1 (by rfl) mr (pa_cons (pe_op op_sub (pe_callB call_len_seq (by rfl) ml PySem.boot_len (pa_cons (pv 4) pa_nil)) pe_int) pa_nil)) (pg_name (i := 5) scLIsWay6.nd rfl (.inl rfl))
      (pss_one (ps_if (PW.pt (pw_or (pt_not (pt_val (pe_k c_law_joined hr (by first | decide | omega) (by rfl) (pa_cons (pe_ix ix_tup (pv 0) pe_int (fun _ _ => rfl)) (pa_cons (pe_ix ix_list (pv 4) (pv 5) (fun _ _ => rfl)) (pa_cons (pe_ix ix_list (pv 4) (pe_op op_add (pv 5) pe_int) (fun _ _ => rfl)) pa_nil)))))) (pw_or1 (PW.pt (pw_and (pt_cmpR op_lt pe_int (pv 5) (nomark _)) (pw_and1 (pt_cmpR op_ge (pe_dget hu (pv 1) (pe_ix ix_list (pv 4) (pv 5) (fun _ _ => rfl)) (fun _ _ => rfl)) (pe_dget hu (pv 1) (pv 2) (fun _ _ => rfl)) (nomark _))))))))
        (pss_one (ps_ret pe_bl))
        pss_nil)))
      (pss_one (ps_ret pe_bl))), ?_⟩
    obtain ⟨p, c, xs, rfl, hp, hc, hx⟩ := Dp.net_inv hN
    obtain ⟨rv, erd, hrv⟩ := hR.ex
    have hno : ∀ {H' : Hp}, Same H H' → ¬ IsWayP N os a b w → Q (.bl false) H' := fun {H'} s h => q H' false s ⟨fun z => (nomatch z), fun z => absurd z h⟩
    rcases Nat.lt_or_ge w.length 2 with l2 | l2
    · refine q_whenx (b := true) (ax_of (an_or (k := true) (m := true) (an_test ((vl_I0 (g := fun i j => .bl (decide (i < j))) (vl_lenI (K := K) (vl_var rfl) hS) vl_c).is (by rw [decide_eq_true (by omega)]))) fun h => by cases h)) (fun _ H1 s1 => ?_) (fun h => by cases h)
      exact g_ret vl_c (hno s1 fun h => by
        have := h.len
        omega)
    · have hg0 : w[0]? = some (w[0]'(by omega)) := List.getElem?_eq_getElem (by omega)
      have hgl : w[w.length - 1]? = some (w[w.length - 1]'(by omega)) := List.getElem?_eq_getElem (by omega)
      generalize w[0]'(by omega) = w0 at hg0
      generalize w[w.length - 1]'(by omega) = wz at hgl
      refine q_whenx (b := false || (!decide (V.int w0 = V.int a) || (!decide (V.int wz = V.int b) || decide (((w.filter fun x => !decide (x ∈ os)).length : Int) > 0)))) (ax_or (ax_of (an_test ((vl_I0 (g := fun i j => .bl (decide (i < j))) (vl_lenI (K := K) (vl_var rfl) hS) vl_c).is (by rw [decide_eq_false (by omega)])))) fun _ H1 s1 => ax_or (ax_of (an_test (vl_ne (vl_ixI (K := K) (j := 0) (vl_var rfl) vl_c (s1.seq hS) hg0) (vl_var rfl) rfl))) fun _ H2 s2 => ax_or (ax_of (an_test (vl_ne (vl_ixL (K := K) (vl_var rfl) (vl_neg (p := 1) vl_c) ((s1.trans s2).seq hS) (at_lastI hgl (by omega))) (vl_var rfl) rfl))) fun _ H3 s3 => ax_op fun Q k => ?_) (fun hb H1 s1 => ?_) (fun hb H1 s1 => ?_)
      · have s13 := s1.trans (s2.trans s3)
        refine cb_vn (vn_lcI (K := K) (ns := w) (pb := fun x => !decide (x ∈ os)) (f := V.int) (vx_list (vl_var rfl) (s13.seq hS)) (by omega) (fun x hx H' s' => (an_dnI7 (vl_var rfl) (vl_var rfl) ((s13.trans s') _ _ erd)).is ?_) (fun x hx H' s' => vl_var rfl)) fun p' H' s' np ep => ⟨p', _, rfl, .inl (.of ep), _, _, rfl, rfl, _, rfl, ?_⟩
        · rw [hrv]
          by_cases c : x ∈ os
          · rw [if_pos c, decide_eq_true c]
            rfl
          · rw [if_neg c, decide_eq_false c]
            rfl
        · rw [List.length_map]
          exact k H' s'
      · refine g_ret vl_c (hno s1 fun h => ?_)
        have e1 := Option.some.inj (hg0.symm.trans h.hd)
        have e2 := Option.some.inj (hgl.symm.trans h.end_)
        have e3 : (w.filter fun x => !decide (x ∈ os)) = [] := by
          rw [List.filter_eq_nil_iff]
          intro x hx
          obtain ⟨i, hi⟩ := List.mem_iff_getElem?.mp hx
          have hil := (List.getElem?_eq_some_iff.mp hi).1
          have hr : 0 ≤ x ∧ x < N.n := by
            by_cases c : i + 1 < w.length
            · have hg : w[i + 1]? = some (w[i + 1]'c) := List.getElem?_eq_getElem c
              exact (adj0_in ok (h.adj i x _ hi hg)).1
            · have hg : w[i - 1]? = some (w[i - 1]'(by omega)) := List.getElem?_eq_getElem (by omega)
              exact (adj0_in ok (h.adj (i - 1) _ x hg (by rw [show i - 1 + 1 = i by omega]; exact hi))).2.1
          rw [decide_eq_true (oo.mem.mpr hr)]
          decide
        rw [e1, e2, e3, decide_eq_true rfl, decide_eq_true rfl] at hb
        cases hb
      · rw [Bool.false_or, Bool.or_eq_false_iff, Bool.or_eq_false_iff, Bool.not_eq_false', Bool.not_eq_false', dI, dI, decide_eq_true_eq, decide_eq_true_eq, decide_eq_false_iff_not] at hb
        obtain ⟨rfl, rfl, hb3⟩ := hb
        have hin : ∀ x ∈ w, x ∈ os := fun x hx => Classical.byContradiction fun hxo => by
          have : x ∈ w.filter fun x => !decide (x ∈ os) := List.mem_filter.mpr ⟨hx, by rw [decide_eq_false hxo]; rfl⟩
          have := List.length_pos_of_mem this
          omega
        refine q_forR (n := (w.length : Int) - 1) (va_cons (vl_I0 (g := fun i j => .int (i - j)) (vl_lenI (K := K) (vl_var rfl) (s1.seq hS)) vl_c) va_nil) ⟨by omega, by omega⟩
          (fun i σ H3 => ∃ y5, σ = [some (.ref p), some (.ref rd), some (.int w0), some (.int wz), some (.ref wp), y5, none] ∧ Same H H3 ∧ ∀ j, j < i → ∀ x y, w[j]? = some x → w[j + 1]? = some y → adj0 N.ls x y = true ∧ (0 < j → posOf x os < posOf w0 os))
          ⟨_, rfl, s1, fun j hj => by omega⟩ (fun i σ H3 hi hP => ?_) (fun σ H3 hP => ?_)
        · obtain ⟨y5, rfl, s3, hA⟩ := hP
          have hg1 : w[i]? = some (w[i]'(by omega)) := List.getElem?_eq_getElem (by omega)
          have hg2 : w[i + 1]? = some (w[i + 1]'(by omega)) := List.getElem?_eq_getElem (by omega)
          generalize w[i]'(by omega) = x at hg1
          generalize w[i + 1]'(by omega) = y at hg2
          have hxo := hin x (List.mem_of_getElem? hg1)
          refine g_whenx (b := !(adj0 N.ls x y) || (decide ((0 : Int) < (i : Int)) && decide ((posOf w0 os : Int) ≤ (posOf x os : Int)))) (ax_or (ax_not (b := adj0 N.ls x y) (ax_call (va_cons (vl_ixT (K := K) (vl_var rfl) vl_c (seqT s3 hp) (atI_nat (j := 1) rfl)) (va_cons (vl_ixI (K := K) (vl_var rfl) (vl_var rfl) (s3.seq hS) hg1) (va_cons (vl_ixI (K := K) (j := i + 1) (vl_var rfl) ((vl_I0 (g := fun i j => .int (i + j)) (p := (i : Int)) (q := 1) (vl_var rfl) vl_c).is (by rfl)) (s3.seq hS) hg2) va_nil))) fun Q k => ⟨c, xs, N.ls, x, y, rfl, s3.seq hc, DpAll.to hx s3, fun l hl => (ok.ok l hl).ab, fun H' s' => k H' s'⟩)) fun _ H4 s4 => ax_of (an_and (an_test (vl_I0 (g := fun i j => .bl (decide (i < j))) vl_c (vl_var rfl))) fun _ => an_test (vl_I0 (g := fun i j => .bl (decide (j ≤ i))) (vl_dgetI (vl_var rfl) (vl_ixI (K := K) (vl_var rfl) (vl_var rfl) ((s3.trans s4).seq hS) hg1) ((s3.trans s4) _ _ erd) (by rw [hrv, if_pos hxo])) (vl_dgetI (vl_var rfl) (vl_var rfl) ((s3.trans s4) _ _ erd) (by rw [hrv, if_pos ha]))))) (fun hb H4 s4 => ?_) (fun hb H4 s4 => ?_)
          · refine g_ret vl_c (hno (s3.trans s4) fun h => ?_)
            rw [h.adj i x y hg1 hg2, Bool.not_true, Bool.false_or, Bool.and_eq_true, decide_eq_true_eq, decide_eq_true_eq] at hb
            have := h.low i x (by omega) (by omega) hg1
            omega
          · rw [Bool.or_eq_false_iff, Bool.not_eq_false'] at hb
            refine ⟨_, rfl, s3.trans s4, fun j hj x' y' hx' hy' => ?_⟩
            by_cases c : j < i
            · exact hA j c x' y' hx' hy'
            · have : j = i := by omega
              subst this
              cases hg1.symm.trans hx'
              cases hg2.symm.trans hy'
              refine ⟨hb.1, fun j0 => ?_⟩
              have := hb.2
              rw [decide_eq_true (show (0 : Int) < (j : Int) by omega), Bool.true_and, decide_eq_false_iff_not] at this
              omega
        · obtain ⟨y5, rfl, s3, hA⟩ := hP
          rw [show ((w.length : Int) - 1).toNat = w.length - 1 by omega] at hA
          refine g_ret vl_c (q H3 true s3 ⟨fun _ => ⟨l2, hg0, hgl, fun i x y hx hy => ?_, fun i x h0 h1 hx => ?_⟩, fun _ => rfl⟩)
          · have := (List.getElem?_eq_some_iff.mp hy).1
            exact (hA i (by omega) x y hx hy).1
          · have hg : w[i + 1]? = some (w[i + 1]'h1) := List.getElem?_eq_getElem h1
            exact (hA i (by omega) x _ hx hg).2 h0
end
/-! ### what is due -/
section
variable {P : Program} {w : World} {K : PySem.W.Frag} {mg : Str → Option Value} {base : Heap}
theorem ok_due6 {f : Addr} {fd : FuncData} {k k1 k2 : Nat} (l1 : k1 ≤ k) (l2 : k2 ≤ k) (F : Fun K "_law_due" "_law_due" sDue6 f fd) (c_law_rank : Kal P w K mg base k1 "_law_rank" ["order"] (spRankX K)) (c_law_is_way : Kal P w K mg base k2 "_law_is_way" ["net", "rank", "u", "v", "way"] (spLIsWay K)) (ml : mg "len" = none) (mr : mg "range" = none) : FnOk P w K mg base CX0 (k + 1) f fd ["net", "order", "found", "ways"] (spChkP K) := by
  refine F.ok scDue6 (fun vs H Q E h => ?_) (fun cdv A outer s H vs Q E hr h => ?_)
  · obtain ⟨v, N, po, fp, wp, os, ts, ws, L, W, rfl, _⟩ := h
    rfl
  · obtain ⟨v, N, po, fp, wp, os, ts, ws, L, W, rfl, hN, ok, hS, oo, ef, hT, ew, hW, Ll, Wl, wl, q⟩ := h
    have hu := hu_of hr
    refine ⟨_, pss_cons (ps_set (i := 4) scDue6.nd rfl (.inl rfl) (pe_k c_law_rank hr (by first | decide | omega) (by rfl) (pa_cons (pv 1) pa_nil)))
      (pss_cons (ps_if (pt_cmpR op_ne (pe_callB call_len_seq (by rfl) ml PySem.boot_len (pa_cons (pv 2) pa_nil)) (pe_callB call_len_seq (by rfl) ml PySem.boot_len (pa_cons (pv 3) pa_nil)) (nomark _))
      (pss_one (ps_ret pe_bl))
      pss_nil)
      (pss_cons (ps_for PassesOwn.never rfl (pi_range1 (by rfl) mr (pa_cons (pe_callB call_len_seq (by rfl) ml PySem.boot_len (pa_cons (pv 2) pa_nil)) pa_nil)) (pg_name (i := 5) scDue6.nd rfl (.inl rfl))
      (pss_cons (ps_asg (pe_ix ix_list (pv 2) (pv 5) (fun _ _ => rfl)) (pg_tup rfl (pgs_cons (pg_name (i := 6) scDue6.nd rfl (.inl rfl)) (pgs_cons (pg_name (i := 7) scDue6.nd rfl (.inl rfl)) pgs_nil))))
        (pss_cons (ps_if (PW.pt (pw_or (pt_cmp (pc_dnotin hu (pv 6) (pv 4))) (pw_or (pt_cmp (pc_dnotin hu (pv 7) (pv 4))) (pw_or (pt_cmpR op_ge (pe_dget hu (pv 4) (pv 6) (fun _ _ => rfl)) (pe_dget hu (pv 4) (pv 7) (fun _ _ => rfl)) (nomark _)) (pw_or1 (pt_cmpR (op_inD (room65 hr)) (pe_ix ix_list (pv 2) (pv 5) (fun _ _ => rfl)) (pe_slice sl_list (pv 2) po_none (po_some (pv 5))) (by rfl)))))))
        (pss_one (ps_ret pe_bl))
        pss_nil)
        (pss_one (ps_if (pt_not (pt_val (pe_k c_law_is_way hr (by first | decide | omega) (by rfl) (pa_cons (pv 0) (pa_cons (pv 4) (pa_cons (pv 6) (pa_cons (pv 7) (pa_cons (pe_ix ix_list (pv 3) (pv 5) (fun _ _ => rfl)) pa_nil))))))))
        (pss_one (ps_ret pe_bl))
        pss_nil)))))
      (pss_cons (ps_for PassesOwn.never rfl (pi_list (pe_ix ix_tup (pv 0) pe_int (fun _ _ => rfl))) (pg_tup rfl (pgs_cons (pg_name (i := 8) scDue6.nd rfl (.inl rfl)) (pgs_cons (pg_name (i := 9) scDue6.nd rfl (.inl rfl)) (pgs_cons (pg_name (i := 10) scDue6.nd rfl (.inl rfl)) (pgs_cons (pg_name (i := 11) scDue6.nd rfl (.inl rfl)) pgs_nil)))))
      (pss_one (ps_if (PW.pt (pw_and (pt_cmpR (op_notInD (room65 hr)) (pe_tup (pa_cons (pv 8) (pa_cons (pv 9) pa_nil))) (pv 2) (by rfl)) (pw_and1 (pt_cmpR (op_notInD (room65 hr)) (pe_tup (pa_cons (pv 9) (pa_cons (pv 8) pa_nil))) (pv 2) (by rfl)))))
        (pss_one (ps_ret pe_bl))
        pss_nil)))
      (pss_cons (ps_for PassesOwn.never rfl (pi_list (pv 2)) (pg_tup rfl (pgs_cons (pg_name (i := 6) scDue6.nd rfl (.inl rfl)) (pgs_cons (pg_name (i := 7) scDue6.nd rfl (.inl rfl)) pgs_nil)))
      (pss_one (ps_for PassesOwn.never rfl (pi_list (pv 2)) (pg_tup rfl (pgs_cons (pg_name (i := 12) scDue6.nd rfl (.inl rfl)) (pgs_cons (pg_name (i := 13) scDue6.nd rfl (.inl rfl)) pgs_nil)))
        (pss_one (ps_if (PW.pt (pw_and (pt_cmpR op_eq (pv 12) (pv 6) (nomark _)) (pw_and (pt_cmpR op_ne (pv 7) (pv 13) (nomark _)) (pw_and (pt_cmpR (op_notInD (room65 hr)) (pe_tup (pa_cons (pv 7) (pa_cons (pv 13) pa_nil))) (pv 2) (by rfl)) (pw_and1 (pt_cmpR (op_notInD (room65 hr)) (pe_tup (pa_cons (pv 13) (pa_cons (pv 7) pa_nil))) (pv 2) (by rfl)))))))
          (pss_one (ps_ret pe_bl))
          pss_nil)))))
      (pss_one (ps_ret pe_bl)))))), ?_⟩
    obtain ⟨p, c, xs, rfl, hp, hc, hx⟩ := Dp.net_inv hN
    have n40 := ok.n40
    have n1 := ok.n1
    have ol := oo.len
    have hno : ∀ {H' : Hp}, Same H H' → ¬ DueP N os L W → Q (.bl false) H' := fun {H'} s h => q H' false s ⟨fun z => (nomatch z), fun z => absurd z h⟩
    refine q_asgE ⟨.ref po, rfl, po, os, rfl, hS, oo.nodup, by omega, fun H1 rd s1 hR => ?_⟩
    obtain ⟨rv, erd, hrv⟩ := hR.ex
    have ef1 := s1 _ _ ef
    have ew1 := s1 _ _ ew
    refine q_when (b := !decide (V.int (ts.length : Nat) = V.int (ws.length : Nat))) (an_test (vl_ne (vl_lenL (K := K) (vl_var rfl) (.of ef1)) (vl_lenL (K := K) (vl_var rfl) (.of ew1)) rfl)) (fun hb => ?_) (fun hb => ?_)
    · refine g_ret vl_c (hno s1 fun h => ?_)
      rw [dI, hT.len, hW.len, h.len, decide_eq_true rfl] at hb
      cases hb
    rw [Bool.not_eq_false', dI, decide_eq_true_eq, hT.len, hW.len] at hb
    have WL : W.length = L.length := by omega
    refine q_forR (n := (ts.length : Int)) (va_cons (vl_lenL (K := K) (vl_var rfl) (.of ef1)) va_nil) ⟨by rw [hT.len]; omega, by rw [hT.len]; omega⟩
      (fun i σ H3 => ∃ y5 y6 y7, σ = [some (.ref p), some (.ref po), some (.ref fp), some (.ref wp), some (.ref rd), y5, y6, y7, none, none, none, none, none, none] ∧ Same H1 H3 ∧ ∀ j, j < i → ∀ u v w, L[j]? = some (u, v) → W[j]? = some w → (u ∈ os ∧ v ∈ os ∧ posOf u os < posOf v os) ∧ (u, v) ∉ L.take j ∧ IsWayP N os u v w)
      ⟨_, _, _, rfl, Same.refl _, fun j hj => by omega⟩ (fun i σ H3 hi hP => ?_) (fun σ H3 hP => ?_)
    · obtain ⟨y5, y6, y7, rfl, s3, hA⟩ := hP
      have s03 := s1.trans s3
      have hil : i < L.length := by rw [← hT.len]; omega
      have hgL : L[i]? = some L[i] := List.getElem?_eq_getElem hil
      generalize L[i] = z at hgL
      obtain ⟨u, v⟩ := z
      have hgW : W[i]? = some (W[i]'(by omega)) := List.getElem?_eq_getElem (by omega)
      generalize W[i]'(by omega) = w' at hgW
      obtain ⟨t, t1, t2⟩ := hT.at_ i u v hgL
      obtain ⟨wa, w1, w2⟩ := hW.at_ i w' hgW
      refine q_asgT2 (K := K) (vl_ixL (K := K) (vl_var rfl) (vl_var rfl) (.of (s03 _ _ ef)) (atI_nat t1)) (.of (s03 _ _ t2)) ?_
      have hru : ∀ x : Int, (valV rv (.inl x)).isSome = decide (x ∈ os) := fun x => by
        rw [hrv]
        by_cases c : x ∈ os
        · rw [if_pos c, decide_eq_true c]
          rfl
        · rw [if_neg c, decide_eq_false c]
          rfl
      refine q_whenx (b := !decide (u ∈ os) || (!decide (v ∈ os) || (decide ((posOf v os : Int) ≤ (posOf u os : Int)) || decide ((u, v) ∈ L.take i)))) (ax_or (ax_of ((an_dnI7 (vl_var rfl) (vl_var rfl) (s3 _ _ erd)).is (by rw [hru]))) fun h1 H4 s4 => ax_or (ax_of ((an_dnI7 (vl_var rfl) (vl_var rfl) ((s3.trans s4) _ _ erd)).is (by rw [hru]))) fun h2 H5 s5 => ax_or (ax_of (an_test (vl_I0 (g := fun i j => .bl (decide (j ≤ i))) (vl_dgetI (vl_var rfl) (vl_var rfl) ((s3.trans (s4.trans s5)) _ _ erd) (by
          rw [hrv, if_pos (by rw [Bool.not_eq_false', decide_eq_true_eq] at h1; exact h1)])) (vl_dgetI (vl_var rfl) (vl_var rfl) ((s3.trans (s4.trans s5)) _ _ erd) (by
          rw [hrv, if_pos (by rw [Bool.not_eq_false', decide_eq_true_eq] at h2; exact h2)]))))) fun h3 H6 s6 => ax_op fun Q k => ?_) (fun hb H4 s4 => ?_) (fun hb H4 s4 => ?_)
      · have s06 := s03.trans (s4.trans (s5.trans s6))
        have ef6 := s06 _ _ ef
        refine (vl_ixL (K := K) (vl_var rfl) (vl_var rfl) (.of ef6) (atI_nat t1)) _ ?_
        refine ⟨.ref fp, rfl, .int (i : Int), rfl, (i : Int), rfl, fp, ts, rfl, .of ef6, fun S nS => ?_⟩
        have sS : Same H6 (upd H6 S (.lst (cutV ts none (some (i : Int))))) := same_upd nS
        have eS : upd H6 S (.lst (cutV ts none (some (i : Int)))) S = some (.lst (ts.take i)) := by
          rw [upd_same, cut_to (by rw [hT.len]; omega)]
        refine ⟨.tuple [.int u, .int v], (L.take i).map pairD2, .tup (.of (sS _ _ (s06 _ _ t2))) (.cons (.int _) (.cons (.int _) .nil)), .lst (.of eS) ((hT.take i).to (s06.trans sS)).dp, by rfl, shaped_pairs _, _, rfl, ?_⟩
        rw [any_pairs]
        exact k _ sS
      · refine g_ret vl_c (hno (s03.trans s4) fun h => ?_)
        have hu1 := h.up u v (List.mem_of_getElem? hgL)
        have hnin : (u, v) ∉ L.take i := fun hm => by
          obtain ⟨j, hj⟩ := List.mem_iff_getElem?.mp hm
          have hjl := (List.getElem?_eq_some_iff.mp hj).1
          rw [List.length_take] at hjl
          rw [List.getElem?_take_of_lt (by omega)] at hj
          have g1 := List.getElem?_eq_some_iff.mp hj
          have g2 := List.getElem?_eq_some_iff.mp hgL
          have e1 := h.nd.idxOf_getElem j g1.1
          have e2 := h.nd.idxOf_getElem i g2.1
          rw [g1.2] at e1
          rw [g2.2] at e2
          omega
        rw [decide_eq_true (oo.mem.mpr hu1.1), decide_eq_true (oo.mem.mpr hu1.2.1), decide_eq_false (show ¬ (posOf v os : Int) ≤ (posOf u os : Int) by omega), decide_eq_false hnin] at hb
        cases hb
      · rw [Bool.or_eq_false_iff, Bool.or_eq_false_iff, Bool.or_eq_false_iff, Bool.not_eq_false', Bool.not_eq_false', decide_eq_true_eq, decide_eq_true_eq, decide_eq_false_iff_not, decide_eq_false_iff_not] at hb
        obtain ⟨b1, b2, b3, b4⟩ := hb
        have s04 := s03.trans s4
        have s14 := s3.trans s4
        refine ⟨.ref p, rfl, .ref rd, rfl, .int u, rfl, .int v, rfl, ?_⟩
        refine (vl_ixL (K := K) (vl_var rfl) (vl_var rfl) (.of (s04 _ _ ew)) (atI_nat w1)) _ ?_
        refine ⟨.ref p, rd, wa, N, os, u, v, w', rfl, Dp.to hN s04, ok, hR.to s14, oo, .of (s04 _ _ w2), wl w' (List.mem_of_getElem? hgW), b1, fun H5 r s5 hr => ⟨r, rfl, ?_⟩⟩
        cases r with
        | false =>
          refine iteT (g_ret vl_c (hno (s04.trans s5) fun h => ?_))
          have := hr.mpr (h.way i u v w' hgL hgW)
          cases this
        | true =>
          refine iteF ⟨_, _, _, rfl, s14.trans s5, fun j hj u' v' w'' hL' hW' => ?_⟩
          by_cases c : j < i
          · exact hA j c u' v' w'' hL' hW'
          · have : j = i := by omega
            subst this
            cases hgL.symm.trans hL'
            cases hgW.symm.trans hW'
            exact ⟨⟨b1, b2, by omega⟩, b4, hr.mp rfl⟩
    · obtain ⟨y5, y6, y7, rfl, s3, hA⟩ := hP
      rw [Int.toNat_natCast, hT.len] at hA
      have s03 := s1.trans s3
      have hA' : ∀ (j : Nat) u v, L[j]? = some (u, v) → ∃ w, W[j]? = some w ∧ (u ∈ os ∧ v ∈ os ∧ posOf u os < posOf v os) ∧ (u, v) ∉ L.take j ∧ IsWayP N os u v w := fun j u v hL => by
        have hjl := (List.getElem?_eq_some_iff.mp hL).1
        have hg : W[j]? = some (W[j]'(by omega)) := List.getElem?_eq_getElem (by omega)
        exact ⟨_, hg, hA j hjl u v _ hL hg⟩
      have up : GoUp N os L := fun u v h => by
        obtain ⟨j, hj⟩ := List.mem_iff_getElem?.mp h
        obtain ⟨w, _, h1, _⟩ := hA' j u v hj
        exact ⟨oo.mem.mp h1.1, oo.mem.mp h1.2.1, h1.2.2⟩
      have nd : L.Nodup := by
        refine List.pairwise_iff_getElem.mpr fun i j hi hj hij e => ?_
        have hg : L[j]? = some L[j] := List.getElem?_eq_getElem hj
        generalize hz : L[j] = z at hg e
        obtain ⟨u, v⟩ := z
        obtain ⟨w, _, _, h2, _⟩ := hA' j u v hg
        exact h2 (List.mem_of_getElem? (i := i) (by rw [List.getElem?_take_of_lt hij, List.getElem?_eq_getElem hi, e]))
      have way : AllW N os L W := fun i u v w hL hW' => by
        obtain ⟨w2, h1, _, _, h3⟩ := hA' i u v hL
        cases hW'.symm.trans h1
        exact h3
      -- links
      refine q_forLnk (K := K) (Hb := H) (ls := N.ls) (vl_ixT (K := K) (vl_var rfl) vl_c (seqT s03 hp) (atI_nat (j := 1) rfl)) hc hx s03
        (fun i σ H4 => ∃ y8 y9 y10 y11, σ = [some (.ref p), some (.ref po), some (.ref fp), some (.ref wp), some (.ref rd), y5, y6, y7, y8, y9, y10, y11, none, none] ∧ Same H H4 ∧ ∀ l ∈ N.ls.take i, (l.a, l.b) ∈ L ∨ (l.b, l.a) ∈ L)
        ⟨_, _, _, _, rfl, s03, fun l hl => by
          rw [List.take_zero] at hl
          cases hl⟩ (fun i σ H4 hP => ?_) (fun i l σ H4 hl hP => ?_) (fun σ H4 hP => ?_)
      · obtain ⟨_, _, _, _, _, s4, _⟩ := hP
        exact s4
      · obtain ⟨y8, y9, y10, y11, rfl, s4, hB⟩ := hP
        have dpF : ∀ {H' : Hp}, Same H H' → Dp K H' (.ref fp) (.list (L.map pairD2)) := fun s => .lst (.of (s _ _ ef)) (hT.to s).dp
        refine g_whenx (b := !decide ((l.a, l.b) ∈ L) && !decide ((l.b, l.a) ∈ L)) (ax_and (ax_test (ve_notP (vl_var rfl) (vl_var rfl) (fun _ _ => vl_var rfl) (dpF s4))) fun _ H5 s5 => ax_test (ve_notP (vl_var rfl) (vl_var rfl) (fun _ _ => vl_var rfl) (dpF (s4.trans s5)))) (fun hb H5 s5 => ?_) (fun hb H5 s5 => ?_)
        · refine g_ret vl_c (hno (s4.trans s5) fun h => ?_)
          rcases h.lnk l (List.mem_of_getElem? hl) with z | z
          · rw [decide_eq_true z] at hb
            cases hb
          · rw [decide_eq_true z, Bool.not_true, Bool.and_false] at hb
            cases hb
        · refine ⟨_, _, _, _, rfl, s4.trans s5, fun l' hl' => ?_⟩
          rw [take_snoc hl] at hl'
          rcases List.mem_append.mp hl' with hl' | hl'
          · exact hB l' hl'
          · rw [List.mem_singleton.mp hl']
            rw [Bool.and_eq_false_iff, Bool.not_eq_false', Bool.not_eq_false', decide_eq_true_eq, decide_eq_true_eq] at hb
            exact hb
      · obtain ⟨y8, y9, y10, y11, rfl, s4, hB⟩ := hP
        rw [List.take_length] at hB
        -- joins
        refine q_forP7 (K := K) (a := fp) (ts := ts) (L := L) (vl_var rfl)
          (fun i σ H5 => ∃ y6 y7 y12 y13, σ = [some (.ref p), some (.ref po), some (.ref fp), some (.ref wp), some (.ref rd), y5, y6, y7, y8, y9, y10, y11, y12, y13] ∧ Same H H5 ∧ ∀ u v, (u, v) ∈ L.take i → ∀ w, (u, w) ∈ L → v ≠ w → (v, w) ∈ L ∨ (w, v) ∈ L)
          ⟨_, _, _, _, rfl, s4, fun u v h => by
            rw [List.take_zero] at h
            cases h⟩ (fun i σ H5 hP => ?_) (fun i u v σ H5 hi hP => ?_) (fun σ H5 hP => ?_)
        · obtain ⟨_, _, _, _, _, s5, _⟩ := hP
          exact ⟨.of (s5 _ _ ef), hT.to s5⟩
        · obtain ⟨y6, y7, y12, y13, rfl, s5, hC⟩ := hP
          refine g_forP7 (K := K) (a := fp) (ts := ts) (L := L) (vl_var rfl)
            (fun j σ H6 => ∃ y12 y13, σ = [some (.ref p), some (.ref po), some (.ref fp), some (.ref wp), some (.ref rd), y5, some (.int u), some (.int v), y8, y9, y10, y11, y12, y13] ∧ Same H H6 ∧ ∀ w, (u, w) ∈ L.take j → v ≠ w → (v, w) ∈ L ∨ (w, v) ∈ L)
            ⟨_, _, rfl, s5, fun w h => by
              rw [List.take_zero] at h
              cases h⟩ (fun j σ H6 hP => ?_) (fun j o w σ H6 hj hP => ?_) (fun σ H6 hP => ?_)
          · obtain ⟨_, _, _, s6, _⟩ := hP
            exact ⟨.of (s6 _ _ ef), hT.to s6⟩
          · obtain ⟨y12, y13, rfl, s6, hD⟩ := hP
            have dpF : ∀ {H' : Hp}, Same H H' → Dp K H' (.ref fp) (.list (L.map pairD2)) := fun s => .lst (.of (s _ _ ef)) (hT.to s).dp
            refine g_whenx (b := decide (V.int o = V.int u) && (!decide (V.int v = V.int w) && (!decide ((v, w) ∈ L) && !decide ((w, v) ∈ L)))) (ax_and (ax_of (an_test (vl_eq (vl_var rfl) (vl_var rfl) rfl))) fun _ H7 s7 => ax_and (ax_of (an_test (vl_ne (vl_var rfl) (vl_var rfl) rfl))) fun _ H8 s8 => ax_and (ax_test (ve_notP (vl_var rfl) (vl_var rfl) (fun _ _ => vl_var rfl) (dpF (s6.trans (s7.trans s8))))) fun _ H9 s9 => ax_test (ve_notP (vl_var rfl) (vl_var rfl) (fun _ _ => vl_var rfl) (dpF (s6.trans (s7.trans (s8.trans s9)))))) (fun hb H7 s7 => ?_) (fun hb H7 s7 => ?_)
            · rw [dI, dI, Bool.and_eq_true, Bool.and_eq_true, Bool.and_eq_true, decide_eq_true_eq, Bool.not_eq_true', Bool.not_eq_true', Bool.not_eq_true', decide_eq_false_iff_not, decide_eq_false_iff_not, decide_eq_false_iff_not] at hb
              obtain ⟨rfl, b2, b3, b4⟩ := hb
              refine g_ret vl_c (hno (s6.trans s7) fun h => ?_)
              rcases h.joins o v w (List.mem_of_getElem? hi) (List.mem_of_getElem? hj) b2 with z | z
              · exact b3 z
              · exact b4 z
            · refine ⟨_, _, rfl, s6.trans s7, fun w' hw' hne => ?_⟩
              rw [take_snoc hj] at hw'
              rcases List.mem_append.mp hw' with hw' | hw'
              · exact hD w' hw' hne
              · cases List.mem_singleton.mp hw'
                rw [dI, dI, decide_eq_true rfl, decide_eq_false hne, Bool.true_and, Bool.not_false, Bool.true_and, Bool.and_eq_false_iff, Bool.not_eq_false', Bool.not_eq_false', decide_eq_true_eq, decide_eq_true_eq] at hb
                exact hb
          · obtain ⟨y12, y13, rfl, s6, hD⟩ := hP
            rw [List.take_length] at hD
            refine ⟨_, _, _, _, rfl, s6, fun u' v' h w hw hne => ?_⟩
            rw [take_snoc hi] at h
            rcases List.mem_append.mp h with h | h
            · exact hC u' v' h w hw hne
            · cases List.mem_singleton.mp h
              exact hD w hw hne
        · obtain ⟨y6, y7, y12, y13, rfl, s5, hC⟩ := hP
          rw [List.take_length] at hC
          exact g_ret vl_c (q H5 true s5 ⟨fun _ => ⟨WL, nd, up, hB, fun u v w h1 h2 hne => hC u v h1 w h2 hne, way⟩, fun _ => rfl⟩)
end
/-! ### the law's way of a pair -/
structure PathU (N : Net) (os : List Int) (u x : Int) (w : List Int) : Prop where
  len : 1 ≤ w.length
  hd : w[0]? = some u
  end_ : w[w.length - 1]? = some x
  adj : ∀ (i : Nat) (a b : Int), w[i]? = some a → w[i + 1]? = some b → adj0 N.ls a b = true
  low : ∀ (i : Nat) (y : Int), 0 < i → w[i]? = some y → posOf y os < posOf u os
theorem PathU.one {N : Net} {os : List Int} {u : Int} : PathU N os u u [u] := ⟨Nat.le_refl _, rfl, rfl, fun i a b _ hb => by simp at hb, fun i y h0 hy => by
  cases i with
  | zero => omega
  | succ i => simp at hy⟩
theorem adj_app6 {N : Net} {w : List Int} {x y : Int} (h : ∀ (i : Nat) (a b : Int), w[i]? = some a → w[i + 1]? = some b → adj0 N.ls a b = true) (hl : 1 ≤ w.length) (hx : w[w.length - 1]? = some x) (hy : adj0 N.ls x y = true) :
    ∀ (i : Nat) (a b : Int), (w ++ [y])[i]? = some a → (w ++ [y])[i + 1]? = some b → adj0 N.ls a b = true := by
  intro i a b ha hb
  have hl2 : i + 1 < (w ++ [y]).length := (List.getElem?_eq_some_iff.mp hb).1
  rw [List.length_append] at hl2
  have hl2 : i + 1 < w.length + 1 := hl2
  rw [List.getElem?_append_left (by omega)] at ha
  by_cases c : i + 1 < w.length
  · rw [List.getElem?_append_left c] at hb
    exact h i a b ha hb
  · rw [List.getElem?_append_right (by omega), show i + 1 - w.length = 0 by omega] at hb
    cases Option.some.inj hb
    rw [show w.length - 1 = i by omega, ha] at hx
    cases Option.some.inj hx
    exact hy
theorem PathU.grow {N : Net} {os : List Int} {u x y : Int} {w : List Int} (h : PathU N os u x w) (ha : adj0 N.ls x y = true) (hy : posOf y os < posOf u os) : PathU N os u y (w ++ [y]) := ⟨by rw [List.length_append]; exact Nat.le_trans h.len (Nat.le_add_right _ _), by
  rw [List.getElem?_append_left (by have := h.len; omega)]
  exact h.hd, by
  rw [List.length_append, List.getElem?_append_right (by show w.length ≤ w.length + 1 - 1; omega), show w.length + [y].length - 1 - w.length = 0 by show w.length + 1 - 1 - w.length = 0; omega]
  rfl, adj_app6 h.adj h.len h.end_ ha, fun i z h0 hz => by
  by_cases c : i < w.length
  · rw [List.getElem?_append_left c] at hz
    exact h.low i z h0 hz
  · rw [List.getElem?_append_right (by omega)] at hz
    rcases Nat.eq_zero_or_pos (i - w.length) with e | e
    · rw [e] at hz
      cases Option.some.inj hz
      exact hy
    · rw [List.getElem?_eq_none (by show 1 ≤ i - w.length; omega)] at hz
      cases hz⟩
theorem PathU.way {N : Net} {os : List Int} {u x v : Int} {w : List Int} (h : PathU N os u x w) (ha : adj0 N.ls x v = true) : IsWayP N os u v (w ++ [v]) := ⟨by
  rw [List.length_append]
  have := h.len
  show 2 ≤ w.length + 1
  omega, by
  rw [List.getElem?_append_left (by have := h.len; omega)]
  exact h.hd, by
  rw [List.length_append, List.getElem?_append_right (by show w.length ≤ w.length + 1 - 1; omega), show w.length + [v].length - 1 - w.length = 0 by show w.length + 1 - 1 - w.length = 0; omega]
  rfl, adj_app6 h.adj h.len h.end_ ha, fun i z h0 h1 hz => by
  rw [List.length_append] at h1
  have h1 : i + 1 < w.length + 1 := h1
  rw [List.getElem?_append_left (by omega)] at hz
  exact h.low i z h0 hz⟩
theorem reach6 {N : Net} {os : List Int} {u v : Int} {S : Int → Prop} (hu : S u) (hc : ∀ x, S x → ∀ y, adj0 N.ls x y = true → posOf y os < posOf u os → S y) (h : Rch (adj0 N.ls) (fun z => posOf z os < posOf u os) u v) : ∃ x, S x ∧ adj0 N.ls x v = true := by
  induction h with
  | one h => exact ⟨u, hu, h⟩
  | step h1 h2 h3 ih =>
    obtain ⟨y, hy, hyx⟩ := ih
    exact ⟨_, hc y hy _ hyx h2, h3⟩
/-- the ways that are told for the places of the queue -/
structure WaysQ (N : Net) (os : List Int) (u : Int) (G H : Hp) (o : Addr) (Q : List Int) : Prop where
  ex : ∃ kvs, H o = some (.dK kvs) ∧ kvs.length ≤ Q.length ∧ (∀ x, valV kvs (.inl x) = none ↔ x ∉ Q) ∧ ∀ (j : Nat) x, Q[j]? = some x → ∃ a w, valV kvs (.inl x) = some (.ref a) ∧ G a = some (.lst ((w : List Int).map V.int)) ∧ PathU N os u x w ∧ w.length ≤ j + 1
abbrev sLWay6 : Stmt := topS 28
theorem scLWay6 : FnScope ["linked", "rank", "u", "v", "draws", "k", "ways", "queue", "turn", "place", "others", "other", "ends"] ["linked", "rank", "u", "v", "draws", "k"] (defScope sLWay6) := ⟨rfl, rfl, rfl, by decide +kernel, rfl, by decide +kernel, by decide +kernel⟩
def spLWay6 (K : PySem.W.Frag) : Sp := fun vs H Q _ => ∃ (lk rd d : Addr) (N : Net) (os ds : List Int) (u v k : Int), vs = [.ref lk, .ref rd, .int u, .int v, .ref d, .int k] ∧ LinkAt H lk N ∧ RankX H rd os ∧ NetOk N ∧ OrdOk N.n os ∧ PairP N.ls os u v ∧ SqL K H d (ds.map V.int) ∧ 0 ≤ k ∧
  ∀ H' p w, Same H H' → H p = none → H' p = some (.lst ((w : List Int).map V.int)) → IsWayP N os u v w → w.length ≤ 100 → (∀ x ∈ w, 0 ≤ x ∧ x < N.n) → Q (.ref p) H'
theorem IsWayP.rg {N : Net} {os : List Int} {u v : Int} {w : List Int} (ok : NetOk N) (h : IsWayP N os u v w) : ∀ x ∈ w, 0 ≤ x ∧ x < N.n := fun x hx => by
  obtain ⟨i, hi⟩ := List.mem_iff_getElem?.mp hx
  have hil := (List.getElem?_eq_some_iff.mp hi).1
  have l2 := h.len
  by_cases c : i + 1 < w.length
  · have hg : w[i + 1]? = some (w[i + 1]'c) := List.getElem?_eq_getElem c
    exact (adj0_in ok (h.adj i x _ hi hg)).1
  · have hg : w[i - 1]? = some (w[i - 1]'(by omega)) := List.getElem?_eq_getElem (by omega)
    exact (adj0_in ok (h.adj (i - 1) _ x hg (by rw [show i - 1 + 1 = i by omega]; exact hi))).2.1
section
variable {P : Program} {w : World} {K : PySem.W.Frag} {mg : Str → Option Value} {base : Heap}
theorem ok_lWay6 {f : Addr} {fd : FuncData} {k0 : Nat} (F : Fun K "_law_way" "_law_way" sLWay6 f fd) (c_law_mix : Kal P w K mg base k0 "_law_mix" ["draws", "k", "many"] (spAt K)) (ml : mg "len" = none) (mr : mg "range" = none) : FnOk P w K mg base CX0 (k0 + 1) f fd ["linked", "rank", "u", "v", "draws", "k"] (spLWay6 K) := by
  refine F.ok scLWay6 (fun vs H Q E h => ?_) (fun cdv A outer s H vs Q E hr h => ?_)
  · obtain ⟨lk, rd, d, N, os, ds, u, v, k, rfl, _⟩ := h
    rfl
  · obtain ⟨lk, rd, d, N, os, ds, u, v, k, rfl, hL, hR, ok, oo, hP, hD, hk, q⟩ := h
    have hu := hu_of hr
    refine ⟨_, pss_cons (ps_set (i := 6) scLWay6.nd rfl (.inl rfl) pe_dnewK)
      (pss_cons (ps_set (i := 7) scLWay6.nd rfl (.inl rfl) (pe_lst (pa_cons (pv 2) pa_nil)))
      (pss_cons (ps_dput hu (pv 6) (pv 2) (pe_lst (pa_cons (pv 2) pa_nil)) rfl)
      (pss_cons (ps_for PassesOwn.never rfl (pi_range1 (by rfl) mr (pa_cons (pe_callB call_lenD (by rfl) ml PySem.boot_len (pa_cons (pv 0) pa_nil)) pa_nil)) (pg_name (i := 8) scLWay6.nd rfl (.inl rfl))
      (pss_one (ps_if (pt_cmpR op_lt (pv 8) (pe_callB call_len_seq (by rfl) ml PySem.boot_len (pa_cons (pv 7) pa_nil)) (nomark _))
        (pss_cons (ps_set (i := 9) scLWay6.nd rfl (.inl rfl) (pe_ix ix_list (pv 7) (pv 8) (fun _ _ => rfl)))
          (pss_cons (ps_set (i := 10) scLWay6.nd rfl (.inl rfl) (pe_dget hu (pv 0) (pv 9) (fun _ _ => rfl)))
          (Evl.pss_cut (ps_if (pt_cmpR op_eq (pe_k c_law_mix hr (by first | decide | omega) (by rfl) (pa_cons (pv 4) (pa_cons (pv 5) (pa_cons pe_int pa_nil)))) pe_int (nomark _))
          (pss_one (ps_set (i := 10) scLWay6.nd rfl (.inl rfl) (pe_revL (pv 10))))
          pss_nil)
          (pss_one (ps_for PassesOwn.never rfl (pi_list (pv 10)) (pg_name (i := 11) scLWay6.nd rfl (.inl rfl))
          (pss_one (ps_if (PW.pt (pw_and (pt_cmpR op_lt (pe_dget hu (pv 1) (pv 11) (fun _ _ => rfl)) (pe_dget hu (pv 1) (pv 2) (fun _ _ => rfl)) (nomark _)) (pw_and1 (pt_cmp (pc_dnotin hu (pv 11) (pv 6))))))
            (pss_cons (ps_dput hu (pv 6) (pv 11) (pe_op op_cat (pe_dget hu (pv 6) (pv 9) (fun _ _ => rfl)) (pe_lst (pa_cons (pv 11) pa_nil))) rfl)
              (pss_one (ps_expr (pe_bm PySem.F.plainAttrs_list PySem.F.slot_list_append PySem.F.type_list_append mt_append (pv 7) (pa_cons (pv 11) pa_nil)))))
            pss_nil)))))))
        pss_nil)))
      (pss_cons (ps_setLc (i := 12) (own := [("place", 9)]) (g := gName 9) (tt := (tTest (tOp (rIn K false) (tVar 3) (tDGet (tVar 0) (tVar 9))))) (te := (tVar 9)) (by rfl) scLWay6.nd rfl rfl (sw_true rfl rfl rfl (by decide +kernel)) (pi_list (pv 7)) (blkOk_by (own := [("place", 9)]) (N := ["linked", "rank", "u", "v", "draws", "k", "ways", "queue", "turn", "place", "others", "other", "ends"]) (sc := defScope sLWay6) (by decide +kernel)) (fun _ _ _ _ _ => pg_name (i := 9) scLWay6.nd rfl (Or.inl rfl)) (fun _ _ _ _ _ => by exact (pts_one (pt_cmpR op_in_seq (pv 3) (pe_dget hu (pv 0) (pv 9) (fun _ _ => rfl)) (by rfl)))) (fun _ _ _ _ _ => by exact (pv 9)))
      (pss_one (ps_ret (pe_op op_cat (pe_dget hu (pv 6) (pe_ix ix_list (pv 12) (pe_k c_law_mix hr (by first | decide | omega) (by rfl) (pa_cons (pv 4) (pa_cons (pe_op op_add (pv 5) pe_int) (pa_cons (pe_callB call_len_seq (by rfl) ml PySem.boot_len (pa_cons (pv 12) pa_nil)) pa_nil)))) (fun _ _ => rfl)) (fun _ _ => rfl)) (pe_lst (pa_cons (pv 3) pa_nil))))))))), ?_⟩
    have n40 := ok.n40
    have n1 := ok.n1
    have hin := hP.ins ok
    have uo : u ∈ os := oo.mem.mpr hin.1
    obtain ⟨rv, erd, hrv⟩ := hR.ex
    obtain ⟨lv, elk, lvl, hlv⟩ := hL.ex
    refine q_dnewK fun o no => ?_
    refine q_asgN (vn_oneI (vl_var rfl)) fun qo H1 s1 nqo eqo => ?_
    have eo1 := s1 _ _ (upd_same (H := H) (a := o) (o := .dK []))
    have oq : o ≠ qo := ne_of_none (upd_same (H := H) (a := o) (o := .dK [])) nqo
    have s01 := (same_upd no).trans s1
    have nq0 : H qo = none := Same.free (same_upd no) nqo
    refine q_dputN (xs := ([u] : List Int).map V.int) (vn_oneI (vl_var rfl)) (fun _ _ => vl_var rfl) (fun _ _ => vl_var rfl) eo1 (by show 0 < sizeLine; decide) fun a0 H2 s2 na0 ea0 => ?_
    have ao : a0 ≠ o := fun e => by
      rw [e, eo1] at na0
      cases na0
    have aq : a0 ≠ qo := fun e => by
      rw [e, eqo] at na0
      cases na0
    have b0 : Same H (B2 (upd H2 o (.dK (putK [] (.inl u) (.ref a0)))) o qo) := fun x y e => by
      have xo : x ≠ o := ne_of_none e no
      have xq : x ≠ qo := ne_of_none e nq0
      exact b2_get (by rw [upd_ne xo]; exact s2 _ _ (s01 _ _ e)) xo xq
    have w0 : WaysQ N os u (B2 (upd H2 o (.dK (putK [] (.inl u) (.ref a0)))) o qo) (upd H2 o (.dK (putK [] (.inl u) (.ref a0)))) o [u] := ⟨_, upd_same, Nat.le_refl 1, fun x => by
      rw [valV_put]
      by_cases c : x = u
      · rw [if_pos (by rw [c])]
        exact ⟨fun h => (nomatch h), fun h => absurd (List.mem_singleton.mpr c) h⟩
      · rw [if_neg (fun e => c (Sum.inl.inj e))]
        exact ⟨fun _ h => c (List.mem_singleton.mp h), fun _ => rfl⟩, fun j x hj => by
      cases j with
      | zero =>
        have ej := Option.some.inj hj
        subst ej
        exact ⟨a0, [u], by rw [valV_put, if_pos rfl], b2_get (by rw [upd_ne ao]; exact ea0) ao aq, PathU.one, Nat.le_refl _⟩
      | succ j => simp at hj⟩
    have eq0 : upd H2 o (.dK (putK [] (.inl u) (.ref a0))) qo = some (.lst (([u] : List Int).map V.int)) := by
      rw [upd_ne oq.symm]
      exact s2 _ _ eqo
    generalize upd H2 o (.dK (putK [] (.inl u) (.ref a0))) = H3 at b0 w0 eq0
    refine q_forR (n := N.n) (va_cons (show Vl _ _ H3 (.int N.n) from fun Q q => ⟨.ref lk, rfl, lk, lv, rfl, b2_same _ _ (b0 _ _ elk), by rw [lvl, show ((N.n.toNat : Nat) : Int) = N.n by omega]; exact q⟩) va_nil) ⟨by omega, by omega⟩
      (fun t σ H4 => ∃ y8 y9 y10 y11 Qs, σ = [some (.ref lk), some (.ref rd), some (.int u), some (.int v), some (.ref d), some (.int k), some (.ref o), some (.ref qo), y8, y9, y10, y11, none] ∧ Same H (B2 H4 o qo) ∧ WaysQ N os u (B2 H4 o qo) H4 o Qs ∧ H4 qo = some (.lst ((Qs : List Int).map V.int)) ∧ Qs.Nodup ∧ u ∈ Qs ∧ (∀ x ∈ Qs, 0 ≤ x ∧ x < N.n) ∧ ∀ j, j < t → ∀ x, Qs[j]? = some x → ∀ y, adj0 N.ls x y = true → posOf y os < posOf u os → y ∈ Qs)
      ⟨_, _, _, _, [u], rfl, b0, w0, eq0, List.nodup_cons.mpr ⟨List.not_mem_nil, List.nodup_nil⟩, List.mem_cons_self, fun x hx => by rw [List.mem_singleton.mp hx]; exact hin.1, fun j hj => by omega⟩ (fun t σ H4 ht hP4 => ?_) (fun σ H4 hP4 => ?_)
    · obtain ⟨y8, y9, y10, y11, Qs, rfl, s4, hW, eqo4, hnd, huQ, hrg, hcl⟩ := hP4
      have ql : Qs.length ≤ N.n.toNat := by
        have := sub_len (ys := rng N.n) hnd fun x hx => mem_rng.mpr (hrg x hx)
        rw [len_rng] at this
        exact this
      refine g_when (b := decide ((t : Int) < ((Qs.length : Nat) : Int))) (an_test (vl_I0 (g := fun i j => .bl (decide (i < j))) (vl_var rfl) (vl_lenI (K := K) (vl_var rfl) (.of eqo4)))) (fun hb => ?_) (fun hb => ?_)
      · rw [decide_eq_true_eq] at hb
        have hgt : Qs[t]? = some (Qs[t]'(by omega)) := List.getElem?_eq_getElem (by omega)
        generalize Qs[t]'(by omega) = pl at hgt
        have hplm := List.mem_of_getElem? hgt
        obtain ⟨p0, p1⟩ := hrg pl hplm
        obtain ⟨la, ns, e1, e2, e3, e4⟩ := hlv pl p0 p1
        have s4' := s4.trans b2_same
        refine q_asg (vl_ixI (K := K) (vl_var rfl) (vl_var rfl) (.of eqo4) hgt) ?_
        refine q_asg (vl_dgetI (vl_var rfl) (vl_var rfl) (s4' _ _ elk) e1) ?_
        -- the one order or the other
        refine q_cut (M := fun σ' H' => ∃ oa ms, σ' = [some (.ref lk), some (.ref rd), some (.int u), some (.int v), some (.ref d), some (.int k), some (.ref o), some (.ref qo), some (.int (t : Int)), some (.int pl), some (.ref oa), y11, none] ∧ Same H4 H' ∧ oa ≠ o ∧ oa ≠ qo ∧ H' oa = some (.lst ((ms : List Int).map V.int)) ∧ ms.length ≤ 4000 ∧ ∀ y, y ∈ ms ↔ adj0 N.ls pl y = true) ?_ ?_
        · have laO : la ≠ o := ne_of_none e2 no
          have laQ : la ≠ qo := ne_of_none e2 nq0
          refine ⟨.ref d, rfl, .int k, rfl, d, ds, k, 2, rfl, s4'.seq hD, hk, by decide, fun r hr => ⟨rfl, _, rfl, ite2 (fun _ => ?_) (fun _ => ?_)⟩⟩
          · refine g_asgN (vn_rev (K := K) (vl_var rfl) (.of (s4' _ _ e2))) fun p' H' s' np ep => ?_
            refine ⟨p', ns.reverse, rfl, s', fun e => ?_, fun e => ?_, by rw [ep, List.map_reverse], by rw [List.length_reverse]; exact e3, fun y => by rw [List.mem_reverse]; exact e4 y⟩
            · obtain ⟨kv, ek, _⟩ := hW.ex
              rw [e, ek] at np
              cases np
            · rw [e, eqo4] at np
              cases np
          · exact ⟨la, ns, rfl, Same.refl _, laO, laQ, s4' _ _ e2, e3, e4⟩
        · rintro σ' H5 ⟨oa, ms, rfl, s5, oao, oaq, eoa, hms, hadj⟩
          have s45 : Same H (B2 H5 o qo) := s4.trans (b2_mono s5)
          have hW5 : WaysQ N os u (B2 H5 o qo) H5 o Qs := by
            obtain ⟨kv, ek, k1, k2, k3⟩ := hW.ex
            exact ⟨kv, s5 _ _ ek, k1, k2, fun j x hj => let ⟨a, w, g1, g2, g3⟩ := k3 j x hj; ⟨a, w, g1, b2_mono s5 _ _ g2, g3⟩⟩
          refine g_forL (K := K) (xs := ms.map V.int) (vl_var rfl) (.of eoa)
            (fun j σ H6 => ∃ y11 Q6, σ = [some (.ref lk), some (.ref rd), some (.int u), some (.int v), some (.ref d), some (.int k), some (.ref o), some (.ref qo), some (.int (t : Int)), some (.int pl), some (.ref oa), y11, none] ∧ Same (B2 H5 o qo) (B2 H6 o qo) ∧ WaysQ N os u (B2 H6 o qo) H6 o Q6 ∧ H6 qo = some (.lst ((Q6 : List Int).map V.int)) ∧ Q6.Nodup ∧ (∃ ext, Q6 = Qs ++ ext) ∧ (∀ x ∈ Q6, 0 ≤ x ∧ x < N.n) ∧ ∀ y ∈ ms.take j, posOf y os < posOf u os → y ∈ Q6)
            ⟨_, Qs, rfl, Same.refl _, hW5, s5 _ _ eqo4, hnd, ⟨[], (List.append_nil _).symm⟩, hrg, fun y hy => by
              rw [List.take_zero] at hy
              cases hy⟩ (fun j σ H6 hP6 => ?_) (fun j z σ H6 hj hP6 => ?_) (fun σ H6 hP6 => ?_)
          · obtain ⟨_, _, _, s6, _⟩ := hP6
            exact .of (b2_same _ _ (s6 _ _ (b2_get eoa oao oaq)))
          · obtain ⟨y11, Q6, rfl, s6, hW6, eq6, nd6, ⟨ext, hext⟩, rg6, hcl6⟩ := hP6
            rw [List.getElem?_map] at hj
            obtain ⟨y, hyj, rfl⟩ := Option.map_eq_some_iff.mp hj
            have hay : adj0 N.ls pl y = true := (hadj y).mp (List.mem_of_getElem? hyj)
            have hyr := (adj0_in ok hay).2.1
            have yo : y ∈ os := oo.mem.mpr hyr
            have s06 : Same H H6 := (s45.trans s6).trans b2_same
            obtain ⟨kv, ek, kvl, kn, kw⟩ := hW6.ex
            have ql6 : Q6.length ≤ N.n.toNat := by
              have := sub_len (ys := rng N.n) nd6 fun x hx => mem_rng.mpr (rg6 x hx)
              rw [len_rng] at this
              exact this
            have hpl6 : Q6[t]? = some pl := by
              rw [hext, List.getElem?_append_left (by omega)]
              exact hgt
            have nin : (!(valV kv (.inl y)).isSome) = !decide (y ∈ Q6) := by
              cases e : valV kv (.inl y) with
              | none => rw [decide_eq_false ((kn y).mp e)]; rfl
              | some x =>
                have : y ∈ Q6 := Classical.byContradiction fun z => by
                  rw [(kn y).mpr z] at e
                  cases e
                rw [decide_eq_true this]
                rfl
            refine g_when (b := decide (((posOf y os : Nat) : Int) < (posOf u os : Nat)) && !decide (y ∈ Q6)) (an_and (an_test (vl_I0 (g := fun i j => .bl (decide (i < j))) (vl_dgetI (vl_var rfl) (vl_var rfl) (s06 _ _ erd) (by rw [hrv, if_pos yo])) (vl_dgetI (vl_var rfl) (vl_var rfl) (s06 _ _ erd) (by rw [hrv, if_pos uo])))) fun _ => (an_dnI7 (vl_var rfl) (vl_var rfl) ek).is nin) (fun hc => ?_) (fun hc => ?_)
            · rw [Bool.and_eq_true, decide_eq_true_eq, Bool.not_eq_true', decide_eq_false_iff_not] at hc
              have hlow : posOf y os < posOf u os := by omega
              obtain ⟨pa, pw, g1, g2, g3, g4⟩ := kw t pl hpl6
              have hkl : kv.length < sizeLine := Nat.lt_of_le_of_lt (m := 10000) (by omega) (by decide)
              refine q_dputN (xs := (pw ++ [y]).map V.int) (vn_catL (vl_dgetI (vl_var rfl) (vl_var rfl) ek g1) (b2_same _ _ g2) (vn_oneI (vl_var rfl)) (by show pw.length + 1 ≤ 1000000; omega)) (fun _ _ => vl_var rfl) (fun _ _ => vl_var rfl) ek hkl fun na H7 s7 nna ena => ?_
              have nao : na ≠ o := fun e => by
                rw [e, ek] at nna
                cases nna
              have naq : na ≠ qo := fun e => by
                rw [e, eq6] at nna
                cases nna
              have eq7 : upd H7 o (.dK (putK kv (.inl y) (.ref na))) qo = some (.lst (Q6.map V.int)) := by
                rw [upd_ne oq.symm]
                exact s7 _ _ eq6
              refine g_app (K := K) (v := .int y) (vl_var rfl) eq7 (vl_var rfl) (by rw [List.length_map]; exact Nat.lt_of_le_of_lt (m := 10000) (by omega) (by decide)) ?_
              have s67 : Same (B2 H6 o qo) (B2 (upd (upd H7 o (.dK (putK kv (.inl y) (.ref na)))) qo (.lst (Q6.map V.int ++ [.int y]))) o qo) := by
                rw [b2_upd2, b2_upd1]
                exact b2_mono s7
              refine ⟨_, Q6 ++ [y], rfl, s6.trans s67, ⟨putK kv (.inl y) (.ref na), (upd_ne oq).trans upd_same, ?_, fun x => ?_, fun j2 x hj2 => ?_⟩, by rw [upd_same, List.map_append]; rfl, nodup_snoc nd6 hc.2, ⟨ext ++ [y], by rw [hext, List.append_assoc]⟩, fun x hx => ?_, fun y' hy' hl' => ?_⟩
              · have := length_putK kv (Sum.inl y) (V.ref na)
                rw [List.length_append]
                exact Nat.le_trans this (Nat.succ_le_succ kvl)
              · rw [valV_put]
                by_cases c : x = y
                · rw [if_pos (by rw [c])]
                  exact ⟨fun h => (nomatch h), fun h => absurd (List.mem_append.mpr (.inr (List.mem_singleton.mpr c))) h⟩
                · rw [if_neg (fun e => c (Sum.inl.inj e)), kn]
                  exact ⟨fun h h2 => (List.mem_append.mp h2).elim h fun h2 => c (List.mem_singleton.mp h2), fun h h2 => h (List.mem_append.mpr (.inl h2))⟩
              · by_cases c : j2 < Q6.length
                · rw [List.getElem?_append_left c] at hj2
                  obtain ⟨a, w, g1', g2', g3', g4'⟩ := kw j2 x hj2
                  have xy : x ≠ y := fun e => hc.2 (e ▸ List.mem_of_getElem? hj2)
                  exact ⟨a, w, by rw [valV_put, if_neg (fun e => xy (Sum.inl.inj e))]; exact g1', s67 _ _ g2', g3', g4'⟩
                · have hjl := (List.getElem?_eq_some_iff.mp hj2).1
                  rw [List.length_append] at hjl
                  have hjl : j2 < Q6.length + 1 := hjl
                  have ej : j2 = Q6.length := by omega
                  rw [List.getElem?_append_right (by omega), ej, Nat.sub_self] at hj2
                  cases Option.some.inj hj2
                  refine ⟨na, pw ++ [y], by rw [valV_put, if_pos rfl], ?_, g3.grow hay hlow, ?_⟩
                  · refine b2_get ?_ nao naq
                    rw [upd_ne naq, upd_ne nao]
                    exact ena
                  · rw [List.length_append]
                    show pw.length + 1 ≤ j2 + 1
                    have : Qs.length ≤ Q6.length := by
                      rw [hext, List.length_append]
                      omega
                    omega
              · rcases List.mem_append.mp hx with hx | hx
                · exact rg6 x hx
                · rw [List.mem_singleton.mp hx]
                  exact hyr
              · rw [take_snoc hyj] at hy'
                rcases List.mem_append.mp hy' with hy' | hy'
                · exact List.mem_append.mpr (.inl (hcl6 y' hy' hl'))
                · exact List.mem_append.mpr (.inr hy')
            · refine ⟨_, Q6, rfl, s6, hW6, eq6, nd6, ⟨ext, hext⟩, rg6, fun y' hy' hl' => ?_⟩
              rw [take_snoc hyj] at hy'
              rcases List.mem_append.mp hy' with hy' | hy'
              · exact hcl6 y' hy' hl'
              · rw [List.mem_singleton.mp hy'] at hl' ⊢
                exact Classical.byContradiction fun z => by
                  rw [decide_eq_true (show ((posOf y os : Nat) : Int) < (posOf u os : Nat) by omega), decide_eq_false z] at hc
                  cases hc
          · obtain ⟨y11, Q6, rfl, s6, hW6, eq6, nd6, ⟨ext, hext⟩, rg6, hcl6⟩ := hP6
            rw [List.length_map, List.take_length] at hcl6
            refine ⟨_, _, _, _, Q6, rfl, s45.trans s6, hW6, eq6, nd6, by rw [hext]; exact List.mem_append.mpr (.inl huQ), rg6, fun j hj x hx y hy hl => ?_⟩
            by_cases c : j < t
            · rw [hext, List.getElem?_append_left (by omega)] at hx
              rw [hext]
              exact List.mem_append.mpr (.inl (hcl j c x hx y hy hl))
            · have : j = t := by omega
              subst this
              rw [hext, List.getElem?_append_left (by omega)] at hx
              cases hgt.symm.trans hx
              exact hcl6 y ((hadj y).mpr hy) hl
      · rw [decide_eq_false_iff_not] at hb
        exact ⟨_, _, _, _, Qs, rfl, s4, hW, eqo4, hnd, huQ, hrg, fun j hj x hx y hy hl => by
          have := (List.getElem?_eq_some_iff.mp hx).1
          exact hcl j (by omega) x hx y hy hl⟩
    · obtain ⟨y8, y9, y10, y11, Qs, rfl, s4, hW, eqo4, hnd, huQ, hrg, hcl⟩ := hP4
      have ql : Qs.length ≤ N.n.toNat := by
        have := sub_len (ys := rng N.n) hnd fun x hx => mem_rng.mpr (hrg x hx)
        rw [len_rng] at this
        exact this
      have s4' := s4.trans b2_same
      obtain ⟨xe, hxe, hxv⟩ := reach6 (S := fun x => x ∈ Qs) huQ (fun x hx y hy hl => by
        obtain ⟨j, hj⟩ := List.mem_iff_getElem?.mp hx
        have := (List.getElem?_eq_some_iff.mp hj).1
        exact hcl j (by omega) x hj y hy hl) hP.2
      refine q_asgN (vn_lcI (K := K) (ns := Qs) (pb := fun x => adj0 N.ls x v) (f := V.int) (vx_list (vl_var rfl) (.of eqo4)) (by omega) (fun x hx H' s' => ?_) (fun x hx H' s' => vl_var rfl)) fun eo H5 s5 neo eeo => ?_
      · obtain ⟨p0, p1⟩ := hrg x hx
        obtain ⟨la, ns, e1, e2, e3, e4⟩ := hlv x p0 p1
        refine an_test ((vl_inI (K := K) (vl_var rfl) (vl_dgetI (vl_var rfl) (vl_var rfl) ((s4'.trans s') _ _ elk) e1) (.of ((s4'.trans s') _ _ e2))).is ?_)
        congr 1
        rw [Bool.eq_iff_iff, decide_eq_true_eq]
        exact e4 v
      · have hE : xe ∈ Qs.filter fun x => adj0 N.ls x v := List.mem_filter.mpr ⟨hxe, hxv⟩
        have hEl := List.length_pos_of_mem hE
        have s05 := s4'.trans s5
        obtain ⟨kv, ek, kvl, kn, kw⟩ := hW.ex
        have ek5 := s5 _ _ ek
        -- ways[ends[..]] + [v]
        refine ⟨.ref o, rfl, .ref eo, rfl, ?_⟩
        refine ⟨.ref d, rfl, .int k, rfl, k, 1, rfl, rfl, ?_⟩
        refine (vl_lenI (K := K) (ns := Qs.filter fun x => adj0 N.ls x v) (vl_var rfl) (.of eeo)) _ ?_
        refine ⟨d, ds, k + 1, ((Qs.filter fun x => adj0 N.ls x v).length : Nat), rfl, s05.seq hD, by omega, by omega, fun r hr => ?_⟩
        obtain ⟨j, rfl⟩ := Int.eq_ofNat_of_zero_le hr.1
        have hgj : (Qs.filter fun x => adj0 N.ls x v)[j]? = some ((Qs.filter fun x => adj0 N.ls x v)[j]'(by omega)) := List.getElem?_eq_getElem (by omega)
        generalize (Qs.filter fun x => adj0 N.ls x v)[j]'(by omega) = x at hgj
        obtain ⟨hxQ, hxa⟩ := List.mem_filter.mp (List.mem_of_getElem? hgj)
        obtain ⟨i, hi⟩ := List.mem_iff_getElem?.mp hxQ
        have hil := (List.getElem?_eq_some_iff.mp hi).1
        obtain ⟨a, w', g1, g2, g3, g4⟩ := kw i x hi
        refine ⟨eo, _, (j : Int), .int x, rfl, rfl, .of eeo, atI_nat (by rw [List.getElem?_map, hgj]; rfl), ?_⟩
        refine ⟨o, .ref a, rfl, by rw [← g1]; exact DGet.k (k := .inl x) ek5, ?_⟩
        refine ⟨.int v, rfl, by show 1 ≤ sizeLine; decide, fun b nb => ?_⟩
        have sb : Same H5 (upd H5 b (.lst [.int v])) := same_upd nb
        refine ⟨a, b, w'.map V.int, [.int v], rfl, rfl, sb _ _ (s5 _ _ (b2_same _ _ g2)), upd_same, ?_, fun p np => ?_⟩
        · rw [List.length_map]
          exact Nat.le_trans (show w'.length + 1 ≤ 10000 by omega) (by decide)
        · have sp := same_upd (o := .lst (w'.map V.int ++ [.int v])) np
          have hway := g3.way hxa
          refine q _ p (w' ++ [v]) (s05.trans (sb.trans sp)) (Same.free (s05.trans sb) np) (by rw [upd_same, List.map_append]; rfl) hway ?_ (hway.rg ok)
          rw [List.length_append]
          show w'.length + 1 ≤ 100
          omega
end
/-! ### the law's input -/
theorem cut_fromN {xs : List V} {n : Nat} : cutV xs (some (n : Int)) none = xs.drop n := by
  unfold cutV
  rw [HT.sIx_nat, HT.sIx_none, List.take_of_length_le (by rw [List.length_drop]; exact Nat.le_refl _)]
  by_cases c : n ≤ xs.length
  · rw [Nat.min_eq_left c]
  · rw [Nat.min_eq_right (by omega), List.drop_of_length_le (Nat.le_refl _), List.drop_of_length_le (by omega)]
section
variable {K : PySem.W.Frag} {σ : L2.St} {H : Hp} {ta tb tc te : TE}
theorem mk_row {t1 t2 : TE} {tr : TA} {sp : Sp} {E : XK} {vs : List V} {u v : Int} {Q : VK} (h1 : Vl t1 σ H (.int u)) (h2 : Vl t2 σ H (.int v)) (h : ∀ H', Same H H' → Va tr σ H' vs)
    (k : ∀ T1 H1, Same H H1 → H1 T1 = some (.tup [.int u, .int v]) → sp (vs ++ []) H1 (fun x H2 => [V.ref T1, x].length ≤ sizeLine ∧ ∀ p, H2 p = none → Q (.ref p) (upd H2 p (.tup [.ref T1, x]))) E) : tTup (tCons (tTup (tCons t1 (tCons t2 tNil))) (tCons (tCall sp [] E tr) tNil)) σ H Q :=
  h1 _ (h2 _ ⟨by show 2 ≤ sizeLine; decide, fun T1 n1 => h _ (same_upd n1) _ (k T1 _ (same_upd n1) upd_same)⟩)
theorem ret_two {D : Ends} {A B : Addr → Hp → Prop} (mA : ∀ a H1 H2, A a H1 → Same H1 H2 → A a H2) (mB : ∀ a H1 H2, B a H1 → Same H1 H2 → B a H2) (h1 : ∀ Q : VK, (∀ a H1, Same H H1 → A a H1 → Q (.ref a) H1) → ta σ H Q)
    (h2 : ∀ H1, Same H H1 → ∀ Q : VK, (∀ a H2, Same H1 H2 → B a H2 → Q (.ref a) H2) → tb σ H1 Q) (k : ∀ T a b H', Same H H' → H' T = some (.tup [.ref a, .ref b]) → A a H' → B b H' → D.rt (.ref T) H') : tRet (tTup (tCons ta (tCons tb tNil))) D σ H :=
  h1 _ fun a H1 s1 hA => h2 H1 s1 _ fun b H2 s2 hB => ⟨by show 2 ≤ sizeLine; decide, fun T nT => k T a b _ (s1.trans (s2.trans (same_upd nT))) upd_same (mA _ _ _ hA (s2.trans (same_upd nT))) (mB _ _ _ hB (same_upd nT))⟩
/-- xs[:j1] + [x] + xs[j2:] -/
theorem ins_cat {a : Addr} {xs : List V} {j1 j2 : Nat} {Good : V → Hp → Prop} {Q : VK} (mono : ∀ x H1 H2, Good x H1 → Same H1 H2 → Good x H2) (ha : ∀ H', Same H H' → Vl ta σ H' (.ref a)) (hb : Vl tb σ H (.int (j1 : Nat))) (hc : ∀ H', Same H H' → Vl tc σ H' (.int (j2 : Nat))) (hx : SqL K H a xs) (l1 : j1 ≤ xs.length) (hz : xs.length ≤ 100000)
    (he : ∀ H1, Same H H1 → ∀ Q : VK, (∀ x H2, Same H1 H2 → Good x H2 → Q x H2) → te σ H1 Q) (k : ∀ p H' x, Same H H' → H p = none → H' p = some (.lst (xs.take j1 ++ [x] ++ xs.drop j2)) → Good x H' → Q (.ref p) H') :
    tOp rCat (tOp rCat (tSl (rSlL K) ta tNoPart (tPart tb)) (tLst (tCons te tNil))) (tSl (rSlL K) ta (tPart tc) tNoPart) σ H Q := by
  refine ha H (Same.refl _) _ ?_
  refine hb _ ⟨(j1 : Nat), rfl, a, xs, rfl, hx, fun p1 n1 => ?_⟩
  rw [cut_to l1]
  have s1 := same_upd (o := .lst (xs.take j1)) n1
  have e1 : upd H p1 (.lst (xs.take j1)) p1 = some (.lst (xs.take j1)) := upd_same
  generalize upd H p1 (.lst (xs.take j1)) = H1 at s1 e1
  refine he H1 s1 _ fun x H2 s2 g2 => ⟨by show 1 ≤ sizeLine; decide, fun p2 n2 => ?_⟩
  have s3 := same_upd (o := .lst [x]) n2
  refine ⟨p1, p2, _, _, rfl, rfl, s3 _ _ (s2 _ _ e1), upd_same, ?_, fun p3 n3 => ?_⟩
  · rw [List.length_take]
    exact Nat.le_trans (show _ + 1 ≤ 1000000 by omega) (by decide)
  · have s4 := same_upd (o := .lst (xs.take j1 ++ [x])) n3
    have e3 := upd_same (H := upd H2 p2 (.lst [x])) (a := p3) (o := .lst (xs.take j1 ++ [x]))
    have sA : Same H (upd (upd H2 p2 (.lst [x])) p3 (.lst (xs.take j1 ++ [x]))) := s1.trans (s2.trans (s3.trans s4))
    have gA : Good x (upd (upd H2 p2 (.lst [x])) p3 (.lst (xs.take j1 ++ [x]))) := mono _ _ _ g2 (s3.trans s4)
    generalize upd (upd H2 p2 (.lst [x])) p3 (.lst (xs.take j1 ++ [x])) = H3 at e3 sA gA
    refine ha H3 sA _ ?_
    refine hc H3 sA _ ⟨(j2 : Nat), rfl, a, xs, rfl, sA.seq hx, fun p4 n4 => ?_⟩
    rw [cut_fromN]
    have s5 := same_upd (o := .lst (xs.drop j2)) n4
    refine ⟨p3, p4, _, _, rfl, rfl, s5 _ _ e3, upd_same, ?_, fun p5 n5 => ?_⟩
    · rw [List.length_append, List.length_take, List.length_drop]
      exact Nat.le_trans (show _ + 1 + _ ≤ 1000000 by omega) (by decide)
    · exact k p5 _ x (sA.trans (s5.trans (same_upd n5))) (Same.free (sA.trans s5) n5) upd_same (mono _ _ _ gA (s5.trans (same_upd n5)))
/-- xs[:j1] + xs[j2:] -/
theorem del_cat {a : Addr} {xs : List V} {j1 j2 : Nat} {Q : VK} (ha : ∀ H', Same H H' → Vl ta σ H' (.ref a)) (hb : Vl tb σ H (.int (j1 : Nat))) (hc : ∀ H', Same H H' → Vl tc σ H' (.int (j2 : Nat))) (hx : SqL K H a xs) (l1 : j1 ≤ xs.length) (hz : xs.length ≤ 100000)
    (k : ∀ p H', Same H H' → H p = none → H' p = some (.lst (xs.take j1 ++ xs.drop j2)) → Q (.ref p) H') :
    tOp rCat (tSl (rSlL K) ta tNoPart (tPart tb)) (tSl (rSlL K) ta (tPart tc) tNoPart) σ H Q := by
  refine ha H (Same.refl _) _ ?_
  refine hb _ ⟨(j1 : Nat), rfl, a, xs, rfl, hx, fun p1 n1 => ?_⟩
  rw [cut_to l1]
  have s1 := same_upd (o := .lst (xs.take j1)) n1
  have e1 : upd H p1 (.lst (xs.take j1)) p1 = some (.lst (xs.take j1)) := upd_same
  generalize upd H p1 (.lst (xs.take j1)) = H1 at s1 e1
  refine ha H1 s1 _ ?_
  refine hc H1 s1 _ ⟨(j2 : Nat), rfl, a, xs, rfl, s1.seq hx, fun p4 n4 => ?_⟩
  rw [cut_fromN]
  have s5 := same_upd (o := .lst (xs.drop j2)) n4
  refine ⟨p1, p4, _, _, rfl, rfl, s5 _ _ e1, upd_same, ?_, fun p5 n5 => ?_⟩
  · rw [List.length_take, List.length_drop]
    exact Nat.le_trans (show _ ≤ 1000000 by omega) (by decide)
  · exact k p5 _ (s1.trans (s5.trans (same_upd n5))) (Same.free (s1.trans s5) n5) upd_same
/-- xs[j:] + xs[:j] -/
theorem rot_cat {a : Addr} {xs : List V} {j : Nat} {Q : VK} (ha : ∀ H', Same H H' → Vl ta σ H' (.ref a)) (hb : ∀ H', Same H H' → Vl tb σ H' (.int (j : Nat))) (hx : SqL K H a xs) (l1 : j ≤ xs.length) (hz : xs.length ≤ 100000)
    (k : ∀ p H', Same H H' → H p = none → H' p = some (.lst (xs.drop j ++ xs.take j)) → Q (.ref p) H') :
    tOp rCat (tSl (rSlL K) ta (tPart tb) tNoPart) (tSl (rSlL K) ta tNoPart (tPart tb)) σ H Q := by
  refine ha H (Same.refl _) _ ?_
  refine hb H (Same.refl _) _ ⟨(j : Nat), rfl, a, xs, rfl, hx, fun p1 n1 => ?_⟩
  rw [cut_from l1]
  have s1 := same_upd (o := .lst (xs.drop j)) n1
  have e1 : upd H p1 (.lst (xs.drop j)) p1 = some (.lst (xs.drop j)) := upd_same
  generalize upd H p1 (.lst (xs.drop j)) = H1 at s1 e1
  refine ha H1 s1 _ ?_
  refine hb H1 s1 _ ⟨(j : Nat), rfl, a, xs, rfl, s1.seq hx, fun p4 n4 => ?_⟩
  rw [cut_to l1]
  have s5 := same_upd (o := .lst (xs.take j)) n4
  refine ⟨p1, p4, _, _, rfl, rfl, s5 _ _ e1, upd_same, ?_, fun p5 n5 => ?_⟩
  · rw [List.length_take, List.length_drop]
    exact Nat.le_trans (show _ ≤ 1000000 by omega) (by decide)
  · exact k p5 _ (s1.trans (s5.trans (same_upd n5))) (Same.free (s1.trans s5) n5) upd_same
end
section
variable {N : Net} {os : List Int} {L L2 : List (Int × Int)} {W W2 : List (List Int)}
theorem AllW.take (h : AllW N os L W) (n : Nat) : AllW N os (L.take n) (W.take n) := fun i u v w hL hW => by
  have h1 := (List.getElem?_eq_some_iff.mp hL).1
  have h2 := (List.getElem?_eq_some_iff.mp hW).1
  rw [List.length_take] at h1 h2
  rw [List.getElem?_take_of_lt (by omega)] at hL hW
  exact h i u v w hL hW
theorem AllW.drop (h : AllW N os L W) (n : Nat) : AllW N os (L.drop n) (W.drop n) := fun i u v w hL hW => by
  rw [List.getElem?_drop] at hL hW
  exact h _ u v w hL hW
theorem AllW.app (h : AllW N os L W) (k : AllW N os L2 W2) (e : W.length = L.length) : AllW N os (L ++ L2) (W ++ W2) := fun i u v w hL hW => by
  by_cases c : i < L.length
  · rw [List.getElem?_append_left c] at hL
    rw [List.getElem?_append_left (by omega)] at hW
    exact h i u v w hL hW
  · rw [List.getElem?_append_right (by omega)] at hL hW
    rw [e] at hW
    exact k _ u v w hL hW
theorem AllW.one {u v : Int} {w : List Int} (h : IsWayP N os u v w) : AllW N os [(u, v)] [w] := fun i a b x hL hW => by
  cases i with
  | zero =>
    cases Option.some.inj hL
    cases Option.some.inj hW
    exact h
  | succ i => simp at hL
theorem ins_perm {α : Type} {L P : List α} {p : α} (h : L.Perm P) (j : Nat) : (L.take j ++ [p] ++ L.drop j).Perm (P ++ [p]) := by
  rw [List.append_assoc]
  show (L.take j ++ p :: L.drop j).Perm _
  refine (List.perm_middle).trans ?_
  rw [List.take_append_drop]
  exact (h.cons p).trans (List.perm_append_singleton p P).symm
end
/-- rows of a tuple and a list -/
structure Rows6 (H : Hp) (R T1 W1 : List V) : Prop where
  l1 : R.length = T1.length
  l2 : R.length = W1.length
  at_ : ∀ (i : Nat) x y, T1[i]? = some x → W1[i]? = some y → ∃ t, R[i]? = some (.ref t) ∧ H t = some (.tup [x, y])
section
variable {H H' : Hp} {R T1 W1 R2 T2 W2 : List V}
theorem Rows6.to (h : Rows6 H R T1 W1) (s : Same H H') : Rows6 H' R T1 W1 := ⟨h.l1, h.l2, fun i x y a b => let ⟨t, h1, h2⟩ := h.at_ i x y a b; ⟨t, h1, s _ _ h2⟩⟩
theorem Rows6.take (h : Rows6 H R T1 W1) (n : Nat) : Rows6 H (R.take n) (T1.take n) (W1.take n) := ⟨by rw [List.length_take, List.length_take, h.l1], by rw [List.length_take, List.length_take, h.l2], fun i x y a b => by
  have h1 := (List.getElem?_eq_some_iff.mp a).1
  rw [List.length_take] at h1
  rw [List.getElem?_take_of_lt (by omega)] at a b ⊢
  exact h.at_ i x y a b⟩
theorem Rows6.drop (h : Rows6 H R T1 W1) (n : Nat) : Rows6 H (R.drop n) (T1.drop n) (W1.drop n) := ⟨by rw [List.length_drop, List.length_drop, h.l1], by rw [List.length_drop, List.length_drop, h.l2], fun i x y a b => by
  rw [List.getElem?_drop] at a b ⊢
  exact h.at_ _ x y a b⟩
theorem Rows6.app (h : Rows6 H R T1 W1) (k : Rows6 H R2 T2 W2) : Rows6 H (R ++ R2) (T1 ++ T2) (W1 ++ W2) := ⟨by rw [List.length_append, List.length_append, h.l1, k.l1], by rw [List.length_append, List.length_append, h.l2, k.l2], fun i x y a b => by
  have e1 := h.l1
  have e2 := h.l2
  by_cases c : i < R.length
  · rw [List.getElem?_append_left (by omega)] at a b ⊢
    exact h.at_ i x y a b
  · rw [List.getElem?_append_right (by omega)] at a b ⊢
    rw [← e1] at a
    rw [← e2] at b
    exact k.at_ _ x y a b⟩
theorem Rows6.one {t : Addr} {x y : V} (h : H t = some (.tup [x, y])) : Rows6 H [.ref t] [x] [y] := ⟨rfl, rfl, fun i a b ha hb => by
  cases i with
  | zero =>
    cases Option.some.inj ha
    cases Option.some.inj hb
    exact ⟨t, rfl, h⟩
  | succ i => simp at ha⟩
theorem Rows6.nil : Rows6 H [] [] [] := ⟨rfl, rfl, fun i x y a => by simp at a⟩
end
abbrev sInput6 : Stmt := topS 29
theorem scInput6 : FnScope ["draws", "net", "order", "upper", "linked", "rank", "rows", "u", "v", "at", "row"] ["draws", "net", "order"] (defScope sInput6) := ⟨rfl, rfl, rfl, by decide +kernel, rfl, by decide +kernel, by decide +kernel⟩
/-- the told tuples and their ways -/
structure InAt (N : Net) (os : List Int) (H : Hp) (f1 w1 : Addr) (ts ws : List V) (L : List (Int × Int)) (W : List (List Int)) : Prop where
  ef : H f1 = some (.lst ts)
  ew : H w1 = some (.lst ws)
  tT : TupsAt H ts L
  tW : ListsAt H ws W
  perm : L.Perm (pairsL N.ls os)
  len : W.length = L.length
  way : AllW N os L W
  small : ∀ w ∈ W, w.length ≤ 100
def spInput6 (K : PySem.W.Frag) : Sp := fun vs H Q _ => ∃ (d po : Addr) (v : V) (N : Net) (os ds : List Int), vs = [.ref d, v, .ref po] ∧ SqL K H d (ds.map V.int) ∧ Dp K H v (netD N) ∧ NetOk N ∧ SqL K H po (os.map V.int) ∧ OrdOk N.n os ∧
  ∀ H' T f1 w1 ts ws L W, Same H H' → H' T = some (.tup [.ref f1, .ref w1]) → InAt N os H' f1 w1 ts ws L W → Q (.ref T) H'
section
variable {P : Program} {w : World} {K : PySem.W.Frag} {mg : Str → Option Value} {base : Heap}
theorem ok_input6 {f : Addr} {fd : FuncData} {k k1 k2 k3 k4 k5 : Nat} (l1 : k1 ≤ k) (l2 : k2 ≤ k) (l3 : k3 ≤ k) (l4 : k4 ≤ k) (l5 : k5 ≤ k) (F : Fun K "_law_input" "_law_input" sInput6 f fd) (c_law_upper : Kal P w K mg base k1 "_law_upper" ["net", "order"] (spUpperL K)) (c_law_linked : Kal P w K mg base k2 "_law_linked" ["net"] (spLinked K)) (c_law_rank : Kal P w K mg base k3 "_law_rank" ["order"] (spRankX K))
    (c_law_mix : Kal P w K mg base k4 "_law_mix" ["draws", "k", "many"] (spAt K)) (c_law_way : Kal P w K mg base k5 "_law_way" ["linked", "rank", "u", "v", "draws", "k"] (spLWay6 K)) (ml : mg "len" = none) : FnOk P w K mg base CX0 (k + 1) f fd ["draws", "net", "order"] (spInput6 K) := by
  refine F.ok scInput6 (fun vs H Q E h => ?_) (fun cdv A outer s H vs Q E hr h => ?_)
  · obtain ⟨d, po, v, N, os, ds, rfl, _⟩ := h
    rfl
  · obtain ⟨d, po, v, N, os, ds, rfl, hD, hN, ok, hS, oo, q⟩ := h
    have hu := hu_of hr
    refine ⟨_, pss_cons (ps_set (i := 3) scInput6.nd rfl (.inl rfl) (pe_k c_law_upper hr (by first | decide | omega) (by rfl) (pa_cons (pv 1) (pa_cons (pv 2) pa_nil))))
      (pss_cons (ps_set (i := 4) scInput6.nd rfl (.inl rfl) (pe_k c_law_linked hr (by first | decide | omega) (by rfl) (pa_cons (pv 1) pa_nil)))
      (pss_cons (ps_set (i := 5) scInput6.nd rfl (.inl rfl) (pe_k c_law_rank hr (by first | decide | omega) (by rfl) (pa_cons (pv 2) pa_nil)))
      (pss_cons (ps_set (i := 6) scInput6.nd rfl (.inl rfl) (pe_lst pa_nil))
      (pss_cons (ps_for PassesOwn.never rfl (pi_list (pv 2)) (pg_name (i := 7) scInput6.nd rfl (.inl rfl))
      (pss_one (ps_for PassesOwn.never rfl (pi_list (pe_dget hu (pv 3) (pv 7) (fun _ _ => rfl))) (pg_name (i := 8) scInput6.nd rfl (.inl rfl))
        (pss_cons (ps_set (i := 9) scInput6.nd rfl (.inl rfl) (pe_k c_law_mix hr (by first | decide | omega) (by rfl) (pa_cons (pv 0) (pa_cons (pe_op op_add pe_int (pe_callB call_len_seq (by rfl) ml PySem.boot_len (pa_cons (pv 6) pa_nil))) (pa_cons (pe_op op_add (pe_callB call_len_seq (by rfl) ml PySem.boot_len (pa_cons (pv 6) pa_nil)) pe_int) pa_nil)))))
          (pss_one (ps_set (i := 6) scInput6.nd rfl (.inl rfl) (pe_op op_cat (pe_op op_cat (pe_slice sl_list (pv 6) po_none (po_some (pv 9))) (pe_lst (pa_cons (pe_tup (pa_cons (pe_tup (pa_cons (pv 7) (pa_cons (pv 8) pa_nil))) (pa_cons (pe_k c_law_way hr (by first | decide | omega) (by rfl) (pa_cons (pv 4) (pa_cons (pv 5) (pa_cons (pv 7) (pa_cons (pv 8) (pa_cons (pv 0) (pa_cons (pe_op op_add (pe_op op_add pe_int (pe_op op_mul pe_int (pv 7))) (pv 8)) pa_nil))))))) pa_nil))) pa_nil))) (pe_slice sl_list (pv 6) (po_some (pv 9)) po_none))))))))
      (pss_one (ps_ret (pe_tup (pa_cons (pe_lc (own := [("row", 10)]) (g := gName 10) (tt := tYes) (te := (tOp (rIxT K) (tVar 10) (tC (.int 0)))) (by rfl) scInput6.nd (pi_list (pv 6)) (blkOk_by (own := [("row", 10)]) (N := ["draws", "net", "order", "upper", "linked", "rank", "rows", "u", "v", "at", "row"]) (sc := defScope sInput6) (by decide +kernel)) (fun _ _ _ _ _ => pg_name (i := 10) scInput6.nd rfl (Or.inl rfl)) (fun _ _ _ _ _ => by exact pts_nil) (fun _ _ _ _ _ => by exact (pe_ix ix_tup (pv 10) pe_int (fun _ _ => rfl)))) (pa_cons (pe_lc (own := [("row", 10)]) (g := gName 10) (tt := tYes) (te := (tOp (rIxT K) (tVar 10) (tC (.int 1)))) (by rfl) scInput6.nd (pi_list (pv 6)) (blkOk_by (own := [("row", 10)]) (N := ["draws", "net", "order", "upper", "linked", "rank", "rows", "u", "v", "at", "row"]) (sc := defScope sInput6) (by decide +kernel)) (fun _ _ _ _ _ => pg_name (i := 10) scInput6.nd rfl (Or.inl rfl)) (fun _ _ _ _ _ => by exact pts_nil) (fun _ _ _ _ _ => by exact (pe_ix ix_tup (pv 10) pe_int (fun _ _ => rfl)))) pa_nil))))))))), ?_⟩
    have n40 := ok.n40
    have n1 := ok.n1
    have ol := oo.len
    have plen := pairsL_len ok oo
    refine q_asgE ⟨v, rfl, .ref po, rfl, v, N, po, os, rfl, hN, ok, hS, oo, fun H1 up s1 hU => ?_⟩
    refine q_asgE ⟨v, rfl, v, N, rfl, Dp.to hN s1, ok, fun H2 lk s2 hL => ?_⟩
    have s02 := s1.trans s2
    refine q_asgE ⟨.ref po, rfl, po, os, rfl, s02.seq hS, oo.nodup, by omega, fun H3 rd s3 hR => ?_⟩
    have s03 := s02.trans s3
    obtain ⟨ku, hu1, hu2, hu3⟩ := (hU.to (s2.trans s3)).ex
    have hL3 := hL.to s3
    refine q_asgN (vn_lst va_nil (Nat.zero_le _)) fun r0 H4 s4 nr0 er0 => ?_
    have s04 := s03.trans s4
    refine q_forL (K := K) (j := 7) (xs := os.map V.int) (vl_var rfl) (s04.seq hS)
      (fun i σ H5 => ∃ ro y7 y8 y9 R T1 W1 L W, σ = [some (.ref d), some v, some (.ref po), some (.ref up), some (.ref lk), some (.ref rd), some (.ref ro), y7, y8, y9, none] ∧ Same H4 H5 ∧ H5 ro = some (.lst R) ∧ Rows6 H5 R T1 W1 ∧ TupsAt H5 T1 L ∧ ListsAt H5 W1 W ∧ L.Perm ((os.take i).flatMap fun u => (upP N.ls os u).map fun v => (u, v)) ∧ W.length = L.length ∧ AllW N os L W ∧ ∀ w ∈ W, w.length ≤ 100)
      ⟨r0, _, _, _, [], [], [], [], [], rfl, Same.refl _, er0, .nil, .nil, .nil, List.Perm.refl _, rfl, fun i u v w h => by simp at h, fun w h => (nomatch h)⟩ (fun i σ H5 hP => ?_) (fun i z σ H5 hi hP => ?_) (fun σ H5 hP => ?_)
    · obtain ⟨_, _, _, _, _, _, _, _, _, _, s5, _⟩ := hP
      exact (s04.trans s5).seq hS
    · obtain ⟨ro, y7, y8, y9, R, T1, W1, L, W, rfl, s5, ero, hRo, hT, hW, hpm, hwl, hall, hsm⟩ := hP
      rw [List.getElem?_map] at hi
      obtain ⟨u, hg, rfl⟩ := Option.map_eq_some_iff.mp hi
      have huo := List.mem_of_getElem? hg
      obtain ⟨ua, hua1, hua2⟩ := hu3 u huo
      have s35 := s4.trans s5
      refine g_forL (K := K) (j := 8) (xs := (upP N.ls os u).map V.int) (vl_dgetI (vl_var rfl) (vl_var rfl) (s35 _ _ hu1) hua1) (.of (s35 _ _ hua2))
        (fun j σ H6 => ∃ ro y8 y9 R T1 W1 L W, σ = [some (.ref d), some v, some (.ref po), some (.ref up), some (.ref lk), some (.ref rd), some (.ref ro), some (.int u), y8, y9, none] ∧ Same H4 H6 ∧ H6 ro = some (.lst R) ∧ Rows6 H6 R T1 W1 ∧ TupsAt H6 T1 L ∧ ListsAt H6 W1 W ∧ L.Perm (((os.take i).flatMap fun u => (upP N.ls os u).map fun v => (u, v)) ++ ((upP N.ls os u).take j).map fun v => (u, v)) ∧ W.length = L.length ∧ AllW N os L W ∧ ∀ w ∈ W, w.length ≤ 100)
        ⟨ro, _, _, R, T1, W1, L, W, rfl, s5, ero, hRo, hT, hW, by rw [List.take_zero, List.map_nil, List.append_nil]; exact hpm, hwl, hall, hsm⟩ (fun j σ H6 hP => ?_) (fun j z σ H6 hj hP => ?_) (fun σ H6 hP => ?_)
      · obtain ⟨_, _, _, _, _, _, _, _, _, s6, _⟩ := hP
        exact .of ((s4.trans s6) _ _ hua2)
      · obtain ⟨ro, y8, y9, R, T1, W1, L, W, rfl, s6, ero, hRo, hT, hW, hpm, hwl, hall, hsm⟩ := hP
        rw [List.getElem?_map] at hj
        obtain ⟨v', hgj, rfl⟩ := Option.map_eq_some_iff.mp hj
        have hpr : PairP N.ls os u v' := (mem_upP ok oo).mp (List.mem_of_getElem? hgj)
        have hpi := hpr.ins ok
        have RL : R.length = L.length := by rw [hRo.l1, hT.len]
        have Ll : L.length ≤ 1600 := by
          rw [hpm.length_eq]
          have e1 : pairsL N.ls os = ((os.take i).flatMap fun u => (upP N.ls os u).map fun v => (u, v)) ++ ((os.drop i).flatMap fun u => (upP N.ls os u).map fun v => (u, v)) := by
            unfold pairsL
            rw [← List.flatMap_append, List.take_append_drop]
          have e2 : os.drop i = u :: os.drop (i + 1) := by
            rw [List.drop_eq_getElem_cons (List.getElem?_eq_some_iff.mp hg).1]
            congr 1
            exact (List.getElem?_eq_some_iff.mp hg).2
          rw [e1, e2, List.length_append, List.flatMap_cons, List.length_append, List.length_map] at plen
          rw [List.length_append, List.length_map, List.length_take]
          omega
        have s46 := s04.trans s6
        have s36 := s4.trans s6
        -- at
        refine q_asgE ⟨.ref d, rfl, ?_⟩
        refine (vl_I0 (g := fun i j => .int (i + j)) (p := 300) (q := ((R.length : Nat) : Int)) vl_c (vl_lenL (K := K) (vl_var rfl) (.of ero))) _ ?_
        refine (vl_I0 (g := fun i j => .int (i + j)) (p := ((R.length : Nat) : Int)) (q := 1) (vl_lenL (K := K) (vl_var rfl) (.of ero)) vl_c) _ ?_
        refine ⟨d, ds, 300 + ((R.length : Nat) : Int), ((R.length : Nat) : Int) + 1, rfl, s46.seq hD, by omega, by omega, fun r hr => ?_⟩
        obtain ⟨at_, rfl⟩ := Int.eq_ofNat_of_zero_le hr.1
        have atl : at_ ≤ R.length := by omega
        -- rows
        refine g_asgE (ins_cat (K := K) (j1 := at_) (j2 := at_) (a := ro) (xs := R) (Good := fun x H' => ∃ (t t1 wa : Addr) (w' : List Int), x = .ref t ∧ H' t = some (.tup [.ref t1, .ref wa]) ∧ H' t1 = some (.tup [.int u, .int v']) ∧ H' wa = some (.lst (w'.map V.int)) ∧ IsWayP N os u v' w' ∧ w'.length ≤ 100) (fun x Ha Hb h s => ?_) (fun _ _ => vl_var rfl) (vl_var rfl) (fun _ _ => vl_var rfl) (.of ero) atl (by omega) (fun H7 s7 Q' q' => ?_) fun p' H8 x s8 np ep hx => ?_)
        · obtain ⟨t, t1, wa, w', h1, h2, h3, h4, h5⟩ := h
          exact ⟨t, t1, wa, w', h1, s _ _ h2, s _ _ h3, s _ _ h4, h5⟩
        · refine mk_row (u := u) (v := v') (vl_var rfl) (vl_var rfl) (fun H' s' => va_cons (vl_var rfl) (va_cons (vl_var rfl) (va_cons (vl_var rfl) (va_cons (vl_var rfl) (va_cons (vl_var rfl) (va_cons (vl_I0 (g := fun i j => .int (i + j)) (vl_I0 (g := fun i j => .int (i + j)) vl_c (vl_I vl_c (vl_var rfl) (.inl ⟨by decide, by decide⟩))) (vl_var rfl)) va_nil)))))) fun t1 H7a st1 et1 => ?_
          have sa := s7.trans st1
          refine ⟨lk, rd, d, N, os, ds, u, v', 200 + 3 * u + v', rfl, hL3.to (s36.trans sa), hR.to (s36.trans sa), ok, oo, hpr, (s46.trans sa).seq hD, by omega, fun H9 wa w' s9 nwa ewa hway hwl' _ => ?_⟩
          refine ⟨by show 2 ≤ sizeLine; decide, fun t nt => q' (.ref t) _ (st1.trans (s9.trans (same_upd nt))) ⟨t, t1, wa, w', rfl, upd_same, same_upd nt _ _ (s9 _ _ et1), same_upd nt _ _ ewa, hway, hwl'⟩⟩
        · obtain ⟨t, t1, wa, w', rfl, h1, h2, h3, h4, h5⟩ := hx
          have hT' := hT.to s8
          have hW' := hW.to s8
          have hR' := hRo.to s8
          refine ⟨p', _, _, _, T1.take at_ ++ [.ref t1] ++ T1.drop at_, W1.take at_ ++ [.ref wa] ++ W1.drop at_, L.take at_ ++ [(u, v')] ++ L.drop at_, W.take at_ ++ [w'] ++ W.drop at_, rfl, s6.trans s8, ep, ((hR'.take at_).app (Rows6.one h1)).app (hR'.drop at_), ((hT'.take at_).app (TupsAt.one h2)).app (hT'.drop at_), ((hW'.take at_).app (ListsAt.one h3)).app (hW'.drop at_), ?_, ?_, ?_, ?_⟩
          · rw [take_snoc hgj, List.map_append, ← List.append_assoc]
            exact ins_perm hpm at_
          · rw [List.length_append, List.length_append, List.length_append, List.length_append, List.length_take, List.length_take, List.length_drop, List.length_drop, hwl]
            rfl
          · refine ((hall.take at_).app (AllW.one h4) ?_).app (hall.drop at_) ?_
            · rw [List.length_take, List.length_take, hwl]
            · rw [List.length_append, List.length_append, List.length_take, List.length_take, hwl]
              rfl
          · intro z hz
            rcases List.mem_append.mp hz with hz | hz
            · rcases List.mem_append.mp hz with hz | hz
              · exact hsm z (List.mem_of_mem_take hz)
              · rw [List.mem_singleton.mp hz]
                exact h5
            · exact hsm z (List.mem_of_mem_drop hz)
      · obtain ⟨ro, y8, y9, R, T1, W1, L, W, rfl, s6, ero, hRo, hT, hW, hpm, hwl, hall, hsm⟩ := hP
        rw [List.length_map, List.take_length] at hpm
        refine ⟨ro, _, _, _, R, T1, W1, L, W, rfl, s6, ero, hRo, hT, hW, ?_, hwl, hall, hsm⟩
        rw [take_snoc hg, List.flatMap_append]
        have e : ([u].flatMap fun u => (upP N.ls os u).map fun v => (u, v)) = (upP N.ls os u).map fun v => (u, v) := by
          rw [List.flatMap_cons, List.flatMap_nil, List.append_nil]
        rw [e]
        exact hpm
    · obtain ⟨ro, y7, y8, y9, R, T1, W1, L, W, rfl, s5, ero, hRo, hT, hW, hpm, hwl, hall, hsm⟩ := hP
      rw [List.length_map, List.take_length] at hpm
      have hpm : L.Perm (pairsL N.ls os) := hpm
      have Ll : L.length ≤ 1600 := by rw [hpm.length_eq]; exact plen
      have r1 := hRo.l1
      have r2 := hRo.l2
      have r3 := hT.len
      refine ret_two (A := fun a H' => H' a = some (.lst T1)) (B := fun a H' => H' a = some (.lst W1)) (fun a Ha Hb h s => s _ _ h) (fun a Ha Hb h s => s _ _ h) (fun Q q => vn_lc (K := K) (xs := R) (ys := T1) (vx_list (vl_var rfl) (.of ero)) r1 (by omega) (fun i x y H' s' hx hy => ?_) _ fun f1 H6 s6 nf1 ef1 => q f1 H6 s6 ef1) (fun H1 s1 Q q => vn_lc (K := K) (xs := R) (ys := W1) (vx_list (vl_var rfl) (.of (s1 _ _ ero))) r2 (by omega) (fun i x y H' s' hx hy => ?_) _ fun f1 H6 s6 nf1 ef1 => q f1 H6 s6 ef1) fun T f1 w1 H7 s7 eT ef1 ew1 => ?_
      · have hil := (List.getElem?_eq_some_iff.mp hx).1
        have hg : W1[i]? = some (W1[i]'(by omega)) := List.getElem?_eq_getElem (by omega)
        obtain ⟨t, t1, t2⟩ := hRo.at_ i y _ hy hg
        cases hx.symm.trans t1
        exact ve_of (vl_ixT (K := K) (vl_var rfl) vl_c (.of (s' _ _ t2)) (atI_nat (j := 0) rfl))
      · have hil := (List.getElem?_eq_some_iff.mp hx).1
        have hg : T1[i]? = some (T1[i]'(by omega)) := List.getElem?_eq_getElem (by omega)
        obtain ⟨t, t1, t2⟩ := hRo.at_ i _ y hg hy
        cases hx.symm.trans t1
        exact ve_of (vl_ixT (K := K) (vl_var rfl) vl_c (.of ((s1.trans s') _ _ t2)) (atI_nat (j := 1) rfl))
      · exact q _ T f1 w1 T1 W1 L W (s04.trans (s5.trans s7)) eT ⟨ef1, ew1, hT.to s7, hW.to s7, hpm, hwl, hall, hsm⟩
end
section
variable {prog : Program} {w : World} {A : Around} {E : Value → Shared → Prop} {s : Shared}
/-- the places of [::-1] in a pair -/
theorem rev2_places {sl : Addr} {vs : Value} {Q : Int × Int × Nat → Shared → Prop} (slc : s.heap.IsSliceOf sl .none .none vs) (minus : IsPart vs (some (-1))) (goal_ : Q (1, -1, 2) s) : wpAny (model prog w) A (Builtin.Slice.sliceApplied (.ref sl) (pure ((2 : Nat) : Int))) Q E s := by
  obtain ⟨ob, look, _, data⟩ := id slc
  unfold Builtin.Slice.sliceApplied Builtin.Slice.sliceFields
  refine wpAny_bind (wpAny_bind (wpAny_field look data (x := .none) rfl (wpAny_bind (wpAny_field look data (x := .none) rfl (wpAny_bind (wpAny_field look data (x := vs) rfl (wpAny_pure (wpAny_bind (HT.slicePart_ minus ?_)))))))))
  dsimp only
  rw [if_neg (show ¬ (((some (-1 : Int)).getD 1 == 0) = true) by decide)]
  refine wpAny_bind (HT.slicePart_ .none (wpAny_bind (HT.slicePart_ .none (wpAny_bind (wpAny_pure ?_)))))
  exact wpAny_pure goal_
theorem rev2_get {t sl : Addr} {x y vs : Value} {Q : Value → Shared → Prop} (tup : IsTup s.heap t #[x, y]) (slc : s.heap.IsSliceOf sl .none .none vs) (minus : IsPart vs (some (-1)))
    (goal_ : Q (.ref s.heap.objs.size) { s with heap := s.heap.push { cls := .type "tuple", data := .seq #[y, x] } }) : wpAny (model prog w) A (getItem (.ref t) (.ref sl)) Q E s := by
  obtain ⟨ob, look, kind, data⟩ := id slc
  have small : sizeOk (.seq #[y, x]) := by
    show (2 : Nat) ≤ sizeLine
    decide
  unfold getItem
  try with_reducible refine wpAny_holding ?_
  first | refine wpAny_bind (wpAny_pure ?_) | skip
  refine wpAny_bind (wpAny_sequenceKey tup.typeIs (by decide) (wpAny_bind (wpAny_callSpecial?_slot (name := Str.ofString "__getitem__") tup.typeIs PyProof.Rows.slot_tuple_getitem (wpAny_call_entry PyProof.Rows.slot_tuple_getitem tup.typeIs PyProof.Rows.entry_tuple_getitem ?_ (PyProof.Rows.args_tuple_getitem _ _)))))
  refine wpAny_bind (m := Builtin.Tuple.tupleItemsOf (.ref t)) (tupleItemsOf_ tup (wpAny_bind (wpAny_typeOf ⟨ob, look, kind⟩ ?_)))
  rw [if_pos (by decide)]
  refine wpAny_bind (rev2_places slc minus ?_)
  show wpAny _ _ (if ((1 : Int) == 0 && (-1 : Int) == 1 && (2 : Nat) == 2) = true then _ else _) _ _ s
  rw [if_neg (by decide)]
  have pick : ((List.range 2).filterMap fun (k : Nat) => (#[x, y] : Array Value)[((1 : Int) + (k : Int) * -1).toNat]?).toArray = #[y, x] := by
    rw [show List.range 2 = [0, 1] from rfl]
    rfl
  rw [pick]
  first
    | exact wpAny_bind (m := Builtin.Tuple.tupleExact _) (wpAny_newObj_type (wpAny_pure ⟨_, rfl, wpAny_pure goal_⟩) small)
    | exact wpAny_bind (m := Builtin.Tuple.tupleExact _) (wpAny_newObj_type (wpAny_bind (wpAny_pure (wpAny_pure ⟨_, rfl, wpAny_pure goal_⟩))) small)
    | exact wpAny_bind (wpAny_bind (m := Builtin.Tuple.tupleExact _) (wpAny_newObj_type (wpAny_pure (wpAny_pure ⟨_, rfl, wpAny_pure goal_⟩)) small))
    | exact wpAny_bind (wpAny_bind (m := Builtin.Tuple.tupleExact _) (wpAny_newObj_type (wpAny_pure ⟨_, rfl, wpAny_pure goal_⟩) small))
end
theorem two_vals {x y : V} {its : List Value} (r : Vals [x, y] its) : ∃ i1 i2, its = [i1, i2] ∧ RelV x i1 ∧ RelV y i2 := by
  cases r with
  | cons a r =>
    cases r with
    | cons b r =>
      cases r
      exact ⟨_, _, rfl, a, b⟩
/-- t[::-1], t a pair -/
def tRevT (K : PySem.W.Frag) (te : TE) : TE := fun σ H Q => te σ H fun v H1 => ∃ a x y, v = .ref a ∧ SqT K H1 a [x, y] ∧ ∀ p, H1 p = none → Q (.ref p) (upd H1 p (.tup [y, x]))
theorem pe_revT {X : Cx} {e : Expr} {te : TE} {k : Nat} {p1 p2 p3 pos : Pos} (sub : PE X e te) : PE X (.Subscript e (.Slice none none (some (.UnaryOp .USub (.Constant (.int 1) k p1) p2)) p3) pos) (tRevT X.K te) := by
  refine ⟨fun pins s σ H Q I want => Subscript_ (thn (sub.run pins s σ H _ I want) fun v s1 ⟨x0, H1, I1, r1, q1⟩ => ?_)⟩
  obtain ⟨a, x, y, ex, hx, q⟩ := q1
  subst ex
  cases r1
  have part : PO X (some (.UnaryOp .USub (.Constant (.int 1) k p1) p2)) (tPart (tUn (rU fun i => .int (-i)) (tC (.int 1)))) := po_some (pe_un un_neg pe_int)
  refine wpAny_Slice (thn (po_none.run pins s1 σ H1 (fun o Ha => o = none ∧ Ha = H1) I1 ⟨rfl, rfl⟩) fun vl s2 ⟨l, H2, I2, pl, el, e2⟩ => ?_)
  cases el
  cases e2
  refine thn (po_none.run pins s2 σ H1 (fun o Ha => o = none ∧ Ha = H1) I2 ⟨rfl, rfl⟩) fun vu s3 ⟨u, H3, I3, pu, eu, e3⟩ => ?_
  cases eu
  cases e3
  refine thn (part.run pins s3 σ H1 (fun o Ha => o = some (-1) ∧ Ha = H1) I3 ⟨1, rfl, -1, rfl, rfl, rfl⟩) fun vs s4 ⟨o, H4, I4, ps, eo, e4⟩ => ?_
  cases eo
  cases e4
  have J : Inv X pins σ H1 { s4 with heap := s4.heap.push { cls := .type "slice", data := .fields #[vl, vu, vs] } } := I4.kept (t' := s4.toks) fun b ob look => Heap.get?_push_of_some _ look
  obtain ⟨its, r, tup, sz⟩ := J.tuple hx
  cases pl
  cases pu
  obtain ⟨i1, i2, ei, c1, c2⟩ := two_vals r
  subst ei
  have tup : IsTup (s4.heap.push { cls := .type "slice", data := .fields #[.none, .none, vs] }) a #[i1, i2] := tup
  show wpAny (model X.prog X.w) X.A (subscriptTail e (.Slice none none (some (.UnaryOp .USub (.Constant (.int 1) k p1) p2)) p3) (.ref a) (.ref s4.heap.objs.size)) (EP X pins σ Q) X.xe { s4 with heap := s4.heap.push { cls := .type "slice", data := .fields #[.none, .none, vs] } }
  refine tail_any (ops := [.ref a, .ref s4.heap.objs.size]) tup.typeIs PyProof.Rows.slot_tuple_getitem.lookup ?_ (by with_unfolding_all rfl)
  refine rev2_get tup (Heap.IsSliceOf.new _ .none .none vs) ps ⟨.ref _, _, J.laid (t' := s4.toks) (o := .tup [y, x]) (fun b ob look => Heap.get?_push_of_some _ look) (Nat.le_refl _) ?_, rfl, q _ (J.hok.fresh (Nat.le_refl _))⟩
  exact ⟨by show 2 ≤ sizeLine; decide, _, .cons c2 (.cons c1 .nil), IsTup.new _ _⟩
/-! ### the law's spoilt input -/
def Sm (x : Int) : Prop := 0 ≤ x ∧ x ≤ 100
def TLm (H : Hp) (ts : List V) : Prop := ∃ L : List (Int × Int), TupsAt H ts L ∧ L.length ≤ 2000 ∧ ∀ p ∈ L, Sm p.1 ∧ Sm p.2
def TL (f : Addr) (H : Hp) : Prop := ∃ ts, H f = some (.lst ts) ∧ TLm H ts
def WLm (H : Hp) (ws : List V) : Prop := ∃ W : List (List Int), ListsAt H ws W ∧ W.length ≤ 2000 ∧ ∀ w ∈ W, w.length ≤ 200 ∧ ∀ x ∈ w, Sm x
def WL (f : Addr) (H : Hp) : Prop := ∃ ws, H f = some (.lst ws) ∧ WLm H ws
theorem TL.to {f : Addr} {H H' : Hp} (h : TL f H) (s : Same H H') : TL f H' := by
  obtain ⟨ts, e, L, h1, h2, h3⟩ := h
  exact ⟨ts, s _ _ e, L, h1.to s, h2, h3⟩
theorem WL.to {f : Addr} {H H' : Hp} (h : WL f H) (s : Same H H') : WL f H' := by
  obtain ⟨ts, e, L, h1, h2, h3⟩ := h
  exact ⟨ts, s _ _ e, L, h1.to s, h2, h3⟩
section
variable {H H' : Hp} {ts ws : List V} {L : List (Int × Int)} {W : List (List Int)}
theorem mem_cut {α : Type} {xs : List α} {j1 j2 : Nat} {z : α} (h : z ∈ xs.take j1 ++ xs.drop j2) : z ∈ xs := (List.mem_append.mp h).elim List.mem_of_mem_take List.mem_of_mem_drop
theorem mem_ins {α : Type} {xs : List α} {j1 j2 : Nat} {z x : α} (h : z ∈ xs.take j1 ++ [x] ++ xs.drop j2) : z ∈ xs ∨ z = x := by
  rcases List.mem_append.mp h with h | h
  · rcases List.mem_append.mp h with h | h
    · exact .inl (List.mem_of_mem_take h)
    · exact .inr (List.mem_singleton.mp h)
  · exact .inl (List.mem_of_mem_drop h)
theorem len_ins {α : Type} {xs : List α} {j1 j2 : Nat} {x : α} (h : xs.length ≤ 900) : (xs.take j1 ++ [x] ++ xs.drop j2).length ≤ 2000 := by
  rw [List.length_append, List.length_append, List.length_take, List.length_drop]
  show _ + 1 + _ ≤ 2000
  omega
theorem len_cut {α : Type} {xs : List α} {j1 j2 : Nat} (h : xs.length ≤ 900) : (xs.take j1 ++ xs.drop j2).length ≤ 2000 := by
  rw [List.length_append, List.length_take, List.length_drop]
  omega
theorem tl_ins {t : Addr} {a b : Int} (h : TupsAt H ts L) (hl : L.length ≤ 900) (hs : ∀ p ∈ L, Sm p.1 ∧ Sm p.2) (s : Same H H') (ht : H' t = some (.tup [.int a, .int b])) (sa : Sm a) (sb : Sm b) (j1 j2 : Nat) : TLm H' (ts.take j1 ++ [.ref t] ++ ts.drop j2) :=
  ⟨L.take j1 ++ [(a, b)] ++ L.drop j2, (((h.to s).take j1).app (TupsAt.one ht)).app ((h.to s).drop j2), len_ins hl, fun p hp => (mem_ins hp).elim (hs p) fun e => by rw [e]; exact ⟨sa, sb⟩⟩
theorem tl_cut (h : TupsAt H ts L) (hl : L.length ≤ 900) (hs : ∀ p ∈ L, Sm p.1 ∧ Sm p.2) (s : Same H H') (j1 j2 : Nat) : TLm H' (ts.take j1 ++ ts.drop j2) := ⟨L.take j1 ++ L.drop j2, ((h.to s).take j1).app ((h.to s).drop j2), len_cut hl, fun p hp => hs p (mem_cut hp)⟩
theorem wl_ins {t : Addr} {w : List Int} (h : ListsAt H ws W) (hl : W.length ≤ 900) (hs : ∀ w ∈ W, w.length ≤ 200 ∧ ∀ x ∈ w, Sm x) (s : Same H H') (ht : H' t = some (.lst (w.map V.int))) (sw : w.length ≤ 200 ∧ ∀ x ∈ w, Sm x) (j1 j2 : Nat) : WLm H' (ws.take j1 ++ [.ref t] ++ ws.drop j2) :=
  ⟨W.take j1 ++ [w] ++ W.drop j2, (((h.to s).take j1).app (ListsAt.one ht)).app ((h.to s).drop j2), len_ins hl, fun p hp => (mem_ins hp).elim (hs p) fun e => by rw [e]; exact sw⟩
theorem wl_cut (h : ListsAt H ws W) (hl : W.length ≤ 900) (hs : ∀ w ∈ W, w.length ≤ 200 ∧ ∀ x ∈ w, Sm x) (s : Same H H') (j1 j2 : Nat) : WLm H' (ws.take j1 ++ ws.drop j2) := ⟨W.take j1 ++ W.drop j2, ((h.to s).take j1).app ((h.to s).drop j2), len_cut hl, fun p hp => hs p (mem_cut hp)⟩
end
section
variable {K : PySem.W.Frag} {σ : L2.St} {H : Hp} {ta te : TE}
/-- xs + [x] -/
theorem app_cat {a : Addr} {xs : List V} {x : V} {Q : VK} (ha : Vl ta σ H (.ref a)) (hx : H a = some (.lst xs)) (he : Vl te σ H x) (hz : xs.length ≤ 100000) (k : ∀ p H', Same H H' → H' p = some (.lst (xs ++ [x])) → Q (.ref p) H') : tOp rCat ta (tLst (tCons te tNil)) σ H Q :=
  ha _ (he _ ⟨by show 1 ≤ sizeLine; decide, fun b nb => ⟨a, b, xs, [x], rfl, rfl, same_upd nb _ _ hx, upd_same, Nat.le_trans (show xs.length + 1 ≤ 1000000 by omega) (by decide), fun p np => k p _ ((same_upd nb).trans (same_upd np)) upd_same⟩⟩)
/-- [x] + xs -/
theorem cons_cat {a : Addr} {xs : List V} {x : V} {Q : VK} (he : Vl te σ H x) (ha : ∀ H', Same H H' → Vl ta σ H' (.ref a)) (hx : H a = some (.lst xs)) (hz : xs.length ≤ 100000) (k : ∀ p H', Same H H' → H' p = some (.lst (x :: xs)) → Q (.ref p) H') : tOp rCat (tLst (tCons te tNil)) ta σ H Q :=
  he _ ⟨by show 1 ≤ sizeLine; decide, fun b nb => ha _ (same_upd nb) _ ⟨b, a, [x], xs, rfl, rfl, upd_same, same_upd nb _ _ hx, Nat.le_trans (show 1 + xs.length ≤ 1000000 by omega) (by decide), fun p np => k p _ ((same_upd nb).trans (same_upd np)) upd_same⟩⟩
end
abbrev sSpoilt6 : Stmt := topS 30
theorem scSpoilt6 : FnScope ["draws", "k", "size", "found", "ways", "word", "place", "other", "turned", "way"] ["draws", "k", "size", "found", "ways"] (defScope sSpoilt6) := ⟨rfl, rfl, rfl, by decide +kernel, rfl, by decide +kernel, by decide +kernel⟩
def spSpoilt6 (K : PySem.W.Frag) : Sp := fun vs H Q _ => ∃ (d f1 w1 : Addr) (ds : List Int) (k n : Int) (ts ws : List V) (L : List (Int × Int)) (W : List (List Int)), vs = [.ref d, .int k, .int n, .ref f1, .ref w1] ∧ SqL K H d (ds.map V.int) ∧ 0 ≤ k ∧ 1 ≤ n ∧ n ≤ 40 ∧ H f1 = some (.lst ts) ∧ H w1 = some (.lst ws) ∧ TupsAt H ts L ∧ ListsAt H ws W ∧ L.length ≤ 900 ∧ W.length = L.length ∧
  (∀ p ∈ L, Sm p.1 ∧ Sm p.2) ∧ (∀ w ∈ W, 1 ≤ w.length ∧ w.length ≤ 100 ∧ ∀ x ∈ w, Sm x) ∧ ∀ H' T f2 w2, Same H H' → H' T = some (.tup [.ref f2, .ref w2]) → TL f2 H' → WL w2 H' → Q (.ref T) H'
section
variable {P : Program} {w : World} {K : PySem.W.Frag} {mg : Str → Option Value} {base : Heap}
theorem ok_spoilt6 {f : Addr} {fd : FuncData} {k0 : Nat} (F : Fun K "_law_spoilt" "_law_spoilt" sSpoilt6 f fd) (c_law_mix : Kal P w K mg base k0 "_law_mix" ["draws", "k", "many"] (spAt K)) (ml : mg "len" = none) (mL : mg "list" = none) : FnOk P w K mg base CX0 (k0 + 1) f fd ["draws", "k", "size", "found", "ways"] (spSpoilt6 K) := by
  refine F.ok scSpoilt6 (fun vs H Q E h => ?_) (fun cdv A outer s H vs Q E hr h => ?_)
  · obtain ⟨d, f1, w1, ds, k, n, ts, ws, L, W, rfl, _⟩ := h
    rfl
  · obtain ⟨d, f1, w1, ds, k, n, ts, ws, L, W, rfl, hD, hk, n1, n40, ef, ew, hT, hW, hLl, hWl, hLs, hWs, q⟩ := h
    have hu := hu_of hr
    refine ⟨_, pss_cons (ps_set (i := 5) scSpoilt6.nd rfl (.inl rfl) (pe_k c_law_mix hr (by first | decide | omega) (by rfl) (pa_cons (pv 0) (pa_cons (pv 1) (pa_cons pe_int pa_nil)))))
      (pss_cons (ps_set (i := 6) scSpoilt6.nd rfl (.inl rfl) (pe_k c_law_mix hr (by first | decide | omega) (by rfl) (pa_cons (pv 0) (pa_cons (pe_op op_add (pv 1) pe_int) (pa_cons (pe_op op_add (pe_callB call_len_seq (by rfl) ml PySem.boot_len (pa_cons (pv 3) pa_nil)) pe_int) pa_nil)))))
      (pss_cons (ps_set (i := 7) scSpoilt6.nd rfl (.inl rfl) (pe_tup (pa_cons (pe_k c_law_mix hr (by first | decide | omega) (by rfl) (pa_cons (pv 0) (pa_cons (pe_op op_add (pv 1) pe_int) (pa_cons (pe_op op_add (pv 2) pe_int) pa_nil)))) (pa_cons (pe_k c_law_mix hr (by first | decide | omega) (by rfl) (pa_cons (pv 0) (pa_cons (pe_op op_add (pv 1) pe_int) (pa_cons (pv 2) pa_nil)))) pa_nil))))
      (pss_cons (ps_if (pt_cmpR op_eq (pv 5) pe_int (nomark _))
      (pss_one (ps_ret (pe_tup (pa_cons (pe_op op_cat (pe_slice sl_list (pv 3) po_none (po_some (pv 6))) (pe_slice sl_list (pv 3) (po_some (pe_op op_add (pv 6) pe_int)) po_none)) (pa_cons (pe_op op_cat (pe_slice sl_list (pv 4) po_none (po_some (pv 6))) (pe_slice sl_list (pv 4) (po_some (pe_op op_add (pv 6) pe_int)) po_none)) pa_nil)))))
      pss_nil)
      (pss_cons (ps_if (pt_cmpR op_eq (pv 5) pe_int (nomark _))
      (pss_one (ps_ret (pe_tup (pa_cons (pe_op op_cat (pe_op op_cat (pe_slice sl_list (pv 3) po_none (po_some (pv 6))) (pe_lst (pa_cons (pv 7) pa_nil))) (pe_slice sl_list (pv 3) (po_some (pv 6)) po_none)) (pa_cons (pe_op op_cat (pe_op op_cat (pe_slice sl_list (pv 4) po_none (po_some (pv 6))) (pe_lst (pa_cons (pe_callTy call_list_of (by rfl) mL (by decide +kernel) (pa_cons (pv 7) pa_nil)) pa_nil))) (pe_slice sl_list (pv 4) (po_some (pv 6)) po_none)) pa_nil)))))
      pss_nil)
      (pss_cons (ps_if (PW.pt (pw_and (pt_cmpR op_eq (pv 5) pe_int (nomark _)) (pw_and1 (pt_cmpR op_lt (pv 6) (pe_callB call_len_seq (by rfl) ml PySem.boot_len (pa_cons (pv 3) pa_nil)) (nomark _)))))
      (pss_cons (ps_set (i := 8) scSpoilt6.nd rfl (.inl rfl) (pe_op op_cat (pe_op op_cat (pe_slice sl_list (pv 3) po_none (po_some (pv 6))) (pe_lst (pa_cons (pe_revT (pe_ix ix_list (pv 3) (pv 6) (fun _ _ => rfl))) pa_nil))) (pe_slice sl_list (pv 3) (po_some (pe_op op_add (pv 6) pe_int)) po_none)))
        (pss_one (ps_ret (pe_tup (pa_cons (pv 8) (pa_cons (pe_op op_cat (pe_op op_cat (pe_slice sl_list (pv 4) po_none (po_some (pv 6))) (pe_lst (pa_cons (pe_revL (pe_ix ix_list (pv 4) (pv 6) (fun _ _ => rfl))) pa_nil))) (pe_slice sl_list (pv 4) (po_some (pe_op op_add (pv 6) pe_int)) po_none)) pa_nil))))))
      pss_nil)
      (pss_cons (ps_if (PW.pt (pw_and (pt_cmpR op_eq (pv 5) pe_int (nomark _)) (pw_and1 (pt_cmpR op_lt (pv 6) (pe_callB call_len_seq (by rfl) ml PySem.boot_len (pa_cons (pv 3) pa_nil)) (nomark _)))))
      (pss_one (ps_ret (pe_tup (pa_cons (pe_op op_cat (pv 3) (pe_lst (pa_cons (pe_ix ix_list (pv 3) (pv 6) (fun _ _ => rfl)) pa_nil))) (pa_cons (pe_op op_cat (pv 4) (pe_lst (pa_cons (pe_ix ix_list (pv 4) (pv 6) (fun _ _ => rfl)) pa_nil))) pa_nil)))))
      pss_nil)
      (pss_cons (ps_if (PW.pt (pw_and (pt_cmpR op_eq (pv 5) pe_int (nomark _)) (pw_and1 (pt_cmpR op_lt (pv 6) (pe_callB call_len_seq (by rfl) ml PySem.boot_len (pa_cons (pv 3) pa_nil)) (nomark _)))))
      (pss_cons (ps_set (i := 9) scSpoilt6.nd rfl (.inl rfl) (pe_callTy call_list_of (by rfl) mL (by decide +kernel) (pa_cons (pe_ix ix_list (pv 4) (pv 6) (fun _ _ => rfl)) pa_nil)))
        (pss_cons (ps_asg (pe_ix ix_tup (pv 7) pe_int (fun _ _ => rfl)) (pg_sub (pv 9) (pe_k c_law_mix hr (by first | decide | omega) (by rfl) (pa_cons (pv 0) (pa_cons (pe_op op_add (pv 1) pe_int) (pa_cons (pe_callB call_len_seq (by rfl) ml PySem.boot_len (pa_cons (pv 9) pa_nil)) pa_nil)))) set_list))
        (pss_one (ps_ret (pe_tup (pa_cons (pv 3) (pa_cons (pe_op op_cat (pe_op op_cat (pe_slice sl_list (pv 4) po_none (po_some (pv 6))) (pe_lst (pa_cons (pv 9) pa_nil))) (pe_slice sl_list (pv 4) (po_some (pe_op op_add (pv 6) pe_int)) po_none)) pa_nil)))))))
      pss_nil)
      (pss_cons (ps_if (PW.pt (pw_and (pt_cmpR op_eq (pv 5) pe_int (nomark _)) (pw_and1 (pt_cmpR op_lt (pv 6) (pe_callB call_len_seq (by rfl) ml PySem.boot_len (pa_cons (pv 3) pa_nil)) (nomark _)))))
      (pss_one (ps_ret (pe_tup (pa_cons (pv 3) (pa_cons (pe_op op_cat (pe_op op_cat (pe_slice sl_list (pv 4) po_none (po_some (pv 6))) (pe_lst (pa_cons (pe_op op_cat (pe_lst (pa_cons (pe_ix ix_list (pe_ix ix_list (pv 4) (pv 6) (fun _ _ => rfl)) pe_int (fun _ _ => rfl)) pa_nil)) (pe_ix ix_list (pv 4) (pv 6) (fun _ _ => rfl))) pa_nil))) (pe_slice sl_list (pv 4) (po_some (pe_op op_add (pv 6) pe_int)) po_none)) pa_nil)))))
      pss_nil)
      (pss_cons (ps_if (pt_cmpR op_eq (pv 5) pe_int (nomark _))
      (pss_one (ps_ret (pe_tup (pa_cons (pv 3) (pa_cons (pe_op op_cat (pe_slice sl_list (pv 4) po_none (po_some (pv 6))) (pe_slice sl_list (pv 4) (po_some (pe_op op_add (pv 6) pe_int)) po_none)) pa_nil)))))
      pss_nil)
      (pss_cons (ps_if (pt_cmpR op_eq (pv 5) pe_int (nomark _))
      (pss_one (ps_ret (pe_tup (pa_cons (pv 3) (pa_cons (pe_op op_cat (pe_slice sl_list (pv 4) (po_some (pv 6)) po_none) (pe_slice sl_list (pv 4) po_none (po_some (pv 6)))) pa_nil)))))
      pss_nil)
      (pss_one (ps_ret (pe_tup (pa_cons (pv 3) (pa_cons (pv 4) pa_nil))))))))))))))), ?_⟩
    have tl := hT.len
    have wlen := hW.len
    have hWs' : ∀ w ∈ W, w.length ≤ 200 ∧ ∀ x ∈ w, Sm x := fun w hw => ⟨Nat.le_trans (hWs w hw).2.1 (by decide), (hWs w hw).2.2⟩
    have W9 : W.length ≤ 900 := by omega
    have tls : ∀ {H' : Hp}, Same H H' → TL f1 H' := fun s => TL.to ⟨ts, ef, L, hT, by omega, hLs⟩ s
    have wls : ∀ {H' : Hp}, Same H H' → WL w1 H' := fun s => WL.to ⟨ws, ew, W, hW, by omega, hWs'⟩ s
    have cA : ∀ {σ : L2.St} {H1 : Hp}, Same H H1 → σ[3]? = some (some (V.ref f1)) → ∀ Q : VK, (∀ a H2, Same H1 H2 → TL a H2 → Q (.ref a) H2) → tVar 3 σ H1 Q := fun s e Q q => ⟨_, e, q f1 _ (Same.refl _) (tls s)⟩
    have cB : ∀ {σ : L2.St} {H1 : Hp}, Same H H1 → σ[4]? = some (some (V.ref w1)) → ∀ Q : VK, (∀ a H2, Same H1 H2 → WL a H2 → Q (.ref a) H2) → tVar 4 σ H1 Q := fun s e Q q => ⟨_, e, q w1 _ (Same.refl _) (wls s)⟩
    have mA : ∀ a H1 H2, TL a H1 → Same H1 H2 → TL a H2 := fun a H1 H2 h s => h.to s
    have mB : ∀ a H1 H2, WL a H1 → Same H1 H2 → WL a H2 := fun a H1 H2 h s => h.to s
    refine q_asgE ⟨.ref d, rfl, .int k, rfl, d, ds, k, 9, rfl, hD, hk, by decide, fun wd _ => ?_⟩
    refine q_asgE ⟨.ref d, rfl, ?_⟩
    refine (vl_I0 (g := fun i j => .int (i + j)) (p := k) (q := 1) (vl_var rfl) vl_c) _ ?_
    refine (vl_I0 (g := fun i j => .int (i + j)) (p := ((ts.length : Nat) : Int)) (q := 1) (vl_lenL (K := K) (vl_var rfl) (.of ef)) vl_c) _ ?_
    refine ⟨d, ds, k + 1, ((ts.length : Nat) : Int) + 1, rfl, hD, by omega, by omega, fun r hr => ?_⟩
    obtain ⟨pl, rfl⟩ := Int.eq_ofNat_of_zero_le hr.1
    have pll : pl ≤ ts.length := by omega
    -- other
    refine q_asgE ⟨.ref d, rfl, ?_⟩
    refine (vl_I0 (g := fun i j => .int (i + j)) (p := k) (q := 2) (vl_var rfl) vl_c) _ ?_
    refine (vl_I0 (g := fun i j => .int (i + j)) (p := n) (q := 1) (vl_var rfl) vl_c) _ ?_
    refine ⟨d, ds, k + 2, n + 1, rfl, hD, by omega, by omega, fun o1 ho1 => ?_⟩
    refine ⟨.ref d, rfl, ?_⟩
    refine (vl_I0 (g := fun i j => .int (i + j)) (p := k) (q := 3) (vl_var rfl) vl_c) _ ?_
    refine ⟨.int n, rfl, d, ds, k + 3, n, rfl, hD, by omega, by omega, fun o2 ho2 => ?_⟩
    refine ⟨by show 2 ≤ sizeLine; decide, fun to_ nto => ?_⟩
    have s1 := same_upd (o := .tup [.int o1, .int o2]) nto
    have eto := upd_same (H := H) (a := to_) (o := .tup [.int o1, .int o2])
    have so1 : Sm o1 := ⟨ho1.1, by omega⟩
    have so2 : Sm o2 := ⟨ho2.1, by omega⟩
    generalize upd H to_ (.tup [.int o1, .int o2]) = H1 at s1 eto
    have fin : ∀ {H2 H3 : Hp} {T a b : Addr}, Same H H2 → Same H2 H3 → H3 T = some (.tup [.ref a, .ref b]) → TL a H3 → WL b H3 → Q (.ref T) H3 := fun {H2 H3 T a b} s s' e ha hb => q H3 T a b (s.trans s') e ha hb
    have delA : ∀ {H2 : Hp}, Same H H2 → ∀ Q : VK, (∀ a H3, Same H2 H3 → TL a H3 → Q (.ref a) H3) → ∀ p H', Same H2 H' → H' p = some (.lst (ts.take pl ++ ts.drop (pl + 1))) → Q (.ref p) H' := fun {H2} s Q q p H' s' e => q p H' s' ⟨_, e, tl_cut hT hLl hLs (s.trans s') pl (pl + 1)⟩
    have delB : ∀ {H2 : Hp}, Same H H2 → ∀ Q : VK, (∀ a H3, Same H2 H3 → WL a H3 → Q (.ref a) H3) → ∀ p H', Same H2 H' → H' p = some (.lst (ws.take pl ++ ws.drop (pl + 1))) → Q (.ref p) H' := fun {H2} s Q q p H' s' e => q p H' s' ⟨_, e, wl_cut hW W9 hWs' (s.trans s') pl (pl + 1)⟩
    have pl1 : ∀ σ : L2.St, ∀ H', σ[6]? = some (some (V.int (pl : Nat))) → Vl (tOp (rI0 fun i j => .int (i + j)) (tVar 6) (tC (.int 1))) σ H' (.int ((pl + 1 : Nat) : Int)) := fun σ H' e => (vl_I0 (g := fun i j => .int (i + j)) (p := ((pl : Nat) : Int)) (q := 1) (vl_var e) vl_c).is (by rfl)
    -- 0
    refine q_when (b := decide (V.int wd = V.int 0)) (an_test (vl_eq (vl_var rfl) vl_c rfl)) (fun _ => ?_) (fun _ => ?_)
    · refine ret_two (A := TL) (B := WL) mA mB (fun Q' q' => del_cat (K := K) (j1 := pl) (j2 := pl + 1) (a := f1) (xs := ts) (fun _ _ => vl_var rfl) (vl_var rfl) (fun _ _ => pl1 _ _ rfl) (.of (s1 _ _ ef)) pll (by omega) fun p H' s' np e => delA s1 Q' q' p H' s' e)
        (fun H2 s2 Q' q' => del_cat (K := K) (j1 := pl) (j2 := pl + 1) (a := w1) (xs := ws) (fun _ _ => vl_var rfl) (vl_var rfl) (fun _ _ => pl1 _ _ rfl) (.of ((s1.trans s2) _ _ ew)) (by omega) (by omega) fun p H' s' np e => delB (s1.trans s2) Q' q' p H' s' e)
        fun T a b H3 s3 e ha hb => fin s1 s3 e ha hb
    -- 1
    refine q_when (b := decide (V.int wd = V.int 1)) (an_test (vl_eq (vl_var rfl) vl_c rfl)) (fun _ => ?_) (fun _ => ?_)
    · refine ret_two (A := TL) (B := WL) mA mB (fun Q' q' => ins_cat (K := K) (j1 := pl) (j2 := pl) (a := f1) (xs := ts) (Good := fun x H' => x = .ref to_ ∧ H' to_ = some (.tup [.int o1, .int o2])) (fun x Ha Hb h s => ⟨h.1, s _ _ h.2⟩) (fun _ _ => vl_var rfl) (vl_var rfl) (fun _ _ => vl_var rfl) (.of (s1 _ _ ef)) pll (by omega) (fun H2 s2 Q2 q2 => ⟨.ref to_, rfl, q2 _ H2 (Same.refl _) ⟨rfl, s2 _ _ eto⟩⟩) fun p H' x s' np e hx => ?_)
        (fun H2 s2 Q' q' => ins_cat (K := K) (j1 := pl) (j2 := pl) (a := w1) (xs := ws) (Good := fun x H' => ∃ a, x = .ref a ∧ H' a = some (.lst (([o1, o2] : List Int).map V.int))) (fun x Ha Hb h s => let ⟨a, e1, e2⟩ := h; ⟨a, e1, s _ _ e2⟩) (fun _ _ => vl_var rfl) (vl_var rfl) (fun _ _ => vl_var rfl) (.of ((s1.trans s2) _ _ ew)) (by omega) (by omega) (fun H3 s3 Q2 q2 => ⟨.ref to_, rfl, to_, _, rfl, .inr (.of ((s2.trans s3) _ _ eto)), fun l nl => q2 (.ref l) _ (same_upd nl) ⟨l, rfl, upd_same⟩⟩) fun p H' x s' np e hx => ?_)
        fun T a b H3 s3 e ha hb => fin s1 s3 e ha hb
      · obtain ⟨rfl, hx⟩ := hx
        exact q' p H' s' ⟨_, e, tl_ins hT hLl hLs (s1.trans s') hx so1 so2 pl pl⟩
      · obtain ⟨a, rfl, hx⟩ := hx
        refine q' p H' s' ⟨_, e, wl_ins hW W9 hWs' (s1.trans (s2.trans s')) hx ⟨by show 2 ≤ 200; decide, fun z hz => ?_⟩ pl pl⟩
        rcases List.mem_cons.mp hz with h | h
        · rw [h]
          exact so1
        · rw [List.mem_singleton.mp h]
          exact so2
    -- 2
    refine q_when (b := decide (V.int wd = V.int 2) && decide (((pl : Nat) : Int) < ((ts.length : Nat) : Int))) (an_and (an_test (vl_eq (vl_var rfl) vl_c rfl)) fun _ => an_test (vl_I0 (g := fun i j => .bl (decide (i < j))) (vl_var rfl) (vl_lenL (K := K) (vl_var rfl) (.of (s1 _ _ ef))))) (fun hb => ?_) (fun _ => ?_)
    · rw [Bool.and_eq_true, decide_eq_true_eq, decide_eq_true_eq] at hb
      have hgL : L[pl]? = some (L[pl]'(by omega)) := List.getElem?_eq_getElem (by omega)
      have hgW : W[pl]? = some (W[pl]'(by omega)) := List.getElem?_eq_getElem (by omega)
      generalize L[pl]'(by omega) = pz at hgL
      generalize W[pl]'(by omega) = wz at hgW
      obtain ⟨u, v⟩ := pz
      obtain ⟨t0, t1, t2⟩ := hT.at_ pl u v hgL
      obtain ⟨wa, w1', w2'⟩ := hW.at_ pl wz hgW
      have su := hLs _ (List.mem_of_getElem? hgL)
      have sw := hWs' _ (List.mem_of_getElem? hgW)
      refine q_asgE (ins_cat (K := K) (j1 := pl) (j2 := pl + 1) (a := f1) (xs := ts) (Good := fun x H' => ∃ t, x = .ref t ∧ H' t = some (.tup [.int v, .int u])) (fun x Ha Hb h s => let ⟨a, e1, e2⟩ := h; ⟨a, e1, s _ _ e2⟩) (fun _ _ => vl_var rfl) (vl_var rfl) (fun _ _ => pl1 _ _ rfl) (.of (s1 _ _ ef)) pll (by omega) (fun H2 s2 Q2 q2 => (vl_ixL (K := K) (vl_var rfl) (vl_var rfl) (.of ((s1.trans s2) _ _ ef)) (atI_nat t1)) _ ⟨t0, .int u, .int v, rfl, .of ((s1.trans s2) _ _ t2), fun p np => q2 (.ref p) _ (same_upd np) ⟨p, rfl, upd_same⟩⟩) fun p8 H8 x s8 np e hx => ?_)
      obtain ⟨tn, rfl, hx⟩ := hx
      have s18 := s1.trans s8
      have t8 : TL p8 H8 := ⟨_, e, tl_ins hT hLl hLs s18 hx su.2 su.1 pl (pl + 1)⟩
      refine ret_two (A := TL) (B := WL) mA mB (fun Q' q' => ⟨.ref p8, rfl, q' p8 H8 (Same.refl _) t8⟩)
        (fun H2 s2 Q' q' => ins_cat (K := K) (j1 := pl) (j2 := pl + 1) (a := w1) (xs := ws) (Good := fun x H' => ∃ a, x = .ref a ∧ H' a = some (.lst (wz.reverse.map V.int))) (fun x Ha Hb h s => let ⟨a, e1, e2⟩ := h; ⟨a, e1, s _ _ e2⟩) (fun _ _ => vl_var rfl) (vl_var rfl) (fun _ _ => pl1 _ _ rfl) (.of ((s18.trans s2) _ _ ew)) (by omega) (by omega) (fun H3 s3 Q2 q2 => (vl_ixL (K := K) (vl_var rfl) (vl_var rfl) (.of ((s18.trans (s2.trans s3)) _ _ ew)) (atI_nat w1')) _ ⟨wa, wz.map V.int, rfl, .of ((s18.trans (s2.trans s3)) _ _ w2'), fun l nl => q2 (.ref l) _ (same_upd nl) ⟨l, rfl, by rw [upd_same, List.map_reverse]⟩⟩) fun p H' x s' np e hx => ?_)
        fun T a b H3 s3 e ha hb => fin s18 s3 e ha hb
      obtain ⟨a, rfl, hx⟩ := hx
      exact q' p H' s' ⟨_, e, wl_ins hW W9 hWs' (s18.trans (s2.trans s')) hx ⟨by rw [List.length_reverse]; exact sw.1, fun z hz => sw.2 z (List.mem_reverse.mp hz)⟩ pl (pl + 1)⟩
    -- 3
    refine q_when (b := decide (V.int wd = V.int 3) && decide (((pl : Nat) : Int) < ((ts.length : Nat) : Int))) (an_and (an_test (vl_eq (vl_var rfl) vl_c rfl)) fun _ => an_test (vl_I0 (g := fun i j => .bl (decide (i < j))) (vl_var rfl) (vl_lenL (K := K) (vl_var rfl) (.of (s1 _ _ ef))))) (fun hb => ?_) (fun _ => ?_)
    · rw [Bool.and_eq_true, decide_eq_true_eq, decide_eq_true_eq] at hb
      have hgL : L[pl]? = some (L[pl]'(by omega)) := List.getElem?_eq_getElem (by omega)
      have hgW : W[pl]? = some (W[pl]'(by omega)) := List.getElem?_eq_getElem (by omega)
      generalize L[pl]'(by omega) = pz at hgL
      generalize W[pl]'(by omega) = wz at hgW
      obtain ⟨u, v⟩ := pz
      obtain ⟨t0, t1, t2⟩ := hT.at_ pl u v hgL
      obtain ⟨wa, w1', w2'⟩ := hW.at_ pl wz hgW
      refine ret_two (A := TL) (B := WL) mA mB (fun Q' q' => app_cat (a := f1) (xs := ts) (x := .ref t0) (vl_var rfl) (s1 _ _ ef) (vl_ixL (K := K) (vl_var rfl) (vl_var rfl) (.of (s1 _ _ ef)) (atI_nat t1)) (by omega) fun p H' s' e => q' p H' s' ⟨_, e, L ++ [(u, v)], (hT.to (s1.trans s')).app (TupsAt.one ((s1.trans s') _ _ t2)), by rw [List.length_append]; show L.length + 1 ≤ 2000; omega, fun z hz => (List.mem_append.mp hz).elim (hLs z) fun e => by rw [List.mem_singleton.mp e]; exact hLs _ (List.mem_of_getElem? hgL)⟩)
        (fun H2 s2 Q' q' => app_cat (a := w1) (xs := ws) (x := .ref wa) (vl_var rfl) ((s1.trans s2) _ _ ew) (vl_ixL (K := K) (vl_var rfl) (vl_var rfl) (.of ((s1.trans s2) _ _ ew)) (atI_nat w1')) (by omega) fun p H' s' e => q' p H' s' ⟨_, e, W ++ [wz], (hW.to (s1.trans (s2.trans s'))).app (ListsAt.one ((s1.trans (s2.trans s')) _ _ w2')), by rw [List.length_append]; show W.length + 1 ≤ 2000; omega, fun z hz => (List.mem_append.mp hz).elim (hWs' z) fun e => by rw [List.mem_singleton.mp e]; exact hWs' _ (List.mem_of_getElem? hgW)⟩)
        fun T a b H3 s3 e ha hb => fin s1 s3 e ha hb
    -- 4
    refine q_when (b := decide (V.int wd = V.int 4) && decide (((pl : Nat) : Int) < ((ts.length : Nat) : Int))) (an_and (an_test (vl_eq (vl_var rfl) vl_c rfl)) fun _ => an_test (vl_I0 (g := fun i j => .bl (decide (i < j))) (vl_var rfl) (vl_lenL (K := K) (vl_var rfl) (.of (s1 _ _ ef))))) (fun hb => ?_) (fun _ => ?_)
    · rw [Bool.and_eq_true, decide_eq_true_eq, decide_eq_true_eq] at hb
      have hgW : W[pl]? = some (W[pl]'(by omega)) := List.getElem?_eq_getElem (by omega)
      generalize W[pl]'(by omega) = wz at hgW
      obtain ⟨wa, w1', w2'⟩ := hW.at_ pl wz hgW
      have sw0 := hWs _ (List.mem_of_getElem? hgW)
      refine q_asgE ((vl_ixL (K := K) (vl_var rfl) (vl_var rfl) (.of (s1 _ _ ew)) (atI_nat w1')) _ ⟨wa, _, rfl, .inl (.of (s1 _ _ w2')), fun y ny => ?_⟩)
      have sy := same_upd (o := .lst (wz.map V.int)) ny
      have ey := upd_same (H := H1) (a := y) (o := .lst (wz.map V.int))
      refine (vl_ixT (K := K) (vl_var rfl) vl_c (.of (sy _ _ eto)) (atI_nat (j := 0) rfl)) _ ?_
      refine ⟨.ref y, rfl, .ref d, rfl, ?_⟩
      refine (vl_I0 (g := fun i j => .int (i + j)) (p := k) (q := 2) (vl_var rfl) vl_c) _ ?_
      refine (vl_lenI (K := K) (ns := wz) (vl_var rfl) (.of ey)) _ ?_
      refine ⟨d, ds, k + 2, ((wz.length : Nat) : Int), rfl, (s1.trans sy).seq hD, by omega, by omega, fun r2 hr2 => ?_⟩
      obtain ⟨j, rfl⟩ := Int.eq_ofNat_of_zero_le hr2.1
      refine ⟨y, wz.map V.int, ((j : Nat) : Int), j, rfl, rfl, ey, ?_, ?_⟩
      · unfold ixN
        rw [List.length_map, if_pos (by omega), if_pos (by omega), Int.toNat_natCast]
      · have s2y : Same H1 (upd (upd H1 y (.lst (wz.map V.int))) y (.lst ((wz.map V.int).set j (.int o1)))) := same_upd' sy ny
        have e2y : upd (upd H1 y (.lst (wz.map V.int))) y (.lst ((wz.map V.int).set j (.int o1))) y = some (.lst ((wz.set j o1).map V.int)) := by
          rw [upd_same, List.map_set]
        generalize upd (upd H1 y (.lst (wz.map V.int))) y (.lst ((wz.map V.int).set j (.int o1))) = H2 at s2y e2y
        have s12 := s1.trans s2y
        refine ret_two (A := TL) (B := WL) mA mB (cA s12 rfl)
          (fun H3 s3 Q' q' => ins_cat (K := K) (j1 := pl) (j2 := pl + 1) (a := w1) (xs := ws) (Good := fun x H' => x = .ref y ∧ H' y = some (.lst ((wz.set j o1).map V.int))) (fun x Ha Hb h s => ⟨h.1, s _ _ h.2⟩) (fun _ _ => vl_var rfl) (vl_var rfl) (fun _ _ => pl1 _ _ rfl) (.of ((s12.trans s3) _ _ ew)) (by omega) (by omega) (fun H4 s4 Q2 q2 => ⟨.ref y, rfl, q2 _ H4 (Same.refl _) ⟨rfl, (s3.trans s4) _ _ e2y⟩⟩) fun p H' x s' np e hx => ?_)
          fun T a b H3 s3 e ha hb => fin s12 s3 e ha hb
        obtain ⟨rfl, hx⟩ := hx
        refine q' p H' s' ⟨_, e, wl_ins hW W9 hWs' (s12.trans (s3.trans s')) hx ⟨by rw [List.length_set]; exact Nat.le_trans sw0.2.1 (by decide), fun z hz => ?_⟩ pl (pl + 1)⟩
        rcases List.mem_or_eq_of_mem_set hz with h | h
        · exact sw0.2.2 z h
        · rw [h]
          exact so1
    -- 5
    refine q_when (b := decide (V.int wd = V.int 5) && decide (((pl : Nat) : Int) < ((ts.length : Nat) : Int))) (an_and (an_test (vl_eq (vl_var rfl) vl_c rfl)) fun _ => an_test (vl_I0 (g := fun i j => .bl (decide (i < j))) (vl_var rfl) (vl_lenL (K := K) (vl_var rfl) (.of (s1 _ _ ef))))) (fun hb => ?_) (fun _ => ?_)
    · rw [Bool.and_eq_true, decide_eq_true_eq, decide_eq_true_eq] at hb
      have hgW : W[pl]? = some (W[pl]'(by omega)) := List.getElem?_eq_getElem (by omega)
      generalize W[pl]'(by omega) = wz at hgW
      obtain ⟨wa, w1', w2'⟩ := hW.at_ pl wz hgW
      have sw0 := hWs _ (List.mem_of_getElem? hgW)
      have hg0 : wz[0]? = some (wz[0]'(by omega)) := List.getElem?_eq_getElem (by omega)
      generalize wz[0]'(by omega) = w0 at hg0
      refine ret_two (A := TL) (B := WL) mA mB (cA s1 rfl)
        (fun H2 s2 Q' q' => ins_cat (K := K) (j1 := pl) (j2 := pl + 1) (a := w1) (xs := ws) (Good := fun x H' => ∃ a, x = .ref a ∧ H' a = some (.lst ((w0 :: wz).map V.int))) (fun x Ha Hb h s => let ⟨a, e1, e2⟩ := h; ⟨a, e1, s _ _ e2⟩) (fun _ _ => vl_var rfl) (vl_var rfl) (fun _ _ => pl1 _ _ rfl) (.of ((s1.trans s2) _ _ ew)) (by omega) (by omega) (fun H3 s3 Q2 q2 => cons_cat (a := wa) (xs := wz.map V.int) (x := .int w0) (vl_ixI (K := K) (j := 0) (ns := wz) (a := wa) (vl_ixL (K := K) (vl_var rfl) (vl_var rfl) (.of ((s1.trans (s2.trans s3)) _ _ ew)) (atI_nat w1')) vl_c (.of ((s1.trans (s2.trans s3)) _ _ w2')) hg0) (fun H4 s4 => vl_ixL (K := K) (vl_var rfl) (vl_var rfl) (.of ((s1.trans (s2.trans (s3.trans s4))) _ _ ew)) (atI_nat w1')) ((s1.trans (s2.trans s3)) _ _ w2') (by rw [List.length_map]; omega) fun p H' s' e => q2 (.ref p) H' s' ⟨p, rfl, e⟩) fun p H' x s' np e hx => ?_)
        fun T a b H3 s3 e ha hb => fin s1 s3 e ha hb
      obtain ⟨a, rfl, hx⟩ := hx
      refine q' p H' s' ⟨_, e, wl_ins hW W9 hWs' (s1.trans (s2.trans s')) hx ⟨by show wz.length + 1 ≤ 200; omega, fun z hz => ?_⟩ pl (pl + 1)⟩
      rcases List.mem_cons.mp hz with h | h
      · rw [h]
        exact sw0.2.2 w0 (List.mem_of_getElem? hg0)
      · exact sw0.2.2 z h
    -- 6
    refine q_when (b := decide (V.int wd = V.int 6)) (an_test (vl_eq (vl_var rfl) vl_c rfl)) (fun _ => ?_) (fun _ => ?_)
    · refine ret_two (A := TL) (B := WL) mA mB (cA s1 rfl)
        (fun H2 s2 Q' q' => del_cat (K := K) (j1 := pl) (j2 := pl + 1) (a := w1) (xs := ws) (fun _ _ => vl_var rfl) (vl_var rfl) (fun _ _ => pl1 _ _ rfl) (.of ((s1.trans s2) _ _ ew)) (by omega) (by omega) fun p H' s' np e => delB (s1.trans s2) Q' q' p H' s' e)
        fun T a b H3 s3 e ha hb => fin s1 s3 e ha hb
    -- 7
    refine q_when (b := decide (V.int wd = V.int 7)) (an_test (vl_eq (vl_var rfl) vl_c rfl)) (fun _ => ?_) (fun _ => ?_)
    · refine ret_two (A := TL) (B := WL) mA mB (cA s1 rfl)
        (fun H2 s2 Q' q' => rot_cat (K := K) (j := pl) (a := w1) (xs := ws) (fun _ _ => vl_var rfl) (fun _ _ => vl_var rfl) (.of ((s1.trans s2) _ _ ew)) (by omega) (by omega) fun p H' s' np e => q' p H' s' ⟨_, e, W.drop pl ++ W.take pl, ((hW.to (s1.trans (s2.trans s'))).drop pl).app ((hW.to (s1.trans (s2.trans s'))).take pl), by rw [List.length_append, List.length_take, List.length_drop]; omega, fun z hz => hWs' z ((List.mem_append.mp hz).elim List.mem_of_mem_drop List.mem_of_mem_take)⟩)
        fun T a b H3 s3 e ha hb => fin s1 s3 e ha hb
    · exact ret_two (A := TL) (B := WL) mA mB (cA s1 rfl) (fun H2 s2 => cB (s1.trans s2) rfl) fun T a b H3 s3 e ha hb => fin s1 s3 e ha hb
end
/-! ### what the law of the check of pairs needs -/
theorem nd_flat6 {f : Int → List Int} (hf : ∀ u, (f u).Nodup) : ∀ us : List Int, us.Nodup → (us.flatMap fun u => (f u).map fun v => (u, v)).Nodup
  | [], _ => List.nodup_nil
  | u :: us, h => by
    obtain ⟨n1, n2⟩ := List.nodup_cons.mp h
    rw [List.flatMap_cons]
    refine List.nodup_append.mpr ⟨List.Pairwise.map _ (fun a b hab e => hab (congrArg Prod.snd e)) (hf u), nd_flat6 hf us n2, fun a ha b hb e => ?_⟩
    subst e
    obtain ⟨v, _, rfl⟩ := List.mem_map.mp ha
    obtain ⟨z, hz, hv⟩ := List.mem_flatMap.mp hb
    obtain ⟨y, _, e⟩ := List.mem_map.mp hv
    have e1 : z = u := congrArg Prod.fst e
    rw [e1] at hz
    exact n1 hz
theorem pairs_nd6 {n : Int} {ls : List Lnk} {os : List Int} (oo : OrdOk n os) : (pairsL ls os).Nodup := by
  unfold pairsL
  exact nd_flat6 (fun u => List.Pairwise.filter _ oo.nodup) os oo.nodup
theorem pairs_len6 {N : Net} {os : List Int} (ok : NetOk N) (oo : OrdOk N.n os) : (pairsL N.ls os).length ≤ os.length * 40 := by
  unfold pairsL
  generalize os = xs at oo ⊢
  have h : ∀ ys : List Int, (ys.flatMap fun u => (upP N.ls xs u).map fun v => (u, v)).length ≤ ys.length * 40 := by
    intro ys
    induction ys with
    | nil => exact Nat.zero_le _
    | cons y r ih =>
      rw [List.flatMap_cons, List.length_append, List.length_map, List.length_cons, Nat.succ_mul]
      have hu := up_len (u := y) ok oo
      omega
  exact h xs
section
variable {N : Net} {os : List Int} {L : List (Int × Int)} {W : List (List Int)} {u v : Int} {w : List Int} {H H' : Hp} {ts ws : List V} {f1 w1 : Addr}
/-- a way lies in the net -/
theorem IsWayP.ins6 (ok : NetOk N) (h : IsWayP N os u v w) : ∀ x ∈ w, 0 ≤ x ∧ x < N.n := fun x hx => by
  obtain ⟨i, hi⟩ := List.mem_iff_getElem?.mp hx
  have il := (List.getElem?_eq_some_iff.mp hi).1
  have l2 := h.len
  by_cases c : i + 1 < w.length
  · have hg : w[i + 1]? = some (w[i + 1]'c) := List.getElem?_eq_getElem c
    exact (adj0_in ok (h.adj i _ _ hi hg)).1
  · obtain ⟨j, rfl⟩ : ∃ j, i = j + 1 := ⟨i - 1, by omega⟩
    have hg : w[j]? = some (w[j]'(by omega)) := List.getElem?_eq_getElem (by omega)
    exact (adj0_in ok (h.adj j _ _ hg hi)).2.1
theorem InAt.to6 (h : InAt N os H f1 w1 ts ws L W) (s : Same H H') : InAt N os H' f1 w1 ts ws L W := ⟨s _ _ h.ef, s _ _ h.ew, h.tT.to s, h.tW.to s, h.perm, h.len, h.way, h.small⟩
theorem InAt.nd6 (oo : OrdOk N.n os) (h : InAt N os H f1 w1 ts ws L W) : L.Nodup := h.perm.nodup_iff.mpr (pairs_nd6 oo)
theorem InAt.mem6 (ok : NetOk N) (oo : OrdOk N.n os) (h : InAt N os H f1 w1 ts ws L W) : (u, v) ∈ L ↔ PairP N.ls os u v := h.perm.mem_iff.trans (mem_pairsL ok oo)
theorem InAt.due6 (ok : NetOk N) (oo : OrdOk N.n os) (h : InAt N os H f1 w1 ts ws L W) : DueP N os L W := due_of ok oo h.len (h.nd6 oo) (fun u v => h.mem6 ok oo) h.way
theorem InAt.len6 (ok : NetOk N) (oo : OrdOk N.n os) (h : InAt N os H f1 w1 ts ws L W) (hn : N.n ≤ 8) : L.length ≤ 320 := by
  have h1 := pairs_len6 ok oo
  have h2 := h.perm.length_eq
  have ol := oo.len
  have n1 := ok.n1
  omega
theorem InAt.sm6 (ok : NetOk N) (oo : OrdOk N.n os) (h : InAt N os H f1 w1 ts ws L W) : ∀ p ∈ L, Sm p.1 ∧ Sm p.2 := fun p hp => by
  have hi := ((h.mem6 (u := p.1) (v := p.2) ok oo).mp hp).ins ok
  have n40 := ok.n40
  exact ⟨⟨hi.1.1, by omega⟩, ⟨hi.2.1, by omega⟩⟩
theorem InAt.smw6 (ok : NetOk N) (h : InAt N os H f1 w1 ts ws L W) : ∀ w ∈ W, 1 ≤ w.length ∧ w.length ≤ 100 ∧ ∀ x ∈ w, Sm x := fun w hw => by
  obtain ⟨i, hi⟩ := List.mem_iff_getElem?.mp hw
  have il := (List.getElem?_eq_some_iff.mp hi).1
  have hg : L[i]? = some (L[i]'(by rw [← h.len]; exact il)) := List.getElem?_eq_getElem _
  have hway := h.way i _ _ _ hg hi
  have hl := hway.len
  have n40 := ok.n40
  exact ⟨by omega, h.small w hw, fun x hx => by
    have := hway.ins6 ok x hx
    exact ⟨this.1, by omega⟩⟩
/-! sorted pairs -/
def kP6 (H : Hp) : V → Int × Int
  | .ref t => (match H t with
    | some (.tup [.int a, .int b]) => (a, b)
    | _ => (0, 0))
  | _ => (0, 0)
theorem kP6_at {t : Addr} {a b : Int} (h : H t = some (.tup [.int a, .int b])) : kP6 H (.ref t) = (a, b) := by
  show (match H t with | some (.tup [.int a, .int b]) => (a, b) | _ => (0, 0)) = (a, b)
  rw [h]
theorem TupsAt.ref6 (h : TupsAt H ts L) {x : V} (hx : x ∈ ts) : ∃ t, x = V.ref t ∧ H t = some (.tup [.int (kP6 H x).1, .int (kP6 H x).2]) := by
  obtain ⟨i, hi⟩ := List.mem_iff_getElem?.mp hx
  have il : i < L.length := by rw [← h.len]; exact (List.getElem?_eq_some_iff.mp hi).1
  have hg : L[i]? = some (L[i]'il) := List.getElem?_eq_getElem il
  obtain ⟨t, h1, h2⟩ := h.at_ i (L[i]'il).1 (L[i]'il).2 hg
  cases hi.symm.trans h1
  exact ⟨t, rfl, by rw [kP6_at h2]; exact h2⟩
theorem TupsAt.keys6 (h : TupsAt H ts L) : ts.map (kP6 H) = L := by
  refine List.ext_getElem (by rw [List.length_map, h.len]) fun i h1 h2 => ?_
  have hg : L[i]? = some (L[i]'h2) := List.getElem?_eq_getElem h2
  obtain ⟨t, e1, e2⟩ := h.at_ i (L[i]'h2).1 (L[i]'h2).2 hg
  have e3 := (List.getElem?_eq_some_iff.mp e1).2
  rw [List.getElem_map, e3, kP6_at e2]
theorem tups_of6 : ∀ {ys : List V}, (∀ x ∈ ys, ∃ t, x = V.ref t ∧ H t = some (.tup [.int (kP6 H x).1, .int (kP6 H x).2])) → TupsAt H ys (ys.map (kP6 H)) := fun {ys} h => ⟨by rw [List.length_map], fun i u v e => by
  rw [List.getElem?_map] at e
  obtain ⟨y, hy, ey⟩ := Option.map_eq_some_iff.mp e
  obtain ⟨t, e1, e2⟩ := h y (List.mem_of_getElem? hy)
  subst e1
  rw [ey] at e2
  exact ⟨t, hy, e2⟩⟩
def Lx6 (p q : Int × Int) : Prop := SrtO.lexB q p = false
theorem lx6_anti (p q : Int × Int) (h : Lx6 p q) (k : Lx6 q p) : p = q := by
  have n1 := SrtO.lexB_no.mp h
  have n2 := SrtO.lexB_no.mp k
  exact Prod.ext (by omega) (by omega)
theorem sort6 {ys : List V} (h : TupsAt H ts L) (h1 : SrtO.Srtd (ltP (kP6 H)) ys) (h2 : SrtO.Stb (ltP (kP6 H)) ys ts) : ∃ M : List (Int × Int), M.Perm L ∧ M.Pairwise Lx6 ∧ TupsAt H ys M := by
  refine ⟨ys.map (kP6 H), ?_, List.pairwise_map.mpr h1, tups_of6 fun x hx => h.ref6 (h2.perm.mem_iff.mp hx)⟩
  have e := h2.perm.map (kP6 H)
  rw [h.keys6] at e
  exact e
theorem same6 {M M' L' : List (Int × Int)} (h1 : M.Perm L) (h2 : M.Pairwise Lx6) (h3 : M'.Perm L') (h4 : M'.Pairwise Lx6) (h5 : L'.Perm L) : M = M' := List.Perm.eq_of_pairwise (fun a b _ _ => lx6_anti a b) h2 h4 (h1.trans (h3.trans h5).symm)
end
/-! sizes of texts -/
theorem len_sm {x : Int} (h : Sm x) : (PyData.int x).shown.length ≤ 10 := shown_int h.1 (by have := h.2; omega)
theorem shows_sm {x : Int} (h : Sm x) : (PyData.int x).showable = true := showable_int h.1 (by have := h.2; omega)
theorem lay_pairs6 (L : List (Int × Int)) : PyData.canLayAll0 (L.map pairD2) = true ∧ PyData.depthAll (L.map pairD2) ≤ 1 := by
  induction L with
  | nil => exact ⟨rfl, Nat.zero_le _⟩
  | cons x r ih =>
    constructor
    · show (true && PyData.canLayAll0 (r.map pairD2)) = true
      rw [ih.1]
      rfl
    · show max (max 0 (max 0 0) + 1) (PyData.depthAll (r.map pairD2)) ≤ 1
      have := ih.2
      omega
theorem lay_lists6 (W : List (List Int)) : PyData.canLayAll0 (W.map fun w => .list (w.map PyData.int)) = true ∧ PyData.depthAll (W.map fun w => .list (w.map PyData.int)) ≤ 1 := by
  induction W with
  | nil => exact ⟨rfl, Nat.zero_le _⟩
  | cons w r ih =>
    have h := lay_ints w
    constructor
    · show (PyData.canLayAll0 (w.map PyData.int) && PyData.canLayAll0 (r.map fun w => .list (w.map PyData.int))) = true
      rw [h.1, ih.1]
      rfl
    · show max (PyData.depthAll (w.map PyData.int) + 1) (PyData.depthAll (r.map fun w => .list (w.map PyData.int))) ≤ 1
      rw [h.2]
      have := ih.2
      omega
theorem showOk_list6 {ds : List PyData} {m k : Nat} (h : ∀ d ∈ ds, d.shown.length ≤ m ∧ d.showable = true) (lay : PyData.canLayAll0 ds = true ∧ PyData.depthAll ds ≤ 1) (hk : ds.length * (m + 2) + 2 ≤ k) : ShowOk (.list ds) k := by
  have p := piled_le (ds := ds) (m := m) fun d hd => (h d hd).1
  have q := listText_le (PyData.shownAll ds)
  refine ⟨showable_all fun d hd => (h d hd).2, PyData.hasDict_of_canLay _ lay.1, ?_, ?_⟩
  · show PyData.depthAll ds + 1 ≤ 10
    have := lay.2
    omega
  · show (listText (PyData.shownAll ds)).length ≤ k
    omega
theorem showOk_tups6 {L : List (Int × Int)} (h : ∀ p ∈ L, Sm p.1 ∧ Sm p.2) (hl : L.length ≤ 2000) : ShowOk (.list (L.map pairD2)) 5000000 := by
  refine showOk_list6 (m := 28) (fun d hd => ?_) (lay_pairs6 L) (by rw [List.length_map]; omega)
  obtain ⟨p, hp, rfl⟩ := List.mem_map.mp hd
  have hs := h p hp
  constructor
  · show (tupleText (PyData.shownAll [.int p.1, .int p.2])).length ≤ 28
    have a := tupleText_le (PyData.shownAll [.int p.1, .int p.2])
    have b := piled_le (ds := [.int p.1, .int p.2]) (m := 10) (fun d hd => by
      rcases List.mem_cons.mp hd with rfl | hd
      · exact len_sm hs.1
      · rw [List.mem_singleton.mp hd]
        exact len_sm hs.2)
    have e : ([.int p.1, .int p.2] : List PyData).length = 2 := rfl
    rw [e] at b
    omega
  · show PyData.showableAll [.int p.1, .int p.2] = true
    refine showable_all fun d hd => ?_
    rcases List.mem_cons.mp hd with rfl | hd
    · exact shows_sm hs.1
    · rw [List.mem_singleton.mp hd]
      exact shows_sm hs.2
theorem showOk_lists6 {W : List (List Int)} (h : ∀ w ∈ W, w.length ≤ 200 ∧ ∀ x ∈ w, Sm x) (hl : W.length ≤ 2000) : ShowOk (.list (W.map fun w => .list (w.map PyData.int))) 5000000 := by
  refine showOk_list6 (m := 2402) (fun d hd => ?_) (lay_lists6 W) (by rw [List.length_map]; omega)
  obtain ⟨w, hw, rfl⟩ := List.mem_map.mp hd
  have hs := h w hw
  have q := listText_le (PyData.shownAll (w.map PyData.int))
  have p := piled_le (ds := w.map PyData.int) (m := 10) (fun d hd => by
    obtain ⟨x, hx, rfl⟩ := List.mem_map.mp hd
    exact len_sm (hs.2 x hx))
  rw [List.length_map] at p
  constructor
  · show (listText (PyData.shownAll (w.map PyData.int))).length ≤ 2402
    omega
  · refine showable_all fun d hd => ?_
    obtain ⟨x, hx, rfl⟩ := List.mem_map.mp hd
    exact shows_sm (hs.2 x hx)
theorem shaped_tups6 (L : List (Int × Int)) : SeqAt.shaped (.list (L.map pairD2)) = true := by
  have h := lay_pairs6 L
  show (PyData.canLayAll0 (L.map pairD2) && decide (PyData.depthAll (L.map pairD2) + 1 ≤ 64)) = true
  rw [h.1]
  have := h.2
  exact decide_eq_true (by omega)
section
variable {K : PySem.W.Frag} {σ : L2.St} {H : Hp} {tl : TE}
/-- [list(w) for w in ws] -/
theorem lc_lists6 {j : Nat} {a : Addr} {ws : List V} {W : List (List Int)} (hv : ∀ x, ((σ.set j none).set j (some x))[j]? = some (some x)) (ha : Vl tl σ H (.ref a)) (hx : H a = some (.lst ws)) (hW : ListsAt H ws W) (hz : W.length ≤ 10000) (Q : VK) (q : ∀ D H' zs, Same H H' → H' D = some (.lst zs) → ListsAt H' zs W → Q (.ref D) H') :
    tLc (iList K tl) (gName j) tYes (tCB (fun xs H Q => ∃ p ys, xs = [V.ref p] ∧ (SqL K H p ys ∨ SqT K H p ys) ∧ ∀ l, H l = none → Q (V.ref l) (L2.upd H l (HO.lst ys))) (tCons (tVar j) tNil)) [j] σ H Q := by
  refine ha _ ⟨a, rfl, ⟨_, .of hx⟩, fun D nD => lc_list (K := K) (a := a) (xs := ws) (fun k H' => ∃ zs, H' D = some (.lst zs) ∧ Same H H' ∧ ListsAt (but H' D) zs (W.take k)) ⟨[], upd_same, same_upd nD, ListsAt.nil⟩ (fun k H' _ hP => .of (hP.choose_spec.2.1 _ _ hx)) (fun k x H' hk hP => ?_) (fun H' hP => ?_)⟩
  · obtain ⟨zs, hD, s', hT⟩ := hP
    have kl : k < W.length := by
      rw [← hW.len]
      exact (List.getElem?_eq_some_iff.mp hk).1
    have hg : W[k]? = some (W[k]'kl) := List.getElem?_eq_getElem kl
    generalize W[k]'kl = w at hg
    obtain ⟨wa, e1, e2⟩ := hW.at_ k w hg
    cases hk.symm.trans e1
    refine ⟨?_, iteT (B := ∃ zs, H' D = some (.lst zs) ∧ Same H H' ∧ ListsAt (but H' D) zs (W.take (k + 1))) ⟨_, hv _, wa, w.map V.int, rfl, .inl (.of (s' _ _ e2)), fun l nl => ⟨zs, same_upd nl _ _ hD, ?_, zs ++ [.ref l], upd_same, same_upd' (s'.trans (same_upd nl)) nD, ?_⟩⟩⟩
    · show ((σ.set j none).set j (some (V.ref wa))).set j none = σ.set j none
      rw [List.set_set, List.set_set]
    · rw [hT.len, List.length_take]
      exact Nat.lt_of_le_of_lt (m := 10000) (by omega) (by decide)
    · rw [but_upd, take_snoc hg]
      refine (hT.to (but_mono (same_upd nl))).app (ListsAt.one ?_)
      rw [but_ne (fun e => by rw [e, hD] at nl; cases nl)]
      exact upd_same
  · obtain ⟨zs, hD, s', hT⟩ := hP
    rw [hW.len, List.take_length] at hT
    exact q D H' zs s' hD (hT.to but_same)
end
abbrev sLaw : Stmt := topS 33
theorem scLaw : FnScope ["script", "draws", "net", "order", "found", "ways", "turn", "other", "lists", "kept", "told", "way"] ["script"] (defScope sLaw) := ⟨rfl, rfl, rfl, by decide +kernel, rfl, by decide +kernel, by decide +kernel⟩
def spLaw (K : PySem.W.Frag) : Sp := fun vs H Q _ => ∃ (a : Addr) (ns : List Int), vs = [.ref a] ∧ SqL K H a (ns.map V.int) ∧ ns.length ≤ 63 ∧ ∀ H', Q (.bl true) H'
section
variable {P : Program} {w : World} {K : PySem.W.Frag} {mg : Str → Option Value} {base : Heap}
theorem ok_law {f : Addr} {fd : FuncData} {k1 k2 k3 k4 k5 k6 : Nat} (l1 : k1 ≤ 9) (l2 : k2 ≤ 9) (l3 : k3 ≤ 9) (l4 : k4 ≤ 9) (l5 : k5 ≤ 9) (l6 : k6 ≤ 9) (F : Fun K "law" "law" sLaw f fd) (c_law_draws : Kal P w K mg base 1 "_law_draws" ["script"] (spDraws K)) (c_law_net : Kal P w K mg base k1 "_law_net" ["draws", "k", "most"] (spNet K)) (c_law_order : Kal P w K mg base k2 "_law_order" ["draws", "k", "size"] (spOrder K))
    (c_law_input : Kal P w K mg base k3 "_law_input" ["draws", "net", "order"] (spInput6 K)) (c_check_pairs : Kal P w K mg base k4 "check_pairs" ["net", "order", "found", "ways"] (spChkP K)) (c_law_spoilt : Kal P w K mg base k5 "_law_spoilt" ["draws", "k", "size", "found", "ways"] (spSpoilt6 K)) (c_law_due : Kal P w K mg base k6 "_law_due" ["net", "order", "found", "ways"] (spChkP K))
    (mr : mg "range" = none) (ms : mg "isinstance" = none) (mb : mg "bool" = none) (mL : mg "list" = none) (mo : mg "sorted" = none) (mrepr : mg "repr" = none) : FnG P w K mg base f fd ["script"] (spLaw K) := by
  refine okG (k := 9) F scLaw ⟨rfl, by decide, by decide⟩ (fun vs H Q E h => ?_) (fun cdv s H vs Q E hr h => ?_)
  · obtain ⟨a, ns, rfl, _⟩ := h
    rfl
  · obtain ⟨a, ns, rfl, hS, hlen, q⟩ := h
    have hu := hu_of hr
    refine ⟨_, pss_cons (ps_set (i := 1) scLaw.nd rfl (.inl rfl) (pe_k c_law_draws hr (by first | decide | omega) (by rfl) (pa_cons (pv 0) pa_nil)))
      (pss_cons (ps_set (i := 2) scLaw.nd rfl (.inl rfl) (pe_k c_law_net hr (by first | decide | omega) (by rfl) (pa_cons (pv 1) (pa_cons pe_int (pa_cons pe_int pa_nil)))))
      (pss_cons (ps_set (i := 3) scLaw.nd rfl (.inl rfl) (pe_k c_law_order hr (by first | decide | omega) (by rfl) (pa_cons (pv 1) (pa_cons pe_int (pa_cons (pe_ix ix_tup (pv 2) pe_int (fun _ _ => rfl)) pa_nil)))))
      (pss_cons (ps_asg (pe_k c_law_input hr (by first | decide | omega) (by rfl) (pa_cons (pv 1) (pa_cons (pv 2) (pa_cons (pv 3) pa_nil)))) (pg_tup rfl (pgs_cons (pg_name (i := 4) scLaw.nd rfl (.inl rfl)) (pgs_cons (pg_name (i := 5) scLaw.nd rfl (.inl rfl)) pgs_nil))))
      (pss_cons (ps_if (pt_cmpR op_notBl (pe_k c_check_pairs hr (by first | decide | omega) (by rfl) (pa_cons (pv 2) (pa_cons (pv 3) (pa_cons (pe_callTy call_list_of (by rfl) mL (by decide +kernel) (pa_cons (pv 4) pa_nil)) (pa_cons (pe_lc (own := [("way", 11)]) (g := gName 11) (tt := tYes) (te := (tCB (fun xs H Q => ∃ p ys, xs = [V.ref p] ∧ (SqL K H p ys ∨ SqT K H p ys) ∧ ∀ l, H l = none → Q (V.ref l) (L2.upd H l (HO.lst ys))) (tCons (tVar 11) tNil))) (by rfl) scLaw.nd (pi_list (pv 5)) (blkOk_by (own := [("way", 11)]) (N := ["script", "draws", "net", "order", "found", "ways", "turn", "other", "lists", "kept", "told", "way"]) (sc := defScope sLaw) (by decide +kernel)) (fun _ _ _ _ _ => pg_name (i := 11) scLaw.nd rfl (Or.inl rfl)) (fun _ _ _ _ _ => by exact pts_nil) (fun _ _ _ _ _ => by exact (pe_callTy call_list_of (by rfl) mL (by decide +kernel) (pa_cons (pv 11) pa_nil)))) pa_nil))))) pe_bl (nomark _))
      (pss_one (ps_ret pe_bl))
      pss_nil)
      (pss_cons (ps_for PassesOwn.never rfl (pi_range1 (by rfl) mr (pa_cons pe_int pa_nil)) (pg_name (i := 6) scLaw.nd rfl (.inl rfl))
      (pss_cons (ps_asg (pe_k c_law_spoilt hr (by first | decide | omega) (by rfl) (pa_cons (pv 1) (pa_cons (pe_op op_mul pe_int (pv 6)) (pa_cons (pe_ix ix_tup (pv 2) pe_int (fun _ _ => rfl)) (pa_cons (pv 4) (pa_cons (pv 5) pa_nil)))))) (pg_tup rfl (pgs_cons (pg_name (i := 7) scLaw.nd rfl (.inl rfl)) (pgs_cons (pg_name (i := 8) scLaw.nd rfl (.inl rfl)) pgs_nil))))
        (pss_cons (ps_set (i := 9) scLaw.nd rfl (.inl rfl) (pe_callB (call_reprD rfl hr.units) (by rfl) mrepr (by decide +kernel) (pa_cons (pe_tup (pa_cons (pv 7) (pa_cons (pv 8) pa_nil))) pa_nil)))
        (pss_cons (ps_set (i := 10) scLaw.nd rfl (.inl rfl) (pe_k c_check_pairs hr (by first | decide | omega) (by rfl) (pa_cons (pv 2) (pa_cons (pv 3) (pa_cons (pv 7) (pa_cons (pv 8) pa_nil))))))
        (pss_cons (ps_if (PW.pt (pw_or (pt_not (pt_val (pe_callB call_isi (by rfl) ms (by decide +kernel) (pa_cons (pv 10) (pa_cons (pe_bltn (v := .ty "bool") (by rfl) mb (by decide +kernel) rfl) pa_nil))))) (pw_or (pt_cmpR op_ne (pv 10) (pe_k c_law_due hr (by first | decide | omega) (by rfl) (pa_cons (pv 2) (pa_cons (pv 3) (pa_cons (pv 7) (pa_cons (pv 8) pa_nil))))) (nomark _)) (pw_or1 (pt_cmpR op_ne (pe_callB (call_reprD rfl hr.units) (by rfl) mrepr (by decide +kernel) (pa_cons (pe_tup (pa_cons (pv 7) (pa_cons (pv 8) pa_nil))) pa_nil)) (pv 9) (nomark _))))))
        (pss_one (ps_ret pe_bl))
        pss_nil)
        (pss_one (ps_if (PW.pt (pw_and (pt_val (pv 10)) (pw_and1 (pt_cmpR (op_neD hr.units) (pe_callB cr_sortedPO (by rfl) mo (by decide +kernel) (pa_cons (pv 7) pa_nil)) (pe_callB cr_sortedPO (by rfl) mo (by decide +kernel) (pa_cons (pv 4) pa_nil)) (nomark _)))))
        (pss_one (ps_ret pe_bl))
        pss_nil)))))))
      (pss_one (ps_ret pe_bl))))))), ?_⟩
    refine q_asgE ⟨.ref a, rfl, a, ns, rfl, hS, hlen, fun H1 d ds s1 nd hd hok => ?_⟩
    have hD1 : SqL K H1 d (ds.map V.int) := .of hd
    refine q_asgE ⟨.ref d, rfl, d, ds, 10, 8, rfl, hD1, by decide, by decide, by decide, fun H2 v N s2 hN ok hn => ?_⟩
    obtain ⟨p, c, xs, rfl, hp, hc, hx⟩ := id hN
    have n1 := ok.n1
    have n40 := ok.n40
    refine q_asgE ⟨.ref d, rfl, (vl_ixT (K := K) (vl_var rfl) vl_c (.of hp) (atI_nat (j := 0) rfl)) _ ⟨d, ds, 90, N.n, rfl, s2.seq hD1, by decide, by omega, by omega, fun H3 po os s3 npo epo oo => ?_⟩⟩
    have ol := oo.len
    have hN3 := hN.to s3
    refine ⟨.ref d, rfl, .ref p, rfl, .ref po, rfl, d, po, .ref p, N, os, ds, rfl, (s2.trans s3).seq hD1, hN3.dp, ok, .of epo, oo, fun H4 T f1 w1 ts ws L W s4 eT hI => ⟨T, _, rfl, .of eT, rfl, _, _, rfl, _, _, rfl, rfl, ?_⟩⟩
    have hN4 := hN3.to s4
    have epo4 := s4 _ _ epo
    have hD4 := (s2.trans (s3.trans s4)).seq hD1
    have Ll := hI.len6 ok oo hn
    have Wl := hI.len
    have hdue := hI.due6 ok oo
    have hsm := hI.smw6 ok
    have hp4 := s4 _ _ (s3 _ _ hp)
    refine nx_of ?_
    -- the input is due
    refine q_whenx (b := false) (ax_op fun Q k => ⟨.ref p, rfl, .ref po, rfl, .ref f1, rfl, f1, ts, rfl, .inl (.of hI.ef), fun l nl => lc_lists6 (K := K) (W := W) (fun _ => rfl) (vl_var rfl) (same_upd nl _ _ hI.ew) (hI.tW.to (same_upd nl)) (by omega) _ fun D H5 zs s5 eD hW5 => ?_⟩) (fun z => nomatch z) (fun _ H5 s5 => ?_)
    · have t5 := (same_upd nl).trans s5
      exact ⟨.ref p, N, po, l, D, os, ts, zs, L, W, rfl, (hN4.to t5).dp, ok, .of (t5 _ _ epo4), oo, s5 _ _ upd_same, hI.tT.to t5, eD, hW5, by omega, by omega, fun w hw => Nat.le_trans (hsm w hw).2.1 (by decide), fun H6 r s6 hr => ⟨r, true, rfl, rfl, _, rfl, by
        rw [hr.mpr hdue]
        exact k H6 (t5.trans s6)⟩⟩
    refine q_forR (n := 3) (va_cons vl_c va_nil) ⟨by decide, by decide⟩
      (fun i σ H7 => ∃ y6 y7 y8 y9 y10, σ = [some (.ref a), some (.ref d), some (.ref p), some (.ref po), some (.ref f1), some (.ref w1), y6, y7, y8, y9, y10, none] ∧ Same H4 H7)
      ⟨_, _, _, _, _, rfl, s5⟩ (fun i σ H7 hi hP => ?_) (fun σ H7 hP => ?_)
    · obtain ⟨y6, y7, y8, y9, y10, rfl, s7⟩ := hP
      refine ⟨.ref d, rfl, (vl_I vl_c (vl_var rfl) (.inl ⟨by decide, by decide⟩)) _ ((vl_ixT (K := K) (vl_var rfl) vl_c (.of (s7 _ _ hp4)) (atI_nat (j := 0) rfl)) _ ⟨.ref f1, rfl, .ref w1, rfl, d, f1, w1, ds, 6 * (i : Int), N.n, ts, ws, L, W, rfl, s7.seq hD4, by omega, n1, n40, s7 _ _ hI.ef, s7 _ _ hI.ew, hI.tT.to s7, hI.tW.to s7, by omega, Wl, hI.sm6 ok oo, hsm, fun H8 T2 f2 w2 s8 eT2 hA hB => ?_⟩)⟩
      obtain ⟨ts2, ef2, La, hT2, Ll2, Ls2⟩ := hA
      obtain ⟨ws2, ew2, W2, hW2, Wl2, Ws2⟩ := hB
      refine ⟨T2, _, rfl, .of eT2, rfl, _, _, rfl, _, _, rfl, rfl, ?_⟩
      have sh := showOk_pair (showOk_tups6 Ls2 Ll2) (showOk_lists6 Ws2 Wl2)
      have prD : ∀ T H', Same H8 H' → H' T = some (.tup [.ref f2, .ref w2]) → Dp K H' (.ref T) (.tuple [.list (La.map pairD2), .list (W2.map fun w => .list (w.map PyData.int))]) := fun T H' s' e => .tup (.of e) (.cons (.lst (.of (s' _ _ ef2)) (hT2.to s').dp) (.cons (.lst (.of (s' _ _ ew2)) (hW2.to s').dp) .nil))
      have rp : ∀ σ : L2.St, ∀ H', Same H8 H' → σ[7]? = some (some (.ref f2)) → σ[8]? = some (some (.ref w2)) → Ve (tCB (rRepr K) (tCons (tTup (tCons (tVar 7) (tCons (tVar 8) tNil))) tNil)) σ H' (.str (PyData.tuple [.list (La.map pairD2), .list (W2.map fun w => .list (w.map PyData.int))]).shown) := fun σ H' s' e1 e2 => ve_repr (va_cons (vl_var e1) (va_cons (vl_var e2) va_nil)) (by show 2 ≤ sizeLine; decide) (fun T H'' s'' e => prD T H'' (s'.trans s'') e) sh.1 sh.2.1 sh.2.2.1 (Nat.le_trans sh.2.2.2 (by decide))
      refine nx_of ?_
      refine q_asgV (rp _ H8 (Same.refl _) rfl rfl) fun H9 s9 => ?_
      have wl2 : ∀ w ∈ W2, w.length ≤ 1000 := fun w hw => Nat.le_trans (Ws2 w hw).1 (by decide)
      have tt : ∀ {H' : Hp}, Same H8 H' → Same H4 H' := fun s' => s7.trans (s8.trans s')
      refine q_asgE ⟨.ref p, rfl, .ref po, rfl, .ref f2, rfl, .ref w2, rfl, .ref p, N, po, f2, w2, os, ts2, ws2, La, W2, rfl, (hN4.to (tt s9)).dp, ok, .of (tt s9 _ _ epo4), oo, s9 _ _ ef2, hT2.to s9, s9 _ _ ew2, hW2.to s9, by omega, by omega, wl2, fun H10 b s10 hb => ?_⟩
      have s810 := s9.trans s10
      refine q_whenx (b := false) (Ax.is (ax_or (ax_not (ax_of (an_B (vl_cb (va_cons (vl_var rfl) (va_cons vl_c va_nil)) fun _ q => ⟨.bl b, .ty "bool", .type "bool", .type "bool", true, rfl, .ty _, .base (.bl _), kit_ty (by decide +kernel), q⟩))))
        (fun _ H' t' => ax_or (k := !decide (V.bl b = V.bl b)) (ax_op fun Q k => ⟨.bl b, rfl, .ref p, rfl, .ref po, rfl, .ref f2, rfl, .ref w2, rfl, .ref p, N, po, f2, w2, os, ts2, ws2, La, W2, rfl, (hN4.to (tt (s810.trans t'))).dp, ok, .of (tt (s810.trans t') _ _ epo4), oo, (s810.trans t') _ _ ef2, hT2.to (s810.trans t'), (s810.trans t') _ _ ew2, hW2.to (s810.trans t'), by omega, by omega, wl2, fun H11 b2 s11 hb2 => ?_⟩)
        (fun _ H'' t'' => ax_neV2 (rp _ H'' ((s810.trans t').trans t'') rfl rfl) (fun _ _ => vl_var rfl) rfl))) (by rw [decide_eq_true rfl, decide_eq_true rfl]; rfl)) (fun z => nomatch z) (fun _ H11 s11 => ?_)
      · obtain rfl : b2 = b := Bool.eq_iff_iff.mpr (hb2.trans hb.symm)
        exact ⟨rfl, _, rfl, k H11 s11⟩
      have s811 := s810.trans s11
      have s411 := s7.trans (s8.trans s811)
      cases b with
      | false =>
        exact g_whenx (b := false) ((ax_and (k := false) (m := false) (ax_of (an_B (vl_var rfl))) fun z => nomatch z).is rfl) (fun z => nomatch z) (fun _ H12 s12 => ⟨_, _, _, _, _, rfl, s411.trans s12⟩)
      | true =>
        have hd2 := hb.mp rfl
        have hpm : La.Perm L := (List.perm_ext_iff_of_nodup hd2.nd (hI.nd6 oo)).mpr fun z => by
          obtain ⟨u, v⟩ := z
          rw [hd2.pairs ok oo, hI.mem6 ok oo]
        refine g_whenx (b := false) ((ax_and (k := true) (m := false) (ax_of (an_B (vl_var rfl))) fun _ H12 s12 => ax_op fun Q k => ⟨.ref f2, rfl, f2, ts2, kP6 H12, rfl, .of ((s811.trans s12) _ _ ef2), fun x hx => (hT2.to (s811.trans s12)).ref6 hx, fun ys q1 h1 h2 m1 => ⟨.ref f1, rfl, f1, ts, kP6 (upd H12 q1 (.lst ys)), rfl, .of (same_upd m1 _ _ ((s411.trans s12) _ _ hI.ef)), fun x hx => (hI.tT.to ((s411.trans s12).trans (same_upd m1))).ref6 hx, fun zs q2 g1 g2 m2 => ?_⟩⟩).is rfl) (fun z => nomatch z) (fun _ H12 s12 => ⟨_, _, _, _, _, rfl, s411.trans s12⟩)
        obtain ⟨M, a1, a2, a3⟩ := sort6 (hT2.to (s811.trans s12)) h1 h2
        obtain ⟨M2, b1, b2, b3⟩ := sort6 (hI.tT.to ((s411.trans s12).trans (same_upd m1))) g1 g2
        obtain rfl : M2 = M := same6 b1 b2 a1 a2 hpm
        refine ⟨_, _, .lst (.of (same_upd m2 _ _ upd_same)) (a3.to ((same_upd m1).trans (same_upd m2))).dp, .lst (.of upd_same) (b3.to (same_upd m2)).dp, shaped_tups6 _, shaped_tups6 _, _, rfl, ?_⟩
        rw [SeqAt.eqv_refl _ (Bool.and_eq_true_iff.mp (shaped_tups6 M2)).1]
        exact k _ ((same_upd m1).trans (same_upd m2))
    · exact g_ret vl_c (q _)
end
/-! ### what the top has written; the law's own head -/
theorem df_mk {K : PySem.W.Frag} {h : Heap} {mg : Str → Option Value} {x : Str} {st : Stmt} {ps : List Str} {f : Addr} {oc : Value} {od an : Option Addr} {osl : Array (Option Value)} {kV doc pm cdv ct : Value} (X : K.In h) (G : h.Ns mainGlobals mg)
    (a : PySem.W.nsIn K mainGlobals x = some (some (.ref f))) (l : K.lookup f = some ⟨oc, od, .func (PySem.W.fnOf x x (defArgs st) (defBody st) (defScope st) .none kV doc pm an cdv ct), osl⟩) (c : PySem.W.codeIn K cdv x = true) (k : PySem.W.keepIn K (.ref f) = true)
    (hb : ∀ (kV doc pm : Value) (an : Option Addr) (cdv ct : Value) (us : List Value), us.length = ps.length → bindArgs (PySem.W.fnOf x x (defArgs st) (defBody st) (defScope st) .none kV doc pm an cdv ct) ⟨us, []⟩ = pure (ps.zip us)) : Df K mg x st ps :=
  ⟨f, _, fun_mk l c k, PySem.W.mg_of X G a, (fun_mk l c k).binds hb⟩
theorem exm_two {K : PySem.W.Frag} {S : Addr} {c : Value} {b : Bool} (h1 : PySem.W.subIn K (.ref S) (.type "BaseException") = some true) (h2 : PySem.W.isClsIn K S = true) (h3 : PySem.W.typeIn K (.ref S) = some (.type "type")) (h4 : PySem.W.subIn K c (.ref S) = some b) : PySem.W.exmOne K c (.ref S) = some b := by
  have e1 : (PySem.W.subIn K (.ref S) (.type "BaseException") == some true) = true := by rw [h1] <;> rfl
  have e2 : ((PySem.W.clsIn K S).isSome && PySem.W.typeIn K (.ref S) == some (.type "type")) = true := by
    have h2' : (PySem.W.clsIn K S).isSome = true := h2
    rw [h2', h3] <;> rfl
  show (if (PySem.W.subIn K (.ref S) (.type "BaseException") == some true) = true then (if ((PySem.W.clsIn K S).isSome && PySem.W.typeIn K (.ref S) == some (.type "type")) = true then PySem.W.subIn K c (.ref S) else none) else none) = some b
  rw [if_pos e1, if_pos e2]
  exact h4
/-- what is asked of an error's class -/
structure ErrAt (K : PySem.W.Frag) (x : Str) (C CO fI : Addr) : Prop where
  a : PySem.W.nsIn K mainGlobals x = some (some (.ref C))
  xL : ∃ nm q N bs sn sub ab col dd m0 m1 m2 m3 m5, K.lookup C = some (excClassObj nm q C N bs [.ref CO, .type "ValueError", .type "Exception", .type "BaseException", .type "object"] true sn sub ab col dd m0 m1 m2 m3 m5 "ValueError.__new__")
  sa : PySem.W.findIn K (.ref C) "__setattr__" = some (some (.builtin "object.__setattr__"))
  ga : PySem.W.findIn K (.ref C) "__getattribute__" = some (some (.builtin "BaseException.__getattribute__"))
  gg : PySem.W.findIn K (.ref C) "__getattr__" = some none
  nb : PySem.W.findIn K (.ref C) "at" = some none
  ii : PySem.W.findIn K (.ref C) "__init__" = some (some (.ref fI))
  kC : PySem.W.keepIn K (.ref C) = true
  eC : PySem.W.subIn K (.ref C) (.type "BaseException") = some true
  tC : PySem.W.typeIn K (.ref C) = some (.type "type")
  hC : PySem.W.hasDictIn K C = true
  iC : PySem.W.isClsIn K C = true
  sC : PySem.W.subIn K (.ref C) (.ref C) = some true
structure InitAt (K : PySem.W.Frag) (fI : Addr) : Prop where
  t : PySem.W.typeIn K (.ref fI) = some (.type "function")
  l : ∃ oc od dc pm an cd ct sl, K.lookup fI = some ⟨oc, od, .func (PySem.W.fnOf "__init__" "OverpassesError.__init__" (PySem.LowX.iA ⟨5, 17, 5, 21⟩ ⟨5, 23, 5, 25⟩) (PySem.LowX.iB ⟨6, 8, 6, 12⟩ ⟨6, 8, 6, 15⟩ ⟨6, 18, 6, 20⟩ ⟨6, 8, 6, 20⟩) PySem.LowX.iS .none .none dc pm an cd ct), sl⟩ ∧ PySem.W.codeIn K cd "OverpassesError.__init__" = true
theorem low_mk {K : PySem.W.Frag} {h : Heap} {mg : Str → Option Value} {x : Str} {C CO fI : Addr} (X : K.In h) (G : h.Ns mainGlobals mg) (E : ErrAt K x C CO fI) (I : InitAt K fI) : PySem.LowX.LowTxt K mg x C fI := by
  obtain ⟨nm, q, N, bs, sn, sub, ab, col, dd, m0, m1, m2, m3, m5, xL⟩ := E.xL
  obtain ⟨oc, od, dc, pm, an, cd, ct, sl, l1, c1⟩ := I.l
  exact { gC := PySem.W.mg_of X G E.a, cls := ⟨nm, q, N, bs, _, sn, sub, ab, col, dd, m0, m1, m2, m3, m5, xL, rfl⟩, sa := E.sa, ga := E.ga, gg := E.gg, noN := E.nb, iC := E.ii, tC := I.t, kC := E.kC, exC := E.eC, tyC := E.tC, hdC := E.hC, te := exm_two E.eC E.iC E.tC E.sC, fn := ⟨_, _, _, _, _, _, _, _, _, _, _, _, _, _, l1, c1⟩ }
theorem all_mk {l : PySem.W.OpenLaw} {w : World} {K : PySem.W.Frag} {h : Heap} {mg : Str → Option Value} {fa f0 f1 f2 f3 f4 f5 f6 f7 f8 f9 f10 f11 f12 f13 f14 f15 f16 f17 f18 f19 f20 f21 f22 f23 : Addr} (X : K.In h) (G : h.Ns mainGlobals mg) (hfa : mg "law" = some (.ref fa))
    {od0 an0 od1 an1 od2 an2 od3 an3 od4 an4 od5 an5 od6 an6 od7 an7 od8 an8 od9 an9 od10 an10 od11 an11 od12 an12 od13 an13 od14 an14 od15 an15 od16 an16 od17 an17 od18 an18 od19 an19 od20 an20 od21 an21 od22 an22 od23 an23 : Option Addr} {sl0 sl1 sl2 sl3 sl4 sl5 sl6 sl7 sl8 sl9 sl10 sl11 sl12 sl13 sl14 sl15 sl16 sl17 sl18 sl19 sl20 sl21 sl22 sl23 : Array (Option Value)} {oc0 kV0 dc0 pm0 cd0 ct0 oc1 kV1 dc1 pm1 cd1 ct1 oc2 kV2 dc2 pm2 cd2 ct2 oc3 kV3 dc3 pm3 cd3 ct3 oc4 kV4 dc4 pm4 cd4 ct4 oc5 kV5 dc5 pm5 cd5 ct5 oc6 kV6 dc6 pm6 cd6 ct6 oc7 kV7 dc7 pm7 cd7 ct7 oc8 kV8 dc8 pm8 cd8 ct8 oc9 kV9 dc9 pm9 cd9 ct9 oc10 kV10 dc10 pm10 cd10 ct10 oc11 kV11 dc11 pm11 cd11 ct11 oc12 kV12 dc12 pm12 cd12 ct12 oc13 kV13 dc13 pm13 cd13 ct13 oc14 kV14 dc14 pm14 cd14 ct14 oc15 kV15 dc15 pm15 cd15 ct15 oc16 kV16 dc16 pm16 cd16 ct16 oc17 kV17 dc17 pm17 cd17 ct17 oc18 kV18 dc18 pm18 cd18 ct18 oc19 kV19 dc19 pm19 cd19 ct19 oc20 kV20 dc20 pm20 cd20 ct20 oc21 kV21 dc21 pm21 cd21 ct21 oc22 kV22 dc22 pm22 cd22 ct22 oc23 kV23 dc23 pm23 cd23 ct23 : Value}
    (a0 : PySem.W.nsIn K mainGlobals "link_ways" = some (some (.ref f0))) (l0 : K.lookup f0 = some ⟨oc0, od0, .func (PySem.W.fnOf "link_ways" "link_ways" (defArgs sLinkWays) (defBody sLinkWays) (defScope sLinkWays) .none kV0 dc0 pm0 an0 cd0 ct0), sl0⟩) (c0 : PySem.W.codeIn K cd0 "link_ways" = true) (k0 : PySem.W.keepIn K (.ref f0) = true)
    (a1 : PySem.W.nsIn K mainGlobals "ranks" = some (some (.ref f1))) (l1 : K.lookup f1 = some ⟨oc1, od1, .func (PySem.W.fnOf "ranks" "ranks" (defArgs sRanks) (defBody sRanks) (defScope sRanks) .none kV1 dc1 pm1 an1 cd1 ct1), sl1⟩) (c1 : PySem.W.codeIn K cd1 "ranks" = true) (k1 : PySem.W.keepIn K (.ref f1) = true)
    (a2 : PySem.W.nsIn K mainGlobals "check_pairs" = some (some (.ref f2))) (l2 : K.lookup f2 = some ⟨oc2, od2, .func (PySem.W.fnOf "check_pairs" "check_pairs" (defArgs sChkP) (defBody sChkP) (defScope sChkP) .none kV2 dc2 pm2 an2 cd2 ct2), sl2⟩) (c2 : PySem.W.codeIn K cd2 "check_pairs" = true) (k2 : PySem.W.keepIn K (.ref f2) = true)
    (a3 : PySem.W.nsIn K mainGlobals "_all_go_up" = some (some (.ref f3))) (l3 : K.lookup f3 = some ⟨oc3, od3, .func (PySem.W.fnOf "_all_go_up" "_all_go_up" (defArgs sGoUp) (defBody sGoUp) (defScope sGoUp) .none kV3 dc3 pm3 an3 cd3 ct3), sl3⟩) (c3 : PySem.W.codeIn K cd3 "_all_go_up" = true) (k3 : PySem.W.keepIn K (.ref f3) = true)
    (a4 : PySem.W.nsIn K mainGlobals "_has" = some (some (.ref f4))) (l4 : K.lookup f4 = some ⟨oc4, od4, .func (PySem.W.fnOf "_has" "_has" (defArgs sHas) (defBody sHas) (defScope sHas) .none kV4 dc4 pm4 an4 cd4 ct4), sl4⟩) (c4 : PySem.W.codeIn K cd4 "_has" = true) (k4 : PySem.W.keepIn K (.ref f4) = true)
    (a5 : PySem.W.nsIn K mainGlobals "_has_links" = some (some (.ref f5))) (l5 : K.lookup f5 = some ⟨oc5, od5, .func (PySem.W.fnOf "_has_links" "_has_links" (defArgs sHasL) (defBody sHasL) (defScope sHasL) .none kV5 dc5 pm5 an5 cd5 ct5), sl5⟩) (c5 : PySem.W.codeIn K cd5 "_has_links" = true) (k5 : PySem.W.keepIn K (.ref f5) = true)
    (a6 : PySem.W.nsIn K mainGlobals "_has_joins" = some (some (.ref f6))) (l6 : K.lookup f6 = some ⟨oc6, od6, .func (PySem.W.fnOf "_has_joins" "_has_joins" (defArgs sHasJ) (defBody sHasJ) (defScope sHasJ) .none kV6 dc6 pm6 an6 cd6 ct6), sl6⟩) (c6 : PySem.W.codeIn K cd6 "_has_joins" = true) (k6 : PySem.W.keepIn K (.ref f6) = true)
    (a7 : PySem.W.nsIn K mainGlobals "_is_way" = some (some (.ref f7))) (l7 : K.lookup f7 = some ⟨oc7, od7, .func (PySem.W.fnOf "_is_way" "_is_way" (defArgs sIsWay) (defBody sIsWay) (defScope sIsWay) .none kV7 dc7 pm7 an7 cd7 ct7), sl7⟩) (c7 : PySem.W.codeIn K cd7 "_is_way" = true) (k7 : PySem.W.keepIn K (.ref f7) = true)
    (a8 : PySem.W.nsIn K mainGlobals "_law_draws" = some (some (.ref f8))) (l8 : K.lookup f8 = some ⟨oc8, od8, .func (PySem.W.fnOf "_law_draws" "_law_draws" (defArgs sDraws) (defBody sDraws) (defScope sDraws) .none kV8 dc8 pm8 an8 cd8 ct8), sl8⟩) (c8 : PySem.W.codeIn K cd8 "_law_draws" = true) (k8 : PySem.W.keepIn K (.ref f8) = true)
    (a9 : PySem.W.nsIn K mainGlobals "_law_mix" = some (some (.ref f9))) (l9 : K.lookup f9 = some ⟨oc9, od9, .func (PySem.W.fnOf "_law_mix" "_law_mix" (defArgs sMix) (defBody sMix) (defScope sMix) .none kV9 dc9 pm9 an9 cd9 ct9), sl9⟩) (c9 : PySem.W.codeIn K cd9 "_law_mix" = true) (k9 : PySem.W.keepIn K (.ref f9) = true)
    (a10 : PySem.W.nsIn K mainGlobals "_law_price" = some (some (.ref f10))) (l10 : K.lookup f10 = some ⟨oc10, od10, .func (PySem.W.fnOf "_law_price" "_law_price" (defArgs sPrice) (defBody sPrice) (defScope sPrice) .none kV10 dc10 pm10 an10 cd10 ct10), sl10⟩) (c10 : PySem.W.codeIn K cd10 "_law_price" = true) (k10 : PySem.W.keepIn K (.ref f10) = true)
    (a11 : PySem.W.nsIn K mainGlobals "_law_net" = some (some (.ref f11))) (l11 : K.lookup f11 = some ⟨oc11, od11, .func (PySem.W.fnOf "_law_net" "_law_net" (defArgs sNet) (defBody sNet) (defScope sNet) .none kV11 dc11 pm11 an11 cd11 ct11), sl11⟩) (c11 : PySem.W.codeIn K cd11 "_law_net" = true) (k11 : PySem.W.keepIn K (.ref f11) = true)
    (a12 : PySem.W.nsIn K mainGlobals "_law_order" = some (some (.ref f12))) (l12 : K.lookup f12 = some ⟨oc12, od12, .func (PySem.W.fnOf "_law_order" "_law_order" (defArgs sOrder) (defBody sOrder) (defScope sOrder) .none kV12 dc12 pm12 an12 cd12 ct12), sl12⟩) (c12 : PySem.W.codeIn K cd12 "_law_order" = true) (k12 : PySem.W.keepIn K (.ref f12) = true)
    (a13 : PySem.W.nsIn K mainGlobals "_law_joined" = some (some (.ref f13))) (l13 : K.lookup f13 = some ⟨oc13, od13, .func (PySem.W.fnOf "_law_joined" "_law_joined" (defArgs sLJoined6) (defBody sLJoined6) (defScope sLJoined6) .none kV13 dc13 pm13 an13 cd13 ct13), sl13⟩) (c13 : PySem.W.codeIn K cd13 "_law_joined" = true) (k13 : PySem.W.keepIn K (.ref f13) = true)
    (a14 : PySem.W.nsIn K mainGlobals "_law_linked" = some (some (.ref f14))) (l14 : K.lookup f14 = some ⟨oc14, od14, .func (PySem.W.fnOf "_law_linked" "_law_linked" (defArgs sLinked) (defBody sLinked) (defScope sLinked) .none kV14 dc14 pm14 an14 cd14 ct14), sl14⟩) (c14 : PySem.W.codeIn K cd14 "_law_linked" = true) (k14 : PySem.W.keepIn K (.ref f14) = true)
    (a15 : PySem.W.nsIn K mainGlobals "_law_reached" = some (some (.ref f15))) (l15 : K.lookup f15 = some ⟨oc15, od15, .func (PySem.W.fnOf "_law_reached" "_law_reached" (defArgs sReached) (defBody sReached) (defScope sReached) .none kV15 dc15 pm15 an15 cd15 ct15), sl15⟩) (c15 : PySem.W.codeIn K cd15 "_law_reached" = true) (k15 : PySem.W.keepIn K (.ref f15) = true)
    (a16 : PySem.W.nsIn K mainGlobals "_law_rank" = some (some (.ref f16))) (l16 : K.lookup f16 = some ⟨oc16, od16, .func (PySem.W.fnOf "_law_rank" "_law_rank" (defArgs sRank) (defBody sRank) (defScope sRank) .none kV16 dc16 pm16 an16 cd16 ct16), sl16⟩) (c16 : PySem.W.codeIn K cd16 "_law_rank" = true) (k16 : PySem.W.keepIn K (.ref f16) = true)
    (a17 : PySem.W.nsIn K mainGlobals "_law_upper" = some (some (.ref f17))) (l17 : K.lookup f17 = some ⟨oc17, od17, .func (PySem.W.fnOf "_law_upper" "_law_upper" (defArgs sUpperL) (defBody sUpperL) (defScope sUpperL) .none kV17 dc17 pm17 an17 cd17 ct17), sl17⟩) (c17 : PySem.W.codeIn K cd17 "_law_upper" = true) (k17 : PySem.W.keepIn K (.ref f17) = true)
    (a18 : PySem.W.nsIn K mainGlobals "_law_way" = some (some (.ref f18))) (l18 : K.lookup f18 = some ⟨oc18, od18, .func (PySem.W.fnOf "_law_way" "_law_way" (defArgs sLWay6) (defBody sLWay6) (defScope sLWay6) .none kV18 dc18 pm18 an18 cd18 ct18), sl18⟩) (c18 : PySem.W.codeIn K cd18 "_law_way" = true) (k18 : PySem.W.keepIn K (.ref f18) = true)
    (a19 : PySem.W.nsIn K mainGlobals "_law_input" = some (some (.ref f19))) (l19 : K.lookup f19 = some ⟨oc19, od19, .func (PySem.W.fnOf "_law_input" "_law_input" (defArgs sInput6) (defBody sInput6) (defScope sInput6) .none kV19 dc19 pm19 an19 cd19 ct19), sl19⟩) (c19 : PySem.W.codeIn K cd19 "_law_input" = true) (k19 : PySem.W.keepIn K (.ref f19) = true)
    (a20 : PySem.W.nsIn K mainGlobals "_law_spoilt" = some (some (.ref f20))) (l20 : K.lookup f20 = some ⟨oc20, od20, .func (PySem.W.fnOf "_law_spoilt" "_law_spoilt" (defArgs sSpoilt6) (defBody sSpoilt6) (defScope sSpoilt6) .none kV20 dc20 pm20 an20 cd20 ct20), sl20⟩) (c20 : PySem.W.codeIn K cd20 "_law_spoilt" = true) (k20 : PySem.W.keepIn K (.ref f20) = true)
    (a21 : PySem.W.nsIn K mainGlobals "_law_is_way" = some (some (.ref f21))) (l21 : K.lookup f21 = some ⟨oc21, od21, .func (PySem.W.fnOf "_law_is_way" "_law_is_way" (defArgs sLIsWay6) (defBody sLIsWay6) (defScope sLIsWay6) .none kV21 dc21 pm21 an21 cd21 ct21), sl21⟩) (c21 : PySem.W.codeIn K cd21 "_law_is_way" = true) (k21 : PySem.W.keepIn K (.ref f21) = true)
    (a22 : PySem.W.nsIn K mainGlobals "_law_due" = some (some (.ref f22))) (l22 : K.lookup f22 = some ⟨oc22, od22, .func (PySem.W.fnOf "_law_due" "_law_due" (defArgs sDue6) (defBody sDue6) (defScope sDue6) .none kV22 dc22 pm22 an22 cd22 ct22), sl22⟩) (c22 : PySem.W.codeIn K cd22 "_law_due" = true) (k22 : PySem.W.keepIn K (.ref f22) = true)
    (a23 : PySem.W.nsIn K mainGlobals "law" = some (some (.ref f23))) (l23 : K.lookup f23 = some ⟨oc23, od23, .func (PySem.W.fnOf "law" "law" (defArgs sLaw) (defBody sLaw) (defScope sLaw) .none kV23 dc23 pm23 an23 cd23 ct23), sl23⟩) (c23 : PySem.W.codeIn K cd23 "law" = true) (k23 : PySem.W.keepIn K (.ref f23) = true)
    {CO fI : Addr} {C0 : Addr} {ocI : Value} {odI anI : Option Addr} {slI : Array (Option Value)} {dcI pmI cdI ctI : Value}
    (tI : PySem.W.typeIn K (.ref fI) = some (.type "function")) (lI : K.lookup fI = some ⟨ocI, odI, .func (PySem.W.fnOf "__init__" "OverpassesError.__init__" (PySem.LowX.iA ⟨5, 17, 5, 21⟩ ⟨5, 23, 5, 25⟩) (PySem.LowX.iB ⟨6, 8, 6, 12⟩ ⟨6, 8, 6, 15⟩ ⟨6, 18, 6, 20⟩ ⟨6, 8, 6, 20⟩) PySem.LowX.iS .none .none dcI pmI anI cdI ctI), slI⟩) (cI : PySem.W.codeIn K cdI "OverpassesError.__init__" = true)
    {nm100 : Str} {q100 : Str} {N100 : Addr} {bs100 : List Value} {sn100 : List Str} {sub100 : List Value} {ab100 : Bool} {col100 : Option Bool} {dd100 : Option Addr} {m0100 : Option Value} {m1100 : Option Value} {m2100 : Option Value} {m3100 : Option Value} {m5100 : Option Value}
    (ea0 : PySem.W.nsIn K mainGlobals "NotAnOrder" = some (some (.ref C0))) (ex0 : K.lookup C0 = some (excClassObj nm100 q100 C0 N100 bs100 [.ref CO, .type "ValueError", .type "Exception", .type "BaseException", .type "object"] true sn100 sub100 ab100 col100 dd100 m0100 m1100 m2100 m3100 m5100 "ValueError.__new__"))
    (es0 : PySem.W.findIn K (.ref C0) "__setattr__" = some (some (.builtin "object.__setattr__"))) (eg0 : PySem.W.findIn K (.ref C0) "__getattribute__" = some (some (.builtin "BaseException.__getattribute__"))) (eh0 : PySem.W.findIn K (.ref C0) "__getattr__" = some none) (en0 : PySem.W.findIn K (.ref C0) "at" = some none) (ei0 : PySem.W.findIn K (.ref C0) "__init__" = some (some (.ref fI)))
    (ek0 : PySem.W.keepIn K (.ref C0) = true) (eb0 : PySem.W.subIn K (.ref C0) (.type "BaseException") = some true) (et0 : PySem.W.typeIn K (.ref C0) = some (.type "type")) (ed0 : PySem.W.hasDictIn K C0 = true) (ec0 : PySem.W.isClsIn K C0 = true) (ef0 : PySem.W.subIn K (.ref C0) (.ref C0) = some true)
    (y0 : PySem.W.nsIn K mainGlobals "combinations" = some (some (.type "itertools.combinations")))
    (z0 : PySem.W.nsIn K mainGlobals "range" = some none) (z1 : PySem.W.nsIn K mainGlobals "min" = some none) (z2 : PySem.W.nsIn K mainGlobals "max" = some none) (z3 : PySem.W.nsIn K mainGlobals "len" = some none) (z4 : PySem.W.nsIn K mainGlobals "abs" = some none) (z5 : PySem.W.nsIn K mainGlobals "int" = some none) (z6 : PySem.W.nsIn K mainGlobals "bool" = some none) (z7 : PySem.W.nsIn K mainGlobals "list" = some none) (z8 : PySem.W.nsIn K mainGlobals "all" = some none) (z9 : PySem.W.nsIn K mainGlobals "isinstance" = some none) (z10 : PySem.W.nsIn K mainGlobals "enumerate" = some none) (z11 : PySem.W.nsIn K mainGlobals "sorted" = some none) (z12 : PySem.W.nsIn K mainGlobals "repr" = some none) (z13 : PySem.W.nsIn K mainGlobals "zip" = some none) :
    ∃ fd : FuncData, (∀ (s : Shared) (v : Value), BindsTo s fd ⟨[v], []⟩ [("script", v)]) ∧ ∀ base : Heap, K.In base → base.Ns mainGlobals mg → FnG l.prog w K mg base fa fd ["script"] (spLaw K) := by
  have e := hfa.symm.trans (PySem.W.mg_of X G a23)
  cases e
  have D_link_ways : Df K mg "link_ways" sLinkWays ["net"] := df_mk X G a0 l0 c0 k0 (fun _ _ _ _ _ _ us hl => match us, hl with | [_], _ => rfl)
  have D_ranks : Df K mg "ranks" sRanks ["order"] := df_mk X G a1 l1 c1 k1 (fun _ _ _ _ _ _ us hl => match us, hl with | [_], _ => rfl)
  have D_check_pairs : Df K mg "check_pairs" sChkP ["net", "order", "found", "ways"] := df_mk X G a2 l2 c2 k2 (fun _ _ _ _ _ _ us hl => match us, hl with | [_, _, _, _], _ => rfl)
  have D__all_go_up : Df K mg "_all_go_up" sGoUp ["rank", "found"] := df_mk X G a3 l3 c3 k3 (fun _ _ _ _ _ _ us hl => match us, hl with | [_, _], _ => rfl)
  have D__has : Df K mg "_has" sHas ["listed", "a", "b"] := df_mk X G a4 l4 c4 k4 (fun _ _ _ _ _ _ us hl => match us, hl with | [_, _, _], _ => rfl)
  have D__has_links : Df K mg "_has_links" sHasL ["net", "listed"] := df_mk X G a5 l5 c5 k5 (fun _ _ _ _ _ _ us hl => match us, hl with | [_, _], _ => rfl)
  have D__has_joins : Df K mg "_has_joins" sHasJ ["found", "listed"] := df_mk X G a6 l6 c6 k6 (fun _ _ _ _ _ _ us hl => match us, hl with | [_, _], _ => rfl)
  have D__is_way : Df K mg "_is_way" sIsWay ["rank", "joined", "pair", "way"] := df_mk X G a7 l7 c7 k7 (fun _ _ _ _ _ _ us hl => match us, hl with | [_, _, _, _], _ => rfl)
  have D__law_draws : Df K mg "_law_draws" sDraws ["script"] := df_mk X G a8 l8 c8 k8 (fun _ _ _ _ _ _ us hl => match us, hl with | [_], _ => rfl)
  have D__law_mix : Df K mg "_law_mix" sMix ["draws", "k", "many"] := df_mk X G a9 l9 c9 k9 (fun _ _ _ _ _ _ us hl => match us, hl with | [_, _, _], _ => rfl)
  have D__law_price : Df K mg "_law_price" sPrice ["draws", "k"] := df_mk X G a10 l10 c10 k10 (fun _ _ _ _ _ _ us hl => match us, hl with | [_, _], _ => rfl)
  have D__law_net : Df K mg "_law_net" sNet ["draws", "k", "most"] := df_mk X G a11 l11 c11 k11 (fun _ _ _ _ _ _ us hl => match us, hl with | [_, _, _], _ => rfl)
  have D__law_order : Df K mg "_law_order" sOrder ["draws", "k", "size"] := df_mk X G a12 l12 c12 k12 (fun _ _ _ _ _ _ us hl => match us, hl with | [_, _, _], _ => rfl)
  have D__law_joined : Df K mg "_law_joined" sLJoined6 ["links", "a", "b"] := df_mk X G a13 l13 c13 k13 (fun _ _ _ _ _ _ us hl => match us, hl with | [_, _, _], _ => rfl)
  have D__law_linked : Df K mg "_law_linked" sLinked ["net"] := df_mk X G a14 l14 c14 k14 (fun _ _ _ _ _ _ us hl => match us, hl with | [_], _ => rfl)
  have D__law_reached : Df K mg "_law_reached" sReached ["linked", "rank", "u"] := df_mk X G a15 l15 c15 k15 (fun _ _ _ _ _ _ us hl => match us, hl with | [_, _, _], _ => rfl)
  have D__law_rank : Df K mg "_law_rank" sRank ["order"] := df_mk X G a16 l16 c16 k16 (fun _ _ _ _ _ _ us hl => match us, hl with | [_], _ => rfl)
  have D__law_upper : Df K mg "_law_upper" sUpperL ["net", "order"] := df_mk X G a17 l17 c17 k17 (fun _ _ _ _ _ _ us hl => match us, hl with | [_, _], _ => rfl)
  have D__law_way : Df K mg "_law_way" sLWay6 ["linked", "rank", "u", "v", "draws", "k"] := df_mk X G a18 l18 c18 k18 (fun _ _ _ _ _ _ us hl => match us, hl with | [_, _, _, _, _, _], _ => rfl)
  have D__law_input : Df K mg "_law_input" sInput6 ["draws", "net", "order"] := df_mk X G a19 l19 c19 k19 (fun _ _ _ _ _ _ us hl => match us, hl with | [_, _, _], _ => rfl)
  have D__law_spoilt : Df K mg "_law_spoilt" sSpoilt6 ["draws", "k", "size", "found", "ways"] := df_mk X G a20 l20 c20 k20 (fun _ _ _ _ _ _ us hl => match us, hl with | [_, _, _, _, _], _ => rfl)
  have D__law_is_way : Df K mg "_law_is_way" sLIsWay6 ["net", "rank", "u", "v", "way"] := df_mk X G a21 l21 c21 k21 (fun _ _ _ _ _ _ us hl => match us, hl with | [_, _, _, _, _], _ => rfl)
  have D__law_due : Df K mg "_law_due" sDue6 ["net", "order", "found", "ways"] := df_mk X G a22 l22 c22 k22 (fun _ _ _ _ _ _ us hl => match us, hl with | [_, _, _, _], _ => rfl)
  have b_range := PySem.W.mg_none_of X G z0
  have b_min := PySem.W.mg_none_of X G z1
  have b_max := PySem.W.mg_none_of X G z2
  have b_len := PySem.W.mg_none_of X G z3
  have b_abs := PySem.W.mg_none_of X G z4
  have b_int := PySem.W.mg_none_of X G z5
  have b_bool := PySem.W.mg_none_of X G z6
  have b_list := PySem.W.mg_none_of X G z7
  have b_all := PySem.W.mg_none_of X G z8
  have b_isinstance := PySem.W.mg_none_of X G z9
  have b_enumerate := PySem.W.mg_none_of X G z10
  have b_sorted := PySem.W.mg_none_of X G z11
  have b_repr := PySem.W.mg_none_of X G z12
  have b_zip := PySem.W.mg_none_of X G z13
  have g_combinations := PySem.W.mg_of X G y0
  have E_NotAnOrder : PySem.LowX.LowTxt K mg "NotAnOrder" C0 fI := low_mk X G ⟨ea0, ⟨_, _, _, _, _, _, _, _, _, _, _, _, _, _, ex0⟩, es0, eg0, eh0, en0, ei0, ek0, eb0, et0, ed0, ec0, ef0⟩ ⟨tI, _, _, _, _, _, _, _, _, lI, cI⟩
  have F_law := fun_mk (st := sLaw) l23 c23 k23
  refine ⟨PySem.W.fnOf "law" "law" (defArgs sLaw) (defBody sLaw) (defScope sLaw) .none kV23 dc23 pm23 an23 cd23 ct23, fun s v => .of_eq rfl, fun base _ _ => ?_⟩
  have cD := kal_of D__law_draws (fun f fd F => ok_draws (P := l.prog) (w := w) (base := base) (k := 0) F b_range b_min b_len b_abs b_int)
  have cM := kal_of D__law_mix (fun f fd F => ok_mix (P := l.prog) (w := w) (base := base) (k := 0) F b_len b_int)
  have cPr := kal_of D__law_price (fun f fd F => ok_price F cM b_int)
  have cN := kal_of D__law_net (fun f fd F => ok_net F cM cPr b_range)
  have cO := kal_of D__law_order (fun f fd F => ok_order F cM b_range)
  have cRk := kalx_of D_ranks (fun f fd F => ok_ranks (P := l.prog) (w := w) (base := base) F E_NotAnOrder b_len b_enumerate)
  have cLw := kal_of D_link_ways (fun f fd F => ok_linkWays (P := l.prog) (w := w) (base := base) (K := K) (mg := mg) (k := 0) F)
  have cHs := kal_of D__has (fun f fd F => ok_has (P := l.prog) (w := w) (base := base) (K := K) (mg := mg) (k := 0) F)
  have cHl := kal_of D__has_links (fun f fd F => ok_hasL F cHs b_all)
  have cHj := kal_of D__has_joins (fun f fd F => ok_hasJ F cHs g_combinations)
  have cGu := kal_of D__all_go_up (fun f fd F => ok_goUp (P := l.prog) (w := w) (base := base) (k := 0) F b_len)
  have cIw := kal_of D__is_way (fun f fd F => ok_isWay (P := l.prog) (w := w) (base := base) (k := 0) F b_zip b_all)
  have cCk := kal_of D_check_pairs (fun f fd F => ok_chkP (k := 4) (by decide) (by decide) (by decide) (by decide) (by decide) (by decide) F cRk cLw cGu cHl cHj cIw b_len b_zip b_all)
  have cLk := kal_of D__law_linked (fun f fd F => ok_linked (P := l.prog) (w := w) (base := base) (k := 0) F b_range)
  have cRe := kal_of D__law_reached (fun f fd F => ok_reached (P := l.prog) (w := w) (base := base) (k := 0) F b_len b_range)
  have cRa := kal_of D__law_rank (fun f fd F => ok_rank (P := l.prog) (w := w) (base := base) (k := 0) F b_len b_range)
  have cRx := kal_of D__law_rank (fun f fd F => ok_rankX (P := l.prog) (w := w) (base := base) (k := 0) F b_len b_range)
  have cUL := kal_of D__law_upper (fun f fd F => ok_upperL F cRa cLk cRe)
  have cJn := kal_of D__law_joined (fun f fd F => ok_lJoined (P := l.prog) (w := w) (base := base) (k := 0) F b_min b_max)
  have cLi := kal_of D__law_is_way (fun f fd F => ok_lIsWay F cJn b_len b_range)
  have cDu := kal_of D__law_due (fun f fd F => ok_due6 (k := 3) (by decide) (by decide) F cRx cLi b_len b_range)
  have cWy := kal_of D__law_way (fun f fd F => ok_lWay6 F cM b_len b_range)
  have cIn := kal_of D__law_input (fun f fd F => ok_input6 (k := 4) (by decide) (by decide) (by decide) (by decide) (by decide) F cUL cLk cRx cM cWy b_len)
  have cSp := kal_of D__law_spoilt (fun f fd F => ok_spoilt6 F cM b_len b_list)
  exact ok_law (by decide) (by decide) (by decide) (by decide) (by decide) (by decide) F_law cD cN cO cIn cCk cSp cDu b_range b_isinstance b_bool b_list b_sorted b_repr
end Ovc
open PySem PySem.W PyProof.Rows
set_option maxHeartbeats 0 in
theorem PySem.Challenge.cw_overpasses_k06_check_of_pairs_holds : PySem.Challenge.rw_overpasses_k06_check_of_pairs.Holds := by
  w_on; o_law; k_head; (case hw => w_witness2)
  k_fill
  refine Ovc.walkG (l := PySem.Challenge.rw_overpasses_k06_check_of_pairs) (n := 63) (x := "script") (sp := fun w => Ovc.spLaw _) rfl (by decide) rfl (fun w h Y => PySem.W.kIn_of Y) ?F (fun _ _ a ns hl _ hS => ⟨a, ns, rfl, hS, hl, fun _ => rfl⟩)
  case F =>
    intro w mg fa h KX G hmg
    refine' Ovc.all_mk KX G hmg ?a0 ?l0 ?c0 ?k0 ?a1 ?l1 ?c1 ?k1 ?a2 ?l2 ?c2 ?k2 ?a3 ?l3 ?c3 ?k3 ?a4 ?l4 ?c4 ?k4 ?a5 ?l5 ?c5 ?k5 ?a6 ?l6 ?c6 ?k6 ?a7 ?l7 ?c7 ?k7 ?a8 ?l8 ?c8 ?k8 ?a9 ?l9 ?c9 ?k9 ?a10 ?l10 ?c10 ?k10 ?a11 ?l11 ?c11 ?k11 ?a12 ?l12 ?c12 ?k12 ?a13 ?l13 ?c13 ?k13 ?a14 ?l14 ?c14 ?k14 ?a15 ?l15 ?c15 ?k15 ?a16 ?l16 ?c16 ?k16 ?a17 ?l17 ?c17 ?k17 ?a18 ?l18 ?c18 ?k18 ?a19 ?l19 ?c19 ?k19 ?a20 ?l20 ?c20 ?k20 ?a21 ?l21 ?c21 ?k21 ?a22 ?l22 ?c22 ?k22 ?a23 ?l23 ?c23 ?k23 ?tI ?lI ?cI ?ea0 ?ex0 ?es0 ?eg0 ?eh0 ?en0 ?ei0 ?ek0 ?eb0 ?et0 ?ed0 ?ec0 ?ef0 ?y0 ?z0 ?z1 ?z2 ?z3 ?z4 ?z5 ?z6 ?z7 ?z8 ?z9 ?z10 ?z11 ?z12 ?z13
    (case a0 => k_is)
    (case l0 => k_is)
    (case c0 => k_is)
    (case k0 => k_is)
    (case a1 => k_is)
    (case l1 => k_is)
    (case c1 => k_is)
    (case k1 => k_is)
    (case a2 => k_is)
    (case l2 => k_is)
    (case c2 => k_is)
    (case k2 => k_is)
    (case a3 => k_is)
    (case l3 => k_is)
    (case c3 => k_is)
    (case k3 => k_is)
    (case a4 => k_is)
    (case l4 => k_is)
    (case c4 => k_is)
    (case k4 => k_is)
    (case a5 => k_is)
    (case l5 => k_is)
    (case c5 => k_is)
    (case k5 => k_is)
    (case a6 => k_is)
    (case l6 => k_is)
    (case c6 => k_is)
    (case k6 => k_is)
    (case a7 => k_is)
    (case l7 => k_is)
    (case c7 => k_is)
    (case k7 => k_is)
    (case a8 => k_is)
    (case l8 => k_is)
    (case c8 => k_is)
    (case k8 => k_is)
    (case a9 => k_is)
    (case l9 => k_is)
    (case c9 => k_is)
    (case k9 => k_is)
    (case a10 => k_is)
    (case l10 => k_is)
    (case c10 => k_is)
    (case k10 => k_is)
    (case a11 => k_is)
    (case l11 => k_is)
    (case c11 => k_is)
    (case k11 => k_is)
    (case a12 => k_is)
    (case l12 => k_is)
    (case c12 => k_is)
    (case k12 => k_is)
    (case a13 => k_is)
    (case l13 => k_is)
    (case c13 => k_is)
    (case k13 => k_is)
    (case a14 => k_is)
    (case l14 => k_is)
    (case c14 => k_is)
    (case k14 => k_is)
    (case a15 => k_is)
    (case l15 => k_is)
    (case c15 => k_is)
    (case k15 => k_is)
    (case a16 => k_is)
    (case l16 => k_is)
    (case c16 => k_is)
    (case k16 => k_is)
    (case a17 => k_is)
    (case l17 => k_is)
    (case c17 => k_is)
    (case k17 => k_is)
    (case a18 => k_is)
    (case l18 => k_is)
    (case c18 => k_is)
    (case k18 => k_is)
    (case a19 => k_is)
    (case l19 => k_is)
    (case c19 => k_is)
    (case k19 => k_is)
    (case a20 => k_is)
    (case l20 => k_is)
    (case c20 => k_is)
    (case k20 => k_is)
    (case a21 => k_is)
    (case l21 => k_is)
    (case c21 => k_is)
    (case k21 => k_is)
    (case a22 => k_is)
    (case l22 => k_is)
    (case c22 => k_is)
    (case k22 => k_is)
    (case a23 => k_is)
    (case l23 => k_is)
    (case c23 => k_is)
    (case k23 => k_is)
    (case ea0 => k_is)
    (case ex0 => k_is)
    (case es0 => k_is)
    (case eg0 => k_is)
    (case eh0 => k_is)
    (case en0 => k_is)
    (case ei0 => k_is)
    (case ek0 => k_is)
    (case eb0 => k_is)
    (case et0 => k_is)
    (case ed0 => k_is)
    (case ec0 => k_is)
    (case ef0 => first | rfl | k_is)
    (case y0 => k_is)
    (case z0 => k_is)
    (case z1 => k_is)
    (case z2 => k_is)
    (case z3 => k_is)
    (case z4 => k_is)
    (case z5 => k_is)
    (case z6 => k_is)
    (case z7 => k_is)
    (case z8 => k_is)
    (case z9 => k_is)
    (case z10 => k_is)
    (case z11 => k_is)
    (case z12 => k_is)
    (case z13 => k_is)
    (case tI => k_is)
    (case lI => k_is)
    (case cI => k_is)
