import PyProof.Rows.All
import Wide.All
import OpenK.AllK
import Wide.FinOn
import PySem.Challenge.RW_overpasses_k18_taking_edits_back
import HandS.Base
import HandS.Call
import HandS.List
import HandS.Comp
import HandS.Dict
import HandS.Ends
import HandS.Iter
import HandS.Text
import HandS.Words
import HandS.Evl
import HandS.IsInst
import HandS.Style
import HandS.Exc
import HandS.TryOnly
import HandS.TryMany
import HandS.ExcOwn
import HandS.WordsExc
import HandS.TupLe
import HandS.Conv
import HandS.Walk
import HandS.WordsDict
import HandS.More
import HandS.Sort
import HandS.Deep
import HandS.DictComp
import HandS.DeepEq
import PyProof.ZipIter
import PyProof.CallType
import PyProof.Walk
import PyProof.WalkLemmas
import PyProof.RangeIter
import PyProof.RulesTry
import HandS.DictTup
import KE.KDictWalk
import KE.KDictZip
set_option Elab.async false
set_option linter.all false
set_option maxRecDepth 100000
set_option maxHeartbeats 2000000
namespace Ovc
open PySem PySem.Spec PyProof.Rows L2
def topS (i : Nat) : Stmt := PySem.Challenge.pw_overpasses_k18_taking_edits_back.main.body.getD i (.Pass ⟨0, 0, 0, 0⟩)
/-! ### heaps -/
theorem same_upd {H : Hp} {p : Addr} {o : HO} (h : H p = none) : Same H (upd H p o) := fun b x e => by
  rw [upd_ne (ne_of_none e h)]
  exact e
theorem same_upd' {G H : Hp} {p : Addr} {o : HO} (s : Same G H) (h : G p = none) : Same G (upd H p o) := fun b x e => by
  rw [upd_ne (ne_of_none e h)]
  exact s b x e
/-- all of H but what stands at o -/
def but (H : Hp) (o : Addr) : Hp := fun b => if b = o then none else H b
theorem but_at {H : Hp} {o : Addr} : but H o o = none := if_pos rfl
theorem but_ne {H : Hp} {o b : Addr} (h : b ≠ o) : but H o b = H b := if_neg h
theorem but_same {H : Hp} {o : Addr} : Same (but H o) H := fun b x e => by
  by_cases h : b = o
  · rw [h, but_at] at e
    cases e
  · rw [but_ne h] at e
    exact e
theorem same_but {G H : Hp} {o : Addr} (s : Same G H) (n : G o = none) : Same G (but H o) := fun b x e => by
  rw [but_ne (ne_of_none e n)]
  exact s b x e
theorem but_mono {H H' : Hp} {o : Addr} (s : Same H H') : Same (but H o) (but H' o) := fun b x e => by
  by_cases h : b = o
  · rw [h, but_at] at e
    cases e
  · rw [but_ne h] at e ⊢
    exact s b x e
theorem but_upd {H : Hp} {o : Addr} {u : HO} : but (upd H o u) o = but H o := by
  funext b
  by_cases h : b = o
  · rw [h, but_at, but_at]
  · rw [but_ne h, but_ne h, upd_ne h]
/-- a store at o, seen from what stands beside it -/
theorem but_upd_same {H : Hp} {o : Addr} {u : HO} : Same (but H o) (upd H o u) := fun b x e => by
  by_cases h : b = o
  · rw [h, but_at] at e
    cases e
  · rw [but_ne h] at e
    rw [upd_ne h]
    exact e
theorem seqT {K : PySem.W.Frag} {H H' : Hp} {a : Addr} {xs : List V} (e : Same H H') (h : SqT K H a xs) : SqT K H' a xs := by
  rcases h with (h | ⟨o, h⟩) | h
  · exact .inl (.inl (e _ _ h))
  · exact .inl (.inr ⟨o, e _ _ h⟩)
  · exact .inr h
mutual
theorem dpS {K : PySem.W.Frag} {H H' : Hp} (s : Same H H') : ∀ (d : PyData) (v : V), Dp K H v d → Dp K H' v d
  | .none, _, h => by
    cases h
    exact .non
  | .bool b, _, h => by
    cases h
    exact .bl b
  | .int i, _, h => by
    cases h
    exact .int i
  | .str x, _, h => by
    cases h
    exact .str x
  | .list ds, _, h => by
    cases h with
    | lst hs ha => exact .lst (s.seq hs) (dpSAll s ds _ ha)
  | .tuple ds, _, h => by
    cases h with
    | tup hs ha => exact .tup (seqT s hs) (dpSAll s ds _ ha)
  | .dict _, _, h => by cases h
theorem dpSAll {K : PySem.W.Frag} {H H' : Hp} (s : Same H H') : ∀ (ds : List PyData) (vs : List V), DpAll K H vs ds → DpAll K H' vs ds
  | [], _, h => by
    cases h
    exact .nil
  | d :: ds, _, h => by
    cases h with
    | cons h1 h2 => exact .cons (dpS s d _ h1) (dpSAll s ds _ h2)
end
theorem Dp.to {K : PySem.W.Frag} {H H' : Hp} {v : V} {d : PyData} (h : Dp K H v d) (s : Same H H') : Dp K H' v d := dpS s d v h
theorem DpAll.to {K : PySem.W.Frag} {H H' : Hp} {vs : List V} {ds : List PyData} (h : DpAll K H vs ds) (s : Same H H') : DpAll K H' vs ds := dpSAll s ds vs h
theorem DpAll.len {K : PySem.W.Frag} {H : Hp} : ∀ {vs : List V} {ds : List PyData}, DpAll K H vs ds → vs.length = ds.length
  | _, _, .nil => rfl
  | _, _, .cons _ t => by
    rw [List.length_cons, List.length_cons, DpAll.len t]
theorem DpAll.get {K : PySem.W.Frag} {H : Hp} : ∀ {vs : List V} {ds : List PyData} {i : Nat} {d : PyData}, DpAll K H vs ds → ds[i]? = some d → ∃ v, vs[i]? = some v ∧ Dp K H v d
  | _, _, i, d, .nil, e => by simp at e
  | _, _, 0, d, .cons h _, e => by
    have e' := Option.some.inj e
    subst e'
    exact ⟨_, rfl, h⟩
  | _, _, i + 1, d, .cons _ t, e => DpAll.get (i := i) t e
theorem DpAll.app {K : PySem.W.Frag} {H : Hp} : ∀ {vs ws : List V} {ds es : List PyData}, DpAll K H vs ds → DpAll K H ws es → DpAll K H (vs ++ ws) (ds ++ es)
  | _, _, _, _, .nil, t => t
  | _, _, _, _, .cons h r, t => .cons h (DpAll.app r t)
theorem DpAll.take {K : PySem.W.Frag} {H : Hp} : ∀ {vs : List V} {ds : List PyData} (n : Nat), DpAll K H vs ds → DpAll K H (vs.take n) (ds.take n)
  | _, _, 0, _ => .nil
  | _, _, _ + 1, .nil => .nil
  | _, _, n + 1, .cons h t => .cons h (DpAll.take n t)
theorem DpAll.drop {K : PySem.W.Frag} {H : Hp} : ∀ {vs : List V} {ds : List PyData} (n : Nat), DpAll K H vs ds → DpAll K H (vs.drop n) (ds.drop n)
  | _, _, 0, h => h
  | _, _, _ + 1, .nil => .nil
  | _, _, n + 1, .cons _ t => DpAll.drop n t
theorem DpAll.one {K : PySem.W.Frag} {H : Hp} {v : V} {d : PyData} (h : Dp K H v d) : DpAll K H [v] [d] := .cons h .nil
theorem Dp.int_inv {K : PySem.W.Frag} {H : Hp} {v : V} {i : Int} (h : Dp K H v (.int i)) : v = .int i := by
  cases h
  rfl
theorem DpAll.ints {K : PySem.W.Frag} {H : Hp} : ∀ ns : List Int, DpAll K H (ns.map V.int) (ns.map PyData.int)
  | [] => .nil
  | n :: ns => .cons (.int n) (DpAll.ints ns)
theorem DpAll.ints_inv {K : PySem.W.Frag} {H : Hp} : ∀ {ns : List Int} {vs : List V}, DpAll K H vs (ns.map PyData.int) → vs = ns.map V.int
  | [], _, h => by
    cases h
    rfl
  | n :: ns, _, h => by
    cases h with
    | cons h1 h2 =>
      rw [Dp.int_inv h1, DpAll.ints_inv h2]
      rfl
theorem Dp.lst_inv {K : PySem.W.Frag} {H : Hp} {v : V} {ds : List PyData} (h : Dp K H v (.list ds)) : ∃ a xs, v = .ref a ∧ SqL K H a xs ∧ DpAll K H xs ds := by
  cases h with
  | lst hs ha => exact ⟨_, _, rfl, hs, ha⟩
theorem Dp.tup_inv {K : PySem.W.Frag} {H : Hp} {v : V} {ds : List PyData} (h : Dp K H v (.tuple ds)) : ∃ a xs, v = .ref a ∧ SqT K H a xs ∧ DpAll K H xs ds := by
  cases h with
  | tup hs ha => exact ⟨_, _, rfl, hs, ha⟩
/-! ### an int or None -/
def oV : Option Int → V
  | none => .non
  | some i => .int i
def oD : Option Int → PyData
  | none => .none
  | some i => .int i
theorem Dp.o {K : PySem.W.Frag} {H : Hp} : ∀ o : Option Int, Dp K H (oV o) (oD o)
  | none => .non
  | some i => .int i
theorem Dp.o_inv {K : PySem.W.Frag} {H : Hp} {v : V} : ∀ {o : Option Int}, Dp K H v (oD o) → v = oV o
  | none, h => by
    cases h
    rfl
  | some i, h => by
    cases h
    rfl
theorem oV_non {o : Option Int} : decide (oV o = .non) = o.isNone := by
  cases o <;> rfl
theorem eqv_o : ∀ a b : Option Int, PyData.eqv (oD a) (oD b) = decide (a = b)
  | none, none => by rfl
  | none, some _ => by rfl
  | some _, none => by rfl
  | some a, some b => by
    show (a == b) = _
    by_cases h : a = b
    · subst h
      rw [decide_eq_true rfl]
      exact beq_self_eq_true a
    · rw [decide_eq_false (fun e => h (Option.some.inj e))]
      exact beq_eq_false_iff_ne.mpr h
theorem shaped_o (a : Option Int) : SeqAt.shaped (oD a) = true := by
  cases a <;> rfl
/-! ### links and nets -/
structure Lnk where
  a : Int
  b : Int
  t : Option Int
  k : Option Int
structure Net where
  n : Int
  ls : List Lnk
def lnkV (l : Lnk) : List V := [.int l.a, .int l.b, oV l.t, oV l.k]
def lnkD (l : Lnk) : PyData := .tuple [.int l.a, .int l.b, oD l.t, oD l.k]
def netD (N : Net) : PyData := .tuple [.int N.n, .list (N.ls.map lnkD)]
theorem Dp.lnk_inv {K : PySem.W.Frag} {H : Hp} {v : V} {l : Lnk} (h : Dp K H v (lnkD l)) : ∃ a, v = .ref a ∧ SqT K H a (lnkV l) := by
  obtain ⟨a, xs, rfl, hs, ha⟩ := Dp.tup_inv h
  cases ha with
  | cons h1 r1 =>
    cases r1 with
    | cons h2 r2 =>
      cases r2 with
      | cons h3 r3 =>
        cases r3 with
        | cons h4 r4 =>
          cases r4
          rw [Dp.int_inv h1, Dp.int_inv h2, Dp.o_inv h3, Dp.o_inv h4] at hs
          exact ⟨a, rfl, hs⟩
theorem Dp.lnk {K : PySem.W.Frag} {H : Hp} {a : Addr} {l : Lnk} (h : SqT K H a (lnkV l)) : Dp K H (.ref a) (lnkD l) :=
  .tup h (.cons (.int _) (.cons (.int _) (.cons (Dp.o _) (.cons (Dp.o _) .nil))))
theorem Dp.net_inv {K : PySem.W.Frag} {H : Hp} {v : V} {N : Net} (h : Dp K H v (netD N)) : ∃ p q xs, v = .ref p ∧ SqT K H p [.int N.n, .ref q] ∧ SqL K H q xs ∧ DpAll K H xs (N.ls.map lnkD) := by
  obtain ⟨a, xs, rfl, hs, ha⟩ := Dp.tup_inv h
  cases ha with
  | cons h1 r1 =>
    cases r1 with
    | cons h2 r2 =>
      cases r2
      obtain ⟨q, ys, rfl, hl, hy⟩ := Dp.lst_inv h2
      rw [Dp.int_inv h1] at hs
      exact ⟨a, q, ys, rfl, hs, hl, hy⟩
theorem Dp.net {K : PySem.W.Frag} {H : Hp} {p q : Addr} {xs : List V} {N : Net} (h : SqT K H p [.int N.n, .ref q]) (hq : SqL K H q xs) (hx : DpAll K H xs (N.ls.map lnkD)) : Dp K H (.ref p) (netD N) :=
  .tup h (.cons (.int _) (.cons (.lst hq hx) .nil))
/-! ### pure expressions: what they evaluate to, the heap as it is -/
def Vl (te : TE) (σ : L2.St) (H : Hp) (v : V) : Prop := ∀ Q : VK, Q v H → te σ H Q
def An (t : TT) (σ : L2.St) (H : Hp) (b : Bool) : Prop := ∀ Q : Bool → Hp → Prop, Q b H → t σ H Q
def Va (ta : TA) (σ : L2.St) (H : Hp) (vs : List V) : Prop := ∀ Q : List V → Hp → Prop, Q vs H → ta σ H Q
section
variable {K : PySem.W.Frag} {σ : L2.St} {H : Hp} {i : Nat} {v x y z : V} {ta tb te tv : TE} {b : Bool} {a : Addr} {t u c : TT} {tr : TA} {D : Ends} {tz tw : TS}
theorem va_nil : Va tNil σ H [] := fun _ q => q
theorem va_cons {vs : List V} (h : Vl ta σ H x) (hr : Va tr σ H vs) : Va (tCons ta tr) σ H (x :: vs) := fun Q q => h _ (hr _ q)
theorem vl_var (h : σ[i]? = some (some v)) : Vl (tVar i) σ H v := fun _ q => ⟨v, h, q⟩
theorem vl_c : Vl (tC v) σ H v := fun _ q => q
theorem vl_op {r : R2} (ha : Vl ta σ H x) (hb : Vl tb σ H y) (hr : ∀ Q : VK, Q z H → r x y H Q) : Vl (tOp r ta tb) σ H z := fun Q q => ha _ (hb _ (hr _ q))
theorem vl_I0 {g : Int → Int → V} {p q : Int} (ha : Vl ta σ H (.int p)) (hb : Vl tb σ H (.int q)) : Vl (tOp (rI0 g) ta tb) σ H (g p q) := vl_op ha hb fun _ k => ⟨p, q, rfl, rfl, k⟩
theorem vl_I {C : Int → Int → Prop} {g : Int → Int → V} {p q : Int} (ha : Vl ta σ H (.int p)) (hb : Vl tb σ H (.int q)) (hc : C p q) : Vl (tOp (rI C g) ta tb) σ H (g p q) := vl_op ha hb fun _ k => ⟨p, q, rfl, rfl, hc, k⟩
theorem vl_un {r : V → Hp → VK → Prop} (ha : Vl ta σ H x) (hr : ∀ Q : VK, Q z H → r x H Q) : Vl (tUn r ta) σ H z := fun Q q => ha _ (hr _ q)
theorem vl_neg {p : Int} (ha : Vl ta σ H (.int p)) : Vl (tUn (rU fun i => .int (-i)) ta) σ H (.int (-p)) := vl_un ha fun _ k => ⟨p, rfl, k⟩
theorem vl_cb {r : List V → Hp → VK → Prop} {vs : List V} (h : Va tr σ H vs) (hr : ∀ Q : VK, Q z H → r vs H Q) : Vl (tCB r tr) σ H z := fun Q q => h _ (hr _ q)
theorem vl_int1 {p : Int} (ha : Vl ta σ H (.int p)) : Vl (tCB (fun xs H Q => (∃ i, xs = [V.int i] ∧ Q (V.int i) H) ∨ ∃ k, xs = [V.bl k] ∧ Q (V.int (if k then 1 else 0)) H) (tCons ta tNil)) σ H (.int p) :=
  vl_cb (va_cons ha va_nil) fun _ k => .inl ⟨p, rfl, k⟩
theorem vl_int1b {k : Bool} (ha : Vl ta σ H (.bl k)) : Vl (tCB (fun xs H Q => (∃ i, xs = [V.int i] ∧ Q (V.int i) H) ∨ ∃ k, xs = [V.bl k] ∧ Q (V.int (if k then 1 else 0)) H) (tCons ta tNil)) σ H (.int (if k then 1 else 0)) :=
  vl_cb (va_cons ha va_nil) fun _ q => .inr ⟨k, rfl, q⟩
theorem vl_abs {p : Int} (ha : Vl ta σ H (.int p)) : Vl (tCB (fun xs H Q => ∃ i, xs = [V.int i] ∧ Q (V.int (if i < 0 then -i else i)) H) (tCons ta tNil)) σ H (.int (if p < 0 then -p else p)) :=
  vl_cb (va_cons ha va_nil) fun _ k => ⟨p, rfl, k⟩
theorem vl_min2 {p q : Int} (ha : Vl ta σ H (.int p)) (hb : Vl tb σ H (.int q)) : Vl (tCB (fun xs H Q => ∃ i j, xs = [V.int i, V.int j] ∧ Q (V.int (if j < i then j else i)) H) (tCons ta (tCons tb tNil))) σ H (.int (if q < p then q else p)) :=
  vl_cb (va_cons ha (va_cons hb va_nil)) fun _ k => ⟨p, q, rfl, k⟩
theorem vl_max2 {p q : Int} (ha : Vl ta σ H (.int p)) (hb : Vl tb σ H (.int q)) : Vl (tCB (fun xs H Q => ∃ i j, xs = [V.int i, V.int j] ∧ Q (V.int (if j > i then j else i)) H) (tCons ta (tCons tb tNil))) σ H (.int (if q > p then q else p)) :=
  vl_cb (va_cons ha (va_cons hb va_nil)) fun _ k => ⟨p, q, rfl, k⟩
theorem vl_lenL {xs : List V} (ha : Vl ta σ H (.ref a)) (h : SqL K H a xs) : Vl (tCB (fun xs H Q => ∃ p ys, xs = [V.ref p] ∧ (SqL K H p ys ∨ SqT K H p ys) ∧ Q (V.int ys.length) H) (tCons ta tNil)) σ H (.int xs.length) :=
  vl_cb (va_cons ha va_nil) fun _ k => ⟨a, xs, rfl, .inl h, k⟩
theorem vl_ixL {xs : List V} {p : Int} (ha : Vl ta σ H (.ref a)) (hb : Vl tb σ H (.int p)) (h : SqL K H a xs) (hg : atI xs p = some z) : Vl (tOp (rIxL K) ta tb) σ H z :=
  vl_op ha hb fun _ k => ⟨a, xs, p, z, rfl, rfl, h, hg, k⟩
theorem vl_ixT {xs : List V} {p : Int} (ha : Vl ta σ H (.ref a)) (hb : Vl tb σ H (.int p)) (h : SqT K H a xs) (hg : atI xs p = some z) : Vl (tOp (rIxT K) ta tb) σ H z :=
  vl_op ha hb fun _ k => ⟨a, xs, p, z, rfl, rfl, h, hg, k⟩
theorem vl_eq (ha : Vl ta σ H x) (hb : Vl tb σ H y) (hs : scal x y = true) : Vl (tOp rEq ta tb) σ H (.bl (decide (x = y))) := vl_op ha hb fun _ k => ⟨hs, k⟩
theorem vl_ne (ha : Vl ta σ H x) (hb : Vl tb σ H y) (hs : scal x y = true) : Vl (tOp rNe ta tb) σ H (.bl (!decide (x = y))) := vl_op ha hb fun _ k => ⟨hs, k⟩
theorem vl_isN (ha : Vl ta σ H x) : Vl (tOp (fun x y H Q => y = V.non ∧ Q (V.bl (decide (x = V.non))) H) ta (tC .non)) σ H (.bl (decide (x = .non))) := vl_op ha vl_c fun _ k => ⟨rfl, k⟩
theorem vl_notN (ha : Vl ta σ H x) : Vl (tOp (fun x y H Q => y = V.non ∧ Q (V.bl (!decide (x = V.non))) H) ta (tC .non)) σ H (.bl (!decide (x = .non))) := vl_op ha vl_c fun _ k => ⟨rfl, k⟩
theorem vl_chain {r r' : R2} {tc : TE} {w : V} {k m : Bool} (ha : Vl ta σ H x) (hb : Vl tb σ H y) (hr : ∀ Q : VK, Q (.bl k) H → r x y H Q) (hc : Vl tc σ H w) (hr' : ∀ Q : VK, Q (.bl m) H → r' y w H Q) : Vl (tChain r r' ta tb tc) σ H (.bl (k && m)) := fun Q q =>
  ha _ (hb _ (hr _ ⟨k, rfl, by
    cases k with
    | true => exact iteT (hc _ (hr' _ q))
    | false => exact iteF q⟩))
theorem vl_chainI {g g' : Int → Int → Bool} {tc : TE} {p q s : Int} (ha : Vl ta σ H (.int p)) (hb : Vl tb σ H (.int q)) (hc : Vl tc σ H (.int s)) :
    Vl (tChain (rI0 fun i j => .bl (g i j)) (rI0 fun i j => .bl (g' i j)) ta tb tc) σ H (.bl (g p q && g' q s)) :=
  vl_chain ha hb (fun _ k => ⟨p, q, rfl, rfl, k⟩) hc (fun _ k => ⟨q, s, rfl, rfl, k⟩)
theorem vl_if {b : Bool} (h : An t σ H b) (h1 : b = true → Vl ta σ H v) (h2 : b = false → Vl tb σ H v) : Vl (tIf t ta tb) σ H v := fun Q q => h _ (by
  cases b with
  | true => exact iteT (h1 rfl _ q)
  | false => exact iteF (h2 rfl _ q))
theorem an_test {b : Bool} (h : Vl te σ H (.bl b)) : An (tTest te) σ H b := fun Q q => h _ ⟨b, rfl, q⟩
theorem an_B {b : Bool} (h : Vl te σ H (.bl b)) : An (tB te) σ H b := fun Q q => h _ ⟨b, rfl, q⟩
theorem an_not (h : An t σ H b) : An (tNot t) σ H (!b) := fun Q q => h _ q
theorem an_and {k m : Bool} (h1 : An t σ H k) (h2 : k = true → An u σ H m) : An (tAnd t u) σ H (k && m) := fun Q q => h1 _ (by
  cases k with
  | true => exact iteT (h2 rfl _ q)
  | false => exact iteF q)
theorem an_or {k m : Bool} (h1 : An t σ H k) (h2 : k = false → An u σ H m) : An (tOr t u) σ H (k || m) := fun Q q => h1 _ (by
  cases k with
  | true => exact iteT q
  | false => exact iteF (h2 rfl _ q))
theorem An.is {k m : Bool} (h : An t σ H k) (e : k = m) : An t σ H m := e ▸ h
theorem Vl.is {v w : V} (h : Vl te σ H v) (e : v = w) : Vl te σ H w := e ▸ h
/-! ### statements over them -/
theorem g_seq (h : tz { D with nx := tw D } σ H) : tSeq tz tw D σ H := h
theorem g_asg {i : Nat} (h : Vl te σ H v) (k : D.nx (σ.set i (some v)) H) : tAsg te (gName i) D σ H := h _ k
theorem g_ret (h : Vl te σ H v) (k : D.rt v H) : tRet te D σ H := h _ k
theorem g_if {b : Bool} (h : An t σ H b) (h1 : b = true → tz D σ H) (h2 : b = false → tw D σ H) : tIfS t tz tw D σ H := h _ (by
  cases b with
  | true => exact iteT (h1 rfl)
  | false => exact iteF (h2 rfl))
theorem g_app {l : Addr} {xs : List V} (ho : Vl ta σ H (.ref l)) (hl : H l = some (.lst xs)) (h : Vl te σ H v) (hz : xs.length < sizeLine) (k : D.nx σ (upd H l (.lst (xs ++ [v])))) :
    tDrop (tBM K "list" rAppend ta (tCons te tNil)) D σ H := ho _ ⟨.inl ⟨rfl, _, .inl (.inl hl)⟩, h _ ⟨l, xs, v, rfl, rfl, hl, hz, k⟩⟩
theorem at_int {ds : List Int} {k : Int} (h0 : 0 ≤ k) (h1 : k < (ds.length : Int)) : ∃ d, atI (ds.map V.int) k = some (.int d) ∧ ds[k.toNat]? = some d := by
  have hj : k.toNat < ds.length := by omega
  have g : (ds.map V.int)[k.toNat]? = some (.int ds[k.toNat]) := by
    rw [List.getElem?_map, List.getElem?_eq_getElem hj]
    rfl
  have g2 := atI_nat g
  rw [show ((k.toNat : Nat) : Int) = k by omega] at g2
  exact ⟨ds[k.toNat], g2, List.getElem?_eq_getElem hj⟩
/-! ### loops -/
theorem g_forR {j : Nat} {n : Int} (h : Va tr σ H [.int n]) (hn : -(2 ^ 62) ≤ n ∧ n < 2 ^ 62) (Pv : Nat → L2.St → Hp → Prop) (h0 : Pv 0 σ H)
    (hs : ∀ (i : Nat) σ H, (i : Int) < n → Pv i σ H → tz { D with nx := Pv (i + 1), ct := Pv (i + 1), bk := D.nx } (σ.set j (some (.int i))) H) (hd : ∀ σ H, Pv n.toNat σ H → D.nx σ H) :
    tFor (iRng1 tr) (gName j) tz D σ H := h _ ⟨n, rfl, hn.1, hn.2, for_range (lo := 0) (n := n.toNat) Pv h0 (fun i σ H hi p => by
      show tz _ (σ.set j (some (.int (0 + i)))) H
      rw [Int.zero_add]
      exact hs i σ H (by omega) p) hd⟩
theorem g_forR2 {j : Nat} {lo n : Int} (h : Va tr σ H [.int lo, .int n]) (hn : -(2 ^ 62) ≤ lo ∧ lo < 2 ^ 62 ∧ -(2 ^ 62) ≤ n ∧ n < 2 ^ 62) (Pv : Nat → L2.St → Hp → Prop) (h0 : Pv 0 σ H)
    (hs : ∀ (i : Nat) σ H, lo + (i : Int) < n → Pv i σ H → tz { D with nx := Pv (i + 1), ct := Pv (i + 1), bk := D.nx } (σ.set j (some (.int (lo + i)))) H) (hd : ∀ σ H, Pv (n - lo).toNat σ H → D.nx σ H) :
    tFor (iRng2 tr) (gName j) tz D σ H := h _ ⟨lo, n, rfl, hn, for_range (lo := lo) (n := (n - lo).toNat) Pv h0 (fun i σ H hi p => hs i σ H (by omega) p) hd⟩
theorem g_forL {j : Nat} {xs : List V} {tl : TE} (h : Vl tl σ H (.ref a)) (hx : SqL K H a xs) (Pv : Nat → L2.St → Hp → Prop) (h0 : Pv 0 σ H) (hl : ∀ i σ' H', Pv i σ' H' → SqL K H' a xs)
    (hs : ∀ (i : Nat) x σ H, xs[i]? = some x → Pv i σ H → tz { D with nx := Pv (i + 1), ct := Pv (i + 1), bk := D.nx } (σ.set j (some x)) H) (hd : ∀ σ H, Pv xs.length σ H → D.nx σ H) :
    tFor (iList K tl) (gName j) tz D σ H := h _ ⟨a, rfl, ⟨_, hx⟩, for_list (xs := xs) Pv h0 (fun i σ H _ p => hl i σ H p) hs hd⟩
/-- for a, b, there, back in links -/
theorem g_forLnk {j1 j2 j3 j4 : Nat} {Hb : Hp} {xs : List V} {ls : List Lnk} {tl : TE} (h : Vl tl σ H (.ref a)) (hx : SqL K Hb a xs) (hL : DpAll K Hb xs (ls.map lnkD)) (hb : Same Hb H) (Pv : Nat → L2.St → Hp → Prop) (h0 : Pv 0 σ H) (hl : ∀ i σ' H', Pv i σ' H' → Same Hb H')
    (hs : ∀ (i : Nat) l σ H, ls[i]? = some l → Pv i σ H → tz { D with nx := Pv (i + 1), ct := Pv (i + 1), bk := D.nx } ((((σ.set j1 (some (.int l.a))).set j2 (some (.int l.b))).set j3 (some (oV l.t))).set j4 (some (oV l.k))) H) (hd : ∀ σ H, Pv ls.length σ H → D.nx σ H) :
    tFor (iList K tl) (gTup K 4 (gCons (gName j1) (gCons (gName j2) (gCons (gName j3) (gCons (gName j4) gNil))))) tz D σ H := h _ ⟨a, rfl, ⟨_, hb.seq hx⟩, for_list (xs := xs) Pv h0 (fun i σ H _ p => (hl i σ H p).seq hx) (fun i x σ H hi p => by
      have e := DpAll.len hL
      rw [List.length_map] at e
      have hlt : i < xs.length := by
        by_cases hlt : i < xs.length
        · exact hlt
        · rw [List.getElem?_eq_none (by omega)] at hi
          cases hi
      have hg : ls[i]? = some ls[i] := List.getElem?_eq_getElem (by omega)
      obtain ⟨v, hv, dv⟩ := DpAll.get (i := i) (d := lnkD ls[i]) hL (by
        rw [List.getElem?_map, hg]
        rfl)
      cases hi.symm.trans hv
      obtain ⟨t, rfl, ht⟩ := Dp.lnk_inv dv
      exact ⟨t, _, rfl, seqT (hl i σ H p) ht, rfl, _, _, rfl, _, _, rfl, _, _, rfl, _, _, rfl, rfl, hs i _ σ H hg p⟩) (fun σ H p => by
      have e := DpAll.len hL
      rw [List.length_map] at e
      rw [e] at p
      exact hd σ H p)⟩
/-! ### the same with what follows -/
theorem q_asg {i : Nat} (h : Vl te σ H v) (k : tw D (σ.set i (some v)) H) : tSeq (tAsg te (gName i)) tw D σ H := h _ k
theorem q_if {b : Bool} {tu : TS} (h : An t σ H b) (h1 : b = true → tz { D with nx := tw D } σ H) (h2 : b = false → tu { D with nx := tw D } σ H) : tSeq (tIfS t tz tu) tw D σ H := g_if (D := { D with nx := tw D }) h h1 h2
/-- an if without else whose body leaves the def (or the turn) -/
theorem q_when {b : Bool} (h : An t σ H b) (h1 : b = true → tz { D with nx := tw D } σ H) (h2 : b = false → tw D σ H) : tSeq (tIfS t tz tNext) tw D σ H := g_if (D := { D with nx := tw D }) h h1 h2
theorem g_when {b : Bool} (h : An t σ H b) (h1 : b = true → tz D σ H) (h2 : b = false → D.nx σ H) : tIfS t tz tNext D σ H := g_if h h1 h2
theorem q_app {l : Addr} {xs : List V} (ho : Vl ta σ H (.ref l)) (hl : H l = some (.lst xs)) (h : Vl te σ H v) (hz : xs.length < sizeLine) (k : tw D σ (upd H l (.lst (xs ++ [v])))) :
    tSeq (tDrop (tBM K "list" rAppend ta (tCons te tNil))) tw D σ H := g_app (D := { D with nx := tw D }) ho hl h hz k
theorem q_forR {j : Nat} {n : Int} (h : Va tr σ H [.int n]) (hn : -(2 ^ 62) ≤ n ∧ n < 2 ^ 62) (Pv : Nat → L2.St → Hp → Prop) (h0 : Pv 0 σ H)
    (hs : ∀ (i : Nat) σ H, (i : Int) < n → Pv i σ H → tz { D with nx := Pv (i + 1), ct := Pv (i + 1), bk := tw D } (σ.set j (some (.int i))) H) (hd : ∀ σ H, Pv n.toNat σ H → tw D σ H) :
    tSeq (tFor (iRng1 tr) (gName j) tz) tw D σ H := g_forR (D := { D with nx := tw D }) h hn Pv h0 hs hd
theorem q_forR2 {j : Nat} {lo n : Int} (h : Va tr σ H [.int lo, .int n]) (hn : -(2 ^ 62) ≤ lo ∧ lo < 2 ^ 62 ∧ -(2 ^ 62) ≤ n ∧ n < 2 ^ 62) (Pv : Nat → L2.St → Hp → Prop) (h0 : Pv 0 σ H)
    (hs : ∀ (i : Nat) σ H, lo + (i : Int) < n → Pv i σ H → tz { D with nx := Pv (i + 1), ct := Pv (i + 1), bk := tw D } (σ.set j (some (.int (lo + i)))) H) (hd : ∀ σ H, Pv (n - lo).toNat σ H → tw D σ H) :
    tSeq (tFor (iRng2 tr) (gName j) tz) tw D σ H := g_forR2 (D := { D with nx := tw D }) h hn Pv h0 hs hd
theorem q_forL {j : Nat} {xs : List V} {tl : TE} (h : Vl tl σ H (.ref a)) (hx : SqL K H a xs) (Pv : Nat → L2.St → Hp → Prop) (h0 : Pv 0 σ H) (hl : ∀ i σ' H', Pv i σ' H' → SqL K H' a xs)
    (hs : ∀ (i : Nat) x σ H, xs[i]? = some x → Pv i σ H → tz { D with nx := Pv (i + 1), ct := Pv (i + 1), bk := tw D } (σ.set j (some x)) H) (hd : ∀ σ H, Pv xs.length σ H → tw D σ H) :
    tSeq (tFor (iList K tl) (gName j) tz) tw D σ H := g_forL (D := { D with nx := tw D }) h hx Pv h0 hl hs hd
theorem q_forLnk {j1 j2 j3 j4 : Nat} {Hb : Hp} {xs : List V} {ls : List Lnk} {tl : TE} (h : Vl tl σ H (.ref a)) (hx : SqL K Hb a xs) (hL : DpAll K Hb xs (ls.map lnkD)) (hb : Same Hb H) (Pv : Nat → L2.St → Hp → Prop) (h0 : Pv 0 σ H) (hl : ∀ i σ' H', Pv i σ' H' → Same Hb H')
    (hs : ∀ (i : Nat) l σ H, ls[i]? = some l → Pv i σ H → tz { D with nx := Pv (i + 1), ct := Pv (i + 1), bk := tw D } ((((σ.set j1 (some (.int l.a))).set j2 (some (.int l.b))).set j3 (some (oV l.t))).set j4 (some (oV l.k))) H) (hd : ∀ σ H, Pv ls.length σ H → tw D σ H) :
    tSeq (tFor (iList K tl) (gTup K 4 (gCons (gName j1) (gCons (gName j2) (gCons (gName j3) (gCons (gName j4) gNil))))) tz) tw D σ H := g_forLnk (D := { D with nx := tw D }) h hx hL hb Pv h0 hl hs hd
theorem q_asgT2 {i j : Nat} {p : Addr} (h : Vl te σ H (.ref p)) (hp : SqT K H p [x, y]) (k : tw D ((σ.set i (some x)).set j (some y)) H) : tSeq (tAsg te (gTup K 2 (gCons (gName i) (gCons (gName j) gNil)))) tw D σ H :=
  h _ ⟨p, _, rfl, hp, rfl, _, _, rfl, _, _, rfl, rfl, k⟩
theorem q_dnewT {i : Nat} (k : ∀ p, H p = none → tw D (σ.set i (some (.ref p))) (upd H p (.dT []))) : tSeq (tAsg tDNewT (gName i)) tw D σ H := k
theorem q_lnew {i : Nat} (k : ∀ p, H p = none → tw D (σ.set i (some (.ref p))) (upd H p (.lst []))) : tSeq (tAsg (tLst tNil) (gName i)) tw D σ H := ⟨Nat.zero_le _, k⟩
theorem q_dput {td ty : TE} {o : Addr} {kvs : List (List Key × V)} {y1 y2 : Int} (hv : Vl te σ H v) (ho : Vl td σ H (.ref o)) (h1 : Vl ta σ H (.int y1)) (h2 : Vl tb σ H (.int y2)) (hd : H o = some (.dT kvs)) (hl : kvs.length < sizeLine)
    (k : ∀ T, H T = none → o ≠ T → tw D σ (upd (upd H T (.tup [.int y1, .int y2])) o (.dT (putK kvs [.inl y1, .inl y2] v)))) : tSeq (sDPut td (tTup (tCons ta (tCons tb tNil))) te) tw D σ H :=
  hv _ (ho _ (h1 _ (h2 _ ⟨by show 2 ≤ sizeLine; decide, fun T nT => by
    have oT : o ≠ T := ne_of_none hd nT
    exact ⟨o, _, rfl, DPut.t (k := [.inl y1, .inl y2]) (by rw [upd_ne oT]; exact hd) upd_same hl, k T nT oT⟩⟩)))
theorem q_dgetT {i : Nat} {td : TE} {o : Addr} {kvs : List (List Key × V)} {y1 y2 : Int} (ho : Vl td σ H (.ref o)) (h1 : ∀ H, Vl ta σ H (.int y1)) (h2 : ∀ H, Vl tb σ H (.int y2)) (hd : H o = some (.dT kvs))
    (k : ∀ T, H T = none → tw D (σ.set i (some ((valV kvs [.inl y1, .inl y2]).getD .non))) (upd H T (.tup [.int y1, .int y2]))) : tSeq (tAsg (tDGet1 td (tTup (tCons ta (tCons tb tNil)))) (gName i)) tw D σ H :=
  ho _ ⟨o, rfl, .inr ⟨_, .inl hd⟩, h1 _ _ (h2 _ _ ⟨by show 2 ≤ sizeLine; decide, fun T nT => by
    have oT : o ≠ T := ne_of_none hd nT
    exact ⟨_, DGet.t (k := [.inl y1, .inl y2]) (by rw [upd_ne oT]; exact hd) upd_same, k T nT⟩⟩)⟩
theorem q_asgE {i : Nat} (h : te σ H fun v H' => tw D (σ.set i (some v)) H') : tSeq (tAsg te (gName i)) tw D σ H := h
theorem g_asgE {i : Nat} (h : te σ H fun v H' => D.nx (σ.set i (some v)) H') : tAsg te (gName i) D σ H := h
theorem q_cut {M : L2.St → Hp → Prop} (h : tz { D with nx := M } σ H) (k : ∀ σ' H', M σ' H' → tw D σ' H') : Evl.tCut tz tw D σ H := ⟨M, h, k⟩
end
/-! ### defs that may be called by their names -/
structure Df (K : PySem.W.Frag) (mg : Str → Option Value) (x : Str) (st : Stmt) (ps : List Str) : Prop where
  ex : ∃ (f : Addr) (fd : FuncData), Fun K x x st f fd ∧ mg x = some (.ref f) ∧ Binds K fd ps []
structure Kal (P : Program) (w : World) (K : PySem.W.Frag) (mg : Str → Option Value) (base : Heap) (k : Nat) (x : Str) (ps : List Str) (sp : Sp) : Prop where
  ex : ∃ (f : Addr) (fd : FuncData), FnOk P w K mg base CX0 k f fd ps sp ∧ mg x = some (.ref f) ∧ PySem.W.keepIn K (.ref f) = true ∧ Binds K fd ps []
theorem kal_of {P : Program} {w : World} {K : PySem.W.Frag} {mg : Str → Option Value} {base : Heap} {k : Nat} {x : Str} {st : Stmt} {ps : List Str} {sp : Sp} (A : Df K mg x st ps)
    (ok : ∀ f fd, Fun K x x st f fd → FnOk P w K mg base CX0 k f fd ps sp) : Kal P w K mg base k x ps sp := by
  obtain ⟨f, fd, F, g, b⟩ := A.ex
  exact ⟨f, fd, ok f fd F, g, F.kp, b⟩
theorem pe_k {X : Cx} {k j : Nat} {x : Str} {ps : List Str} {sp : Sp} {p pos : Pos} {e : Expr} {es : List Expr} {t : TA} (c : Kal X.prog X.w X.K X.mg X.base k x ps sp) (hr : Room j X.A) (hk : k ≤ j) (hg : Gl X x) (ha : PA X (e :: es) t)
    (hdb : (x == ("__debug__" : Str)) = false := by decide) (he : starEach (e :: es) X.env = (false, eval e X.env) :: starEach es X.env := by rfl) (hpl : (backTo pos (starEach es X.env)).any (·.1) = false := by rfl) :
    PE X (.Call (.Name x p) (e :: es) [] pos) (tCall sp [] E0 t) := by
  obtain ⟨f, fd, F, hm, kp, b⟩ := c.ex
  exact pe_call F (hr.mono hk) hg hm kp b .nil pass0 ha hdb he hpl
/-! ### values that are not told: ints of which P holds -/
def Vi (te : TE) (σ : L2.St) (H : Hp) (P : Int → Prop) : Prop := ∀ Q : VK, (∀ r, P r → Q (.int r) H) → te σ H Q
section
variable {K : PySem.W.Frag} {σ : L2.St} {H : Hp} {i : Nat} {ta tb te : TE} {tr : TA} {D : Ends} {tz tw tu : TS} {P P1 P2 : Int → Prop}
theorem vi_of {n : Int} (h : Vl te σ H (.int n)) : Vi te σ H (fun r => r = n) := fun _ q => h _ (q n rfl)
theorem vi_I0 {g : Int → Int → Int} (ha : Vi ta σ H P1) (hb : Vi tb σ H P2) (h : ∀ p q, P1 p → P2 q → P (g p q)) : Vi (tOp (rI0 fun i j => .int (g i j)) ta tb) σ H P := fun _ k =>
  ha _ fun p hp => hb _ fun q hq => ⟨p, q, rfl, rfl, k _ (h p q hp hq)⟩
theorem vi_call {sp : Sp} {vs : List V} (h : Va tr σ H vs) (hs : ∀ Q E, (∀ r, P r → Q (.int r) H) → sp vs H Q E) : Vi (tCall sp [] E0 tr) σ H P := fun Q q => h _ (by
  show sp (vs ++ []) H Q E0
  rw [List.append_nil]
  exact hs Q E0 q)
theorem vi_mono (h : Vi te σ H P1) (hh : ∀ r, P1 r → P r) : Vi te σ H P := fun Q q => h Q fun r hr => q r (hh r hr)
theorem g_asgI {i : Nat} (h : Vi te σ H P) (k : ∀ r, P r → D.nx (σ.set i (some (.int r))) H) : tAsg te (gName i) D σ H := h _ k
theorem q_asgI {i : Nat} (h : Vi te σ H P) (k : ∀ r, P r → tw D (σ.set i (some (.int r))) H) : tSeq (tAsg te (gName i)) tw D σ H := h _ k
theorem g_retI (h : Vi te σ H P) (k : ∀ r, P r → D.rt (.int r) H) : tRet te D σ H := h _ k
end
local macro_rules
  | `(tactic| walk_at "ev") => `(tactic| repeat' (first
    | exact vl_c | exact vl_var rfl | apply vl_I0 | apply vl_I | apply vl_int1 | apply vl_abs | apply vl_min2 | apply vl_max2 | apply vl_neg | apply vl_chainI
    | apply vl_lenL | apply vl_ixL | apply vl_ixT | apply vl_isN | apply vl_notN | apply vl_eq | apply vl_ne
    | apply an_test | apply an_B | apply an_not
    | exact (show (0 : Int) < _ by decide) | exact (show (0 : Int) < _ ∧ _ < (1073741824 : Int) from ⟨by decide, by decide⟩)))
abbrev sDraws : Stmt := topS 30
theorem scDraws : FnScope ["script", "draws", "k", "rest", "turn", "mixed"] ["script"] (defScope sDraws) := ⟨rfl, rfl, rfl, by decide +kernel, rfl, by decide +kernel, by decide +kernel⟩
structure DrawsOk (m : Nat) (ds : List Int) : Prop where
  len : ds.length ≤ m
  all : ∀ d ∈ ds, 0 ≤ d ∧ d < 65536
theorem DrawsOk.app {m : Nat} {ds : List Int} {d : Int} (h : DrawsOk m ds) (h0 : 0 ≤ d) (h1 : d < 65536) : DrawsOk (m + 1) (ds ++ [d]) where
  len := by
    rw [List.length_append]
    exact Nat.succ_le_succ h.len
  all := fun e he => by
    rcases List.mem_append.mp he with h' | h'
    · exact h.all e h'
    · rw [List.mem_singleton.mp h']
      exact ⟨h0, h1⟩
theorem DrawsOk.mono {m n : Nat} {ds : List Int} (h : DrawsOk m ds) (le : m ≤ n) : DrawsOk n ds := ⟨Nat.le_trans h.len le, h.all⟩
def spDraws (K : PySem.W.Frag) : Sp := fun vs H Q _ => ∃ (a : Addr) (ns : List Int), vs = [.ref a] ∧ SqL K H a (ns.map V.int) ∧ ns.length ≤ 63 ∧
  ∀ H' p ds, Same H H' → H p = none → H' p = some (.lst (ds.map V.int)) → DrawsOk 3780 ds → Q (.ref p) H'
section
variable {P : Program} {w : World} {K : PySem.W.Frag} {mg : Str → Option Value} {base : Heap}
theorem ok_draws {f : Addr} {fd : FuncData} {k : Nat} (F : Fun K "_law_draws" "_law_draws" sDraws f fd) (mr : mg "range" = none) (mm : mg "min" = none) (ml : mg "len" = none) (ma : mg "abs" = none) (mi : mg "int" = none) :
    FnOk P w K mg base CX0 (k + 1) f fd ["script"] (spDraws K) := by
  refine F.ok scDraws (fun vs H Q E h => ?_) (fun cdv A outer s H vs Q E hr h => ?_)
  · obtain ⟨a, ns, rfl, _⟩ := h
    rfl
  · obtain ⟨a, ns, rfl, hS, hlen, q⟩ := h
    refine ⟨_, pss_cons (ps_set (i := 1) scDraws.nd rfl (.inl rfl) (pe_lst pa_nil))
      (pss_cons (ps_for PassesOwn.never rfl (pi_range1 (by rfl) mr (pa_cons (pe_callB (call_min2 rfl) (by rfl) mm (by decide +kernel) (pa_cons pe_int (pa_cons (pe_callB call_len_seq (by rfl) ml PySem.boot_len (pa_cons (pv 0) pa_nil)) pa_nil))) pa_nil)) (pg_name (i := 2) scDraws.nd rfl (.inl rfl))
        (pss_cons (ps_set (i := 3) scDraws.nd rfl (.inl rfl) (pe_callB call_abs (by rfl) ma (by decide +kernel) (pa_cons (pe_ix ix_list (pv 0) (pv 2) (fun _ _ => rfl)) pa_nil)))
        (pss_one (ps_if (pt_cmpR op_ge (pv 3) (pe_op op_pow pe_int pe_int) (nomark _))
          (pss_one (ps_for PassesOwn.never rfl (pi_range1 (by rfl) mr (pa_cons pe_int pa_nil)) (pg_name (i := 4) scDraws.nd rfl (.inl rfl))
            (pss_one (ps_if (pt_cmpR op_gt (pv 3) pe_int (nomark _))
              (pss_cons (ps_expr (pe_bm PySem.F.plainAttrs_list PySem.F.slot_list_append PySem.F.type_list_append mt_append (pv 1) (pa_cons (pe_op op_mod (pe_callTy call_int1 (by rfl) mi (by decide +kernel) (pa_cons (pv 3) pa_nil)) pe_int) pa_nil)))
              (pss_one (ps_set (i := 3) scDraws.nd rfl (.inl rfl) (pe_op op_fdiv (pv 3) pe_int)))) pss_nil))))
          (pss_cons (ps_set (i := 5) scDraws.nd rfl (.inl rfl) (pe_op op_mod (pe_callTy call_int1 (by rfl) mi (by decide +kernel) (pa_cons (pe_op op_add (pe_op op_mul (pv 3) pe_int) (pe_op op_mul (pe_op op_add (pv 2) pe_int) pe_int)) pa_nil)) pe_int))
          (pss_cons (ps_set (i := 5) scDraws.nd rfl (.inl rfl) (pe_op op_mod (pe_callTy call_int1 (by rfl) mi (by decide +kernel) (pa_cons (pe_op op_add (pe_op op_add (pe_op op_mul (pv 5) pe_int) (pe_op op_mul pe_int (pv 2))) pe_int) pa_nil)) pe_int))
          (pss_cons (ps_expr (pe_bm PySem.F.plainAttrs_list PySem.F.slot_list_append PySem.F.type_list_append mt_append (pv 1) (pa_cons (pe_op op_mod (pe_callTy call_int1 (by rfl) mi (by decide +kernel) (pa_cons (pv 5) pa_nil)) pe_int) pa_nil)))
          (pss_one (ps_expr (pe_bm PySem.F.plainAttrs_list PySem.F.slot_list_append PySem.F.type_list_append mt_append (pv 1) (pa_cons (pe_op op_mod (pe_callTy call_int1 (by rfl) mi (by decide +kernel) (pa_cons (pe_op op_fdiv (pv 5) pe_int) pa_nil)) pe_int) pa_nil)))))))))))
      (pss_one (ps_ret (pv 1)))), ?_⟩
    -- draws = []
    refine ⟨Nat.zero_le _, fun o no => ?_⟩
    have s1 : Same H (upd H o (.lst [])) := same_upd no
    have hS1 := s1.seq hS
    refine (q_forR (n := if (ns.length : Int) < 63 then (ns.length : Int) else 63) (va_cons (vl_min2 vl_c ((vl_lenL (vl_var rfl) hS1).is (by rw [List.length_map]))) va_nil) ⟨by split <;> omega, by split <;> omega⟩
      (fun i σ H3 => ∃ y2 y3 y4 y5 ds, σ = [some (.ref a), some (.ref o), y2, y3, y4, y5] ∧ Same H H3 ∧ H3 o = some (.lst (ds.map V.int)) ∧ DrawsOk (60 * i) ds)
      ⟨none, none, none, none, [], rfl, s1, upd_same, Nat.zero_le _, fun _ h => by cases h⟩ (fun i σ H3 hi hP => ?_) (fun σ H3 hP => ?_))
    · obtain ⟨y2, y3, y4, y5, ds, rfl, sm, ho, hd⟩ := hP
      have hi2 : i < ns.length := by
        split at hi <;> omega
      have hA := sm.seq hS
      have g1 : (ns.map V.int)[i]? = some (.int ns[i]) := by
        rw [List.getElem?_map, List.getElem?_eq_getElem hi2]
        rfl
      -- rest = abs(script[k])
      refine (q_asg (v := .int (if ns[i] < 0 then -ns[i] else ns[i])) (vl_abs (vl_ixL (vl_var rfl) (vl_var rfl) hA (atI_nat g1))) ?_)
      generalize hr0 : (if ns[i] < 0 then -ns[i] else ns[i]) = r
      have hr1 : 0 ≤ r := by
        rw [← hr0]
        split <;> omega
      refine g_if (b := decide ((10 : Int) ^ (18 : Int).toNat ≤ r)) (by exact an_test (vl_I0 (vl_var rfl) (vl_I vl_c vl_c ⟨by decide, by decide, by decide⟩))) (fun _ => ?_) (fun hlt => ?_)
      · refine g_forR (n := 60) (va_cons vl_c va_nil) ⟨by decide, by decide⟩
          (fun j σ H4 => ∃ y4 r ds', σ = [some (.ref a), some (.ref o), some (.int i), some (.int r), y4, y5] ∧ Same H H4 ∧ H4 o = some (.lst (ds'.map V.int)) ∧ DrawsOk (60 * i + j) ds')
          ⟨y4, r, ds, rfl, sm, ho, hd⟩ (fun j σ H4 hj hP => ?_) (fun σ H4 hP => ?_)
        · obtain ⟨z4, r', ds', rfl, sm', ho', hd'⟩ := hP
          refine g_if (by walk_at "ev") (fun _ => ?_) (fun _ => ?_)
          · have h0 : 0 ≤ r' % 65536 := Int.emod_nonneg _ (by decide)
            have h1 : r' % 65536 < 65536 := Int.emod_lt_of_pos _ (by decide)
            refine (q_app (vl_var rfl) ho' (v := .int (r' % 65536)) (by walk_at "ev") ?_ ?_)
            · rw [List.length_map]
              have := hd'.len
              exact Nat.lt_of_le_of_lt this (Nat.lt_of_le_of_lt (show 60 * i + j ≤ 10000 by omega) (by decide))
            · refine g_asg (v := .int (r' / 65536)) (by walk_at "ev") ?_
              refine ⟨_, _, ds' ++ [r' % 65536], rfl, same_upd' sm' no, ?_, hd'.app h0 h1⟩
              rw [upd_same, List.map_append]
              rfl
          · exact ⟨_, _, ds', rfl, sm', ho', hd'.mono (Nat.le_succ _)⟩
        · obtain ⟨z4, r', ds', rfl, sm', ho', hd'⟩ := hP
          exact ⟨_, _, _, _, ds', rfl, sm', ho', hd'⟩
      · have hlt : r < 1000000000000000000 := by
          have := of_decide_eq_false hlt
          have e : (10 : Int) ^ (18 : Int).toNat = 1000000000000000000 := by decide
          omega
        refine (q_asg (v := .int ((r * 48271 + ((i : Int) + 1) * 69621) % 2147483647)) (by walk_at "ev"; exact .inl ⟨by omega, by omega⟩; exact .inl ⟨by omega, by omega⟩) ?_)
        generalize hm : (r * 48271 + ((i : Int) + 1) * 69621) % 2147483647 = m
        have hm0 : 0 ≤ m := by
          rw [← hm]
          exact Int.emod_nonneg _ (by decide)
        have hm1 : m < 2147483647 := by
          rw [← hm]
          exact Int.emod_lt_of_pos _ (by decide)
        refine (q_asg (v := .int ((m * 16807 + 11 * (i : Int) + 5) % 2147483629)) (by walk_at "ev"; exact .inl ⟨by omega, by omega⟩; exact .inl ⟨by decide, by decide⟩) ?_)
        generalize (m * 16807 + 11 * (i : Int) + 5) % 2147483629 = m2
        have h0 : 0 ≤ m2 % 65536 := Int.emod_nonneg _ (by decide)
        have h1 : m2 % 65536 < 65536 := Int.emod_lt_of_pos _ (by decide)
        have h2 : 0 ≤ (m2 / 65536) % 32768 := Int.emod_nonneg _ (by decide)
        have h3 : (m2 / 65536) % 32768 < 65536 := Int.lt_trans (Int.emod_lt_of_pos _ (by decide)) (by decide)
        have hl := hd.len
        refine (q_app (vl_var rfl) ho (v := .int (m2 % 65536)) (by walk_at "ev") ?_ ?_)
        · rw [List.length_map]
          exact Nat.lt_of_le_of_lt (show ds.length ≤ 10000 by omega) (by decide)
        · refine g_app (vl_var rfl) upd_same (v := .int ((m2 / 65536) % 32768)) (by walk_at "ev") ?_ ?_
          · rw [List.length_append, List.length_map]
            exact Nat.lt_of_le_of_lt (show ds.length + 1 ≤ 10000 by omega) (by decide)
          · refine ⟨_, _, _, _, (ds ++ [m2 % 65536]) ++ [(m2 / 65536) % 32768], rfl, same_upd' (same_upd' sm no) no, ?_, ((hd.app h0 h1).app h2 h3).mono (by omega)⟩
            rw [upd_same, List.map_append, List.map_append]
            rfl
    · obtain ⟨y2, y3, y4, y5, ds, rfl, sm, ho, hd⟩ := hP
      refine g_ret (vl_var rfl) (q H3 o ds sm no ho (hd.mono ?_))
      split <;> omega
end
abbrev sAt : Stmt := topS 31
abbrev sIsI : Stmt := topS 32
theorem scAt : FnScope ["draws", "k", "many"] ["draws", "k", "many"] (defScope sAt) := ⟨rfl, rfl, rfl, by decide +kernel, rfl, by decide +kernel, by decide +kernel⟩
theorem scIsI : FnScope ["actual"] ["actual"] (defScope sIsI) := ⟨rfl, rfl, rfl, by decide +kernel, rfl, by decide +kernel, by decide +kernel⟩
local macro_rules
  | `(tactic| walk_at "ev") => `(tactic| repeat' (first
    | exact vl_c | exact vl_var rfl | apply vl_I0 | apply vl_I | apply vl_int1 | apply vl_abs | apply vl_min2 | apply vl_max2 | apply vl_neg | apply vl_chainI
    | apply vl_lenL | apply vl_ixL | apply vl_ixT | apply vl_isN | apply vl_notN | apply vl_eq | apply vl_ne
    | apply an_test | apply an_B | apply an_not
    | exact (show (0 : Int) < _ by decide) | exact (show (0 : Int) < _ ∧ _ < (1073741824 : Int) from ⟨by decide, by decide⟩)))
/-- an int in [0, m) for draws, k, m -/
def spAt (K : PySem.W.Frag) : Sp := fun vs H Q _ => ∃ (a : Addr) (ds : List Int) (k m : Int), vs = [.ref a, .int k, .int m] ∧ SqL K H a (ds.map V.int) ∧ 0 ≤ k ∧ 0 < m ∧ ∀ r, 0 ≤ r ∧ r < m → Q (.int r) H
def spIsI : Sp := fun vs H Q _ => ∃ i : Int, vs = [.int i] ∧ Q (.bl true) H
section
variable {P : Program} {w : World} {K : PySem.W.Frag} {mg : Str → Option Value} {base : Heap}
theorem ok_isI {f : Addr} {fd : FuncData} {k : Nat} (F : Fun K "_law_is_integer" "_law_is_integer" sIsI f fd) (ms : mg "isinstance" = none) (mi : mg "int" = none) (mb : mg "bool" = none) :
    FnOk P w K mg base CX0 (k + 1) f fd ["actual"] spIsI := by
  refine F.ok scIsI (fun vs H Q E h => ?_) (fun cdv A outer s H vs Q E hr h => ?_)
  · obtain ⟨i, rfl, _⟩ := h
    rfl
  · obtain ⟨i, rfl, q⟩ := h
    refine ⟨_, pss_one (ps_ret (pe_and (pe_callB call_isi (by rfl) ms (by decide +kernel) (pa_cons (pv 0) (pa_cons (pe_bltn (v := .ty "int") (by rfl) mi (by decide +kernel) rfl) pa_nil)))
      (pe_one (pe_not (pe_callB call_isi (by rfl) ms (by decide +kernel) (pa_cons (pv 0) (pa_cons (pe_bltn (v := .ty "bool") (by rfl) mb (by decide +kernel) rfl) pa_nil))))))), ?_⟩
    refine ⟨.int i, rfl, .int i, .ty "int", .type "int", .type "int", true, rfl, .ty _, .base (.int _), kit_ty (by decide +kernel), true, rfl, iteT ?_⟩
    exact ⟨.int i, rfl, .int i, .ty "bool", .type "int", .type "bool", false, rfl, .ty _, .base (.int _), kit_ty (by decide +kernel), false, rfl, q⟩
theorem ok_at {f : Addr} {fd : FuncData} {k : Nat} (F : Fun K "_law_at" "_law_at" sAt f fd) (ml : mg "len" = none) (mi : mg "int" = none) :
    FnOk P w K mg base CX0 (k + 1) f fd ["draws", "k", "many"] (spAt K) := by
  refine F.ok scAt (fun vs H Q E h => ?_) (fun cdv A outer s H vs Q E hr h => ?_)
  · obtain ⟨a, ds, k, m, rfl, _⟩ := h
    rfl
  · obtain ⟨a, ds, k, m, rfl, hS, hk, hm, q⟩ := h
    refine ⟨_, pss_cons (ps_if (pt_cmpR op_lt (pv 1) (pe_callB call_len_seq (by rfl) ml PySem.boot_len (pa_cons (pv 0) pa_nil)) (nomark _))
        (pss_one (ps_ret (pe_op op_mod (pe_callTy call_int1 (by rfl) mi (by decide +kernel) (pa_cons (pe_ix ix_list (pv 0) (pv 1) (fun _ _ => rfl)) pa_nil)) (pv 2)))) pss_nil)
      (pss_one (ps_ret pe_int)), ?_⟩
    refine q_when (b := decide (k < (ds.length : Int))) (by exact an_test (vl_I0 (vl_var rfl) ((vl_lenL (vl_var rfl) hS).is (by rw [List.length_map])))) (fun hb => ?_) (fun _ => ?_)
    · have hb := of_decide_eq_true hb
      obtain ⟨d, g', _⟩ := at_int hk hb
      refine g_ret (v := .int (d % m)) ?_ (q _ ⟨Int.emod_nonneg _ (by omega), Int.emod_lt_of_pos _ hm⟩)
      exact vl_I (vl_int1 (vl_ixL (vl_var rfl) (vl_var rfl) hS g')) (vl_var rfl) hm
    · exact g_ret vl_c (q 0 ⟨by omega, by omega⟩)
end
def PriceOk (o : Option Int) : Prop := ∀ x, o = some x → 1 ≤ x ∧ x ≤ 1000000
structure LnkOk (n : Int) (l : Lnk) : Prop where
  a0 : 0 ≤ l.a
  ab : l.a < l.b
  bn : l.b < n
  t : PriceOk l.t
  k : PriceOk l.k
def LnkLt (x y : Lnk) : Prop := x.a < y.a ∨ (x.a = y.a ∧ x.b < y.b)
structure NetOk (N : Net) : Prop where
  n1 : 1 ≤ N.n
  n40 : N.n ≤ 40
  ok : ∀ l ∈ N.ls, LnkOk N.n l
  lt : N.ls.Pairwise LnkLt
  len : N.ls.length ≤ 1600
/-- a net that stands in H by itself -/
def NetAt (K : PySem.W.Frag) (H : Hp) (v : V) (N : Net) : Prop := ∃ p q xs, v = .ref p ∧ H p = some (.tup [.int N.n, .ref q]) ∧ H q = some (.lst xs) ∧ DpAll K H xs (N.ls.map lnkD)
theorem NetAt.dp {K : PySem.W.Frag} {H : Hp} {v : V} {N : Net} (h : NetAt K H v N) : Dp K H v (netD N) := by
  obtain ⟨p, q, xs, rfl, hp, hq, hx⟩ := h
  exact Dp.net (.of hp) (.of hq) hx
theorem NetAt.to {K : PySem.W.Frag} {H H' : Hp} {v : V} {N : Net} (h : NetAt K H v N) (s : Same H H') : NetAt K H' v N := by
  obtain ⟨p, q, xs, rfl, hp, hq, hx⟩ := h
  exact ⟨p, q, xs, rfl, s _ _ hp, s _ _ hq, DpAll.to hx s⟩
def spPrice (K : PySem.W.Frag) : Sp := fun vs H Q _ => ∃ (a : Addr) (ds : List Int) (k : Int), vs = [.ref a, .int k] ∧ SqL K H a (ds.map V.int) ∧ 0 ≤ k ∧ ∀ H' o, Same H H' → PriceOk o → Q (oV o) H'
def spNet (K : PySem.W.Frag) : Sp := fun vs H Q _ => ∃ (a : Addr) (ds : List Int) (k m : Int), vs = [.ref a, .int k, .int m] ∧ SqL K H a (ds.map V.int) ∧ 0 ≤ k ∧ 1 ≤ m ∧ m ≤ 40 ∧
  ∀ H' v N, Same H H' → NetAt K H' v N → NetOk N → N.n ≤ m → Q v H'
section
variable {P : Program} {w : World} {K : PySem.W.Frag} {mg : Str → Option Value} {base : Heap}
end
/-- the links made so far: all of them before (i, c) -/
structure LsAt (n i c : Int) (ls : List Lnk) : Prop where
  ok : ∀ l ∈ ls, LnkOk n l
  to : ∀ l ∈ ls, l.a < i ∨ (l.a = i ∧ l.b < c)
  lt : ls.Pairwise LnkLt
theorem LsAt.nil {n i c : Int} : LsAt n i c [] := ⟨fun _ h => (nomatch h), fun _ h => (nomatch h), .nil⟩
theorem LsAt.mono {n i c i' c' : Int} {ls : List Lnk} (h : LsAt n i c ls) (e : i < i' ∨ (i = i' ∧ c ≤ c')) : LsAt n i' c' ls :=
  ⟨h.ok, fun l hl => by
    have := h.to l hl
    omega, h.lt⟩
theorem LsAt.app {n i c : Int} {ls : List Lnk} {t k : Option Int} (h : LsAt n i c ls) (h0 : 0 ≤ i) (h1 : i < c) (h2 : c < n) (ht : PriceOk t) (hk : PriceOk k) : LsAt n i (c + 1) (ls ++ [⟨i, c, t, k⟩]) where
  ok := fun l hl => by
    rcases List.mem_append.mp hl with h' | h'
    · exact h.ok l h'
    · rw [List.mem_singleton.mp h']
      exact ⟨h0, h1, h2, ht, hk⟩
  to := fun l hl => by
    rcases List.mem_append.mp hl with h' | h'
    · have := h.to l h'
      omega
    · rw [List.mem_singleton.mp h']
      exact .inr ⟨rfl, Int.lt_succ c⟩
  lt := List.pairwise_append.mpr ⟨h.lt, List.pairwise_singleton _ _, fun x hx y hy => by
    rw [List.mem_singleton.mp hy]
    exact h.to x hx⟩
section
variable {P : Program} {w : World} {K : PySem.W.Frag} {mg : Str → Option Value} {base : Heap}
end
/-! ### data that is the same is equal -/
theorem lay_o : ∀ o : Option Int, (oD o).canLay0 = true ∧ (oD o).depth = 0
  | none => ⟨rfl, rfl⟩
  | some _ => ⟨rfl, rfl⟩
theorem lay_lnks : ∀ ls : List Lnk, PyData.canLayAll0 (ls.map lnkD) = true ∧ PyData.depthAll (ls.map lnkD) ≤ 1
  | [] => ⟨rfl, Nat.zero_le _⟩
  | l :: ls => by
    have h1 := lay_o l.t
    have h2 := lay_o l.k
    have ih := lay_lnks ls
    constructor
    · show (((true && (true && ((oD l.t).canLay0 && ((oD l.k).canLay0 && true)))) && PyData.canLayAll0 (ls.map lnkD)) = true)
      rw [h1.1, h2.1, ih.1]
      rfl
    · show max (max 0 (max 0 (max (oD l.t).depth (max (oD l.k).depth 0))) + 1) (PyData.depthAll (ls.map lnkD)) ≤ 1
      rw [h1.2, h2.2]
      have := ih.2
      simp only [Nat.max_self, Nat.zero_add]
      omega
theorem shaped_net (N : Net) : SeqAt.shaped (netD N) = true := by
  have h := lay_lnks N.ls
  show ((true && (PyData.canLayAll0 (N.ls.map lnkD) && true)) && decide (max 0 (max (PyData.depthAll (N.ls.map lnkD) + 1) 0) + 1 ≤ 64)) = true
  rw [h.1, decide_eq_true (show max 0 (max (PyData.depthAll (N.ls.map lnkD) + 1) 0) + 1 ≤ 64 by
    have := h.2
    omega)]
  rfl
theorem eqv_net (N : Net) : PyData.eqv (netD N) (netD N) = true := SeqAt.eqv_refl _ (Bool.and_eq_true_iff.mp (shaped_net N)).1
/-! ### new lists -/
def Vn (te : TE) (σ : L2.St) (H : Hp) (xs : List V) : Prop := ∀ Q : VK, (∀ p H', Same H H' → H p = none → H' p = some (.lst xs) → Q (.ref p) H') → te σ H Q
section
variable {K : PySem.W.Frag} {σ : L2.St} {H : Hp} {ta tb te : TE} {tr : TA} {xs ys : List V} {a : Addr} {D : Ends} {tw : TS}
theorem vn_lst (h : Va tr σ H xs) (hz : xs.length ≤ sizeLine) : Vn (tLst tr) σ H xs := fun Q q => h _ ⟨hz, fun p np => q p _ (same_upd np) np upd_same⟩
theorem vn_slice {tl th : TO} {lo hi : Option Int} (h : Vl te σ H (.ref a)) (hl : ∀ Q : Option Int → Hp → Prop, Q lo H → tl σ H Q) (hh : ∀ Q : Option Int → Hp → Prop, Q hi H → th σ H Q) (hx : SqL K H a xs) : Vn (tSl (rSlL K) te tl th) σ H (cutV xs lo hi) := fun Q q =>
  h _ (hl _ (hh _ ⟨a, xs, rfl, hx, fun p np => q p _ (same_upd np) np upd_same⟩))
theorem vn_rev (h : Vl te σ H (.ref a)) (hx : SqL K H a xs) : Vn (tRevL K te) σ H xs.reverse := fun Q q => h _ ⟨a, xs, rfl, hx, fun p np => q p _ (same_upd np) np upd_same⟩
theorem vn_cat (ha : Vn ta σ H xs) (hb : ∀ H', Same H H' → Vn tb σ H' ys) (hz : xs.length + ys.length ≤ sizeLine) : Vn (tOp rCat ta tb) σ H (xs ++ ys) := fun Q q => ha _ fun p H1 s1 np hp => hb H1 s1 _ fun r H2 s2 nr hr =>
  ⟨p, r, xs, ys, rfl, rfl, s2 _ _ hp, hr, hz, fun t nt => q t _ ((s1.trans s2).trans (same_upd nt)) (Same.free (s1.trans s2) nt) upd_same⟩
theorem vn_listOf (h : Vl te σ H (.ref a)) (hx : SqL K H a xs) : Vn (tCB (fun xs H Q => ∃ p ys, xs = [V.ref p] ∧ (SqL K H p ys ∨ SqT K H p ys) ∧ ∀ l, H l = none → Q (V.ref l) (upd H l (.lst ys))) (tCons te tNil)) σ H xs := fun Q q =>
  h _ ⟨a, xs, rfl, .inl hx, fun p np => q p _ (same_upd np) np upd_same⟩
theorem q_asgN {i : Nat} (h : Vn te σ H xs) (k : ∀ p H', Same H H' → H p = none → H' p = some (.lst xs) → tw D (σ.set i (some (.ref p))) H') : tSeq (tAsg te (gName i)) tw D σ H := h _ k
end
theorem cut_to {xs : List V} {n : Nat} (h : n ≤ xs.length) : cutV xs none (some (n : Int)) = xs.take n := by
  unfold cutV
  rw [HT.sIx_none, HT.sIx_nat, Nat.min_eq_left h, Nat.sub_zero, List.drop_zero]
theorem cut_from {xs : List V} {n : Nat} (h : n ≤ xs.length) : cutV xs (some (n : Int)) none = xs.drop n := by
  unfold cutV
  rw [HT.sIx_none, HT.sIx_nat, Nat.min_eq_left h]
  exact List.take_of_length_le (by rw [List.length_drop]; exact Nat.le_refl _)
/-- lists of lists of ints -/
theorem Dp.ints {K : PySem.W.Frag} {H : Hp} {p : Addr} {ns : List Int} (h : SqL K H p (ns.map V.int)) : Dp K H (.ref p) (.list (ns.map PyData.int)) := .lst h (DpAll.ints ns)
theorem Dp.ints_inv {K : PySem.W.Frag} {H : Hp} {v : V} {ns : List Int} (h : Dp K H v (.list (ns.map PyData.int))) : ∃ p, v = .ref p ∧ SqL K H p (ns.map V.int) := by
  obtain ⟨a, xs, rfl, hs, ha⟩ := Dp.lst_inv h
  rw [DpAll.ints_inv ha] at hs
  exact ⟨a, rfl, hs⟩
end Ovc
namespace PySem
namespace LowX
open PySem.W PySem.Calls PyProof.Rows PySem.HandSPX
/-! ### the text of __init__ -/
def iA (p1 p2 : Pos) : Arguments := { posonlyargs := [], args := [{ arg := "self", annotation := none, pos := p1 }, { arg := "at", annotation := none, pos := p2 }], vararg := none, kwonlyargs := [], kw_defaults := [], kwarg := none, defaults := [] }
def iB (q1 q2 q3 q4 : Pos) : List Stmt := [.Assign [.Attribute (.Name "self" q1) "at" q2] (.Name "at" q3) q4]
def iS : Scope := { kind := .function, names := [(PySem.Str.ofString "self", .local), (PySem.Str.ofString "at", .local)], isGenerator := false, isCoroutine := false, more := [] }
/-- what the written part says of Low, at C, and of its __init__, at fI -/
structure LowTxt (K : Frag) (mg : Str → Option Value) (xN : Str) (C fI : Addr) : Prop where
  gC : mg xN = some (.ref C)
  cls : ∃ nm q N bs bm sn sub ab col dd k0 k1 k2 k3 k5, K.lookup C = some (excClassObj nm q C N bs bm true sn sub ab col dd k0 k1 k2 k3 k5 "ValueError.__new__") ∧ refsVE bm = true
  sa : findIn K (.ref C) "__setattr__" = some (some (.builtin "object.__setattr__"))
  ga : findIn K (.ref C) "__getattribute__" = some (some (.builtin "BaseException.__getattribute__"))
  gg : findIn K (.ref C) "__getattr__" = some none
  noN : findIn K (.ref C) "at" = some none
  iC : findIn K (.ref C) "__init__" = some (some (.ref fI))
  tC : typeIn K (.ref fI) = some (.type "function")
  kC : keepIn K (.ref C) = true
  exC : subIn K (.ref C) (.type "BaseException") = some true
  tyC : typeIn K (.ref C) = some (.type "type")
  hdC : hasDictIn K C = true
  te : exmOne K (.ref C) (.ref C) = some true
  fn : ∃ (oc : Value) (od : Option Addr) (doc pm : Value) (an : Option Addr) (cdv ct : Value) (osl : Array (Option Value)) (p1 p2 q1 q2 q3 q4 : Pos),
    K.lookup fI = some ⟨oc, od, .func (fnOf "__init__" "OverpassesError.__init__" (iA p1 p2) (iB q1 q2 q3 q4) iS .none .none doc pm an cdv ct), osl⟩ ∧ codeIn K cdv "OverpassesError.__init__" = true
theorem one_size (v : Value) : [v].length ≤ sizeLine := by
  rw [sizeLine_eq]
  exact (by decide : 1 ≤ 16777216)
theorem kept_but {K : Frag} {h h' : Heap} {x : Addr} (X : K.In h) (hx : K.lookup x = none) (k : ∀ b o, b ≠ x → h.get? b = some o → h'.get? b = some o) : K.In h' := fun a o e =>
  k a o (fun z => by rw [z, hx] at e; cases e) (X a o e)
theorem ldC {M : Model} {s : Shared} {name : Str} {scope : Scope} {L a : Addr} {cd : Value} {m : Str → Option Value} {x : Str} {pos : Pos} {v : Value} {Q : Value → Shared → Prop} {A : Around} {E : Value → Shared → Prop} (hn : s.heap.Ns L m) (hv : m x = some v) (h : Q v s)
    (hk : scope.kind = .function := by rfl) (hl : (envOfC name scope L a cd).kindOf x = some .local := by rfl) (hd : (x == ("__debug__" : Str)) = false := by decide) :
    wpAny M A (eval (.Name x pos) (envOfC name scope L a cd)) Q E s := wpAny_Name (wpAny_loadName_local hk hl hn hv h) hd
/-- what __init__ leaves of a fresh exception at x -/
structure InitEnd (h h' : Heap) (x C dx t1 : Addr) (v : Value) : Prop where
  keep : ∀ b o, b ≠ x → h.get? b = some o → h'.get? b = some o
  obj : h'.get? x = some { cls := .ref C, dict := some dx, data := .fields #[.ref t1, .none, .none, .none, .bool false, .none] }
  dbig : h.objs.size ≤ dx
  dne : dx ≠ x
  ns : h'.Ns1 dx (fun y => if y = "at" then some v else none)
/-- a made Low -/
structure OwnMade (h h' : Heap) (e C d : Addr) (v : Value) : Prop where
  keep : ∀ b o, h.get? b = some o → h'.get? b = some o
  new : h.objs.size ≤ e
  obj : ∃ oe vs, h'.get? e = some oe ∧ oe.cls = .ref C ∧ oe.dict = some d ∧ oe.data = .fields vs ∧ vs[1]? = some .none
  dbig : h.objs.size ≤ d
  dne : d ≠ e
  ns : h'.Ns1 d (fun y => if y = "at" then some v else none)
section
variable {prog : Program} {w : World} {A : Around} {E : Value → Shared → Prop} {R : Result → Shared → Prop} {s : Shared} {K : Frag} {mg : Str → Option Value} {xN : Str} {C fI : Addr}
theorem low_init (T : LowTxt K mg xN C fI) {x t0 : Addr} {v : Value} (X : K.In s.heap) (hlim : s.heap.NoLimit) (hx : s.heap.get? x = some (excO C t0)) (hnx : K.lookup x = none) (hroom : A.depth < recursionLimit)
    (hq : ∀ h' tk dx, InitEnd s.heap h' x C dx t0 v → R (.ok (.ret .none)) { s with heap := h', toks := tk }) :
    codeAny (model prog w) A (.call (.ref fI) ⟨[.ref x, v], []⟩) R s := by
  obtain ⟨oc, od, doc, pm, an, cdv, ct, osl, p1, p2, q1, q2, q3, q4, ho, hcd⟩ := T.fn
  obtain ⟨nm, q, N, bs, bm, sn, sub, ab, col, dd, k0, k1, k2, k3, k5, hC, hbm⟩ := T.cls
  have hcl : clsIn K C = some { name := nm, bases := bs, mro := .ref C :: bm, ns := N, qualname := q, hasDict := true, slotNames := sn, subclasses := sub, abstract := ab, collection := col, hasDel := false } := by unfold clsIn; rw [hC] <;> rfl
  refine Att.call_fn (binds := [("self", .ref x), ("at", v)]) X hlim ho hcd hroom (BindsTo.of_eq (by first | rfl | with_unfolding_all rfl)) (by first | rfl | decide | with_unfolding_all rfl) (fun s₁ IC => ?_) rfl rfl rfl
  obtain ⟨h₁, tk₁, rfl⟩ := IC.toInCall.same
  have k : ∀ b o, s.heap.get? b = some o → h₁.get? b = some o := IC.toInCall.keep
  have hn := IC.toInCall.ns
  have hxL : s.heap.objs.size ≠ x := Nat.ne_of_gt (Heap.lt_size hx)
  have X₁ : K.In h₁ := X.keeps k
  have hx₁ := k _ _ hx
  -- self.by = by
  show wpAny _ _ (execs _ _) _ _ _
  refine wpAny_execs_cons (plainObj_wpAny_Assign_Attribute ?_)
  refine ldC (v := v) hn (by first | rfl | with_unfolding_all rfl | kernel_rfl) (ldC (v := .ref x) hn (by first | rfl | with_unfolding_all rfl | kernel_rfl) ?_)
  refine set_plain X₁ (ox := excO C t0) (od := none) ⟨hx₁, rfl, rfl, trivial⟩ T.sa ?_
  refine exc_osa X₁ hx₁ hcl (show refsVE (.ref C :: bm) = true from hbm) rfl T.noN (fun h₃ tk₃ dx k₃ dn dne hx₃ hn₃ => ?_)
  show wpAny _ _ (execs _ _) _ _ _
  have z : s.heap.objs.size < h₁.objs.size := hn.lt
  exact wpAny_execs_nil (hq h₃ tk₃ dx ⟨fun b o hb e => k₃ b o hb (k b o e), hx₃, Nat.le_of_lt (Nat.lt_of_lt_of_le z dn), dne, hn₃⟩)
theorem low_made (T : LowTxt K mg xN C fI) {v : Value} (X : K.In s.heap) (hlim : s.heap.NoLimit) (hroom : A.depth + 1 < recursionLimit)
    (hq : ∀ h' tk e d, OwnMade s.heap h' e C d v → R (.ok (.ret (.ref e))) { s with heap := h', toks := tk }) :
    codeAny (model prog w) A (.call (.ref C) ⟨[v], []⟩) R s := by
  obtain ⟨nm, q, N, bs, bm, sn, sub, ab, col, dd, k0, k1, k2, k3, k5, hC, hbm⟩ := T.cls
  obtain ⟨hp, g, dr, tk, os⟩ := s
  have k : ∀ b o, hp.get? b = some o → ((hp.push (kdv_tup [v])).push (excO C hp.objs.size)).get? b = some o := fun b o e => Heap.get?_push_of_some _ (Heap.get?_push_of_some _ e)
  have hget : ((hp.push (kdv_tup [v])).push (excO C hp.objs.size)).get? (hp.objs.size + 1) = some (excO C hp.objs.size) := by heap_get
  have hnx : K.lookup (hp.objs.size + 1) = none := by
    cases e : K.lookup (hp.objs.size + 1) with
    | none => rfl
    | some o =>
      have z : hp.get? (hp.objs.size + 1) = some o := X _ _ e
      exact absurd (Nat.lt_of_succ_lt (Heap.lt_size z)) (Nat.lt_irrefl _)
  refine call_own F.excBase_ValueError (fun X => refsVE_contains X bm hbm) (X _ _ hC) (looks_findIn X T.iC) (fun self => bind_fn X self T.tC) (one_size v) ?_
  refine low_init (s := ⟨(hp.push (kdv_tup [v])).push (excO C hp.objs.size), g, dr, tk, os⟩) T (X.keeps k) (hlim.keeps k) hget hnx ?_ fun h' tk' dx ⟨k', hx, dn, dne, hns⟩ => ?_
  · show A.depth + 1 < recursionLimit
    exact hroom
  · have old : ∀ b o, hp.get? b = some o → h'.get? b = some o := fun b o e => k' b o (Nat.ne_of_lt (Nat.lt_succ_of_lt (Heap.lt_size e))) (k b o e)
    have z : hp.objs.size + 1 + 1 ≤ dx := by
      first
        | (simpa only [Heap.size_push] using dn)
        | exact dn
        | (have q := dn; rw [Heap.size_push, Heap.size_push] at q; exact q)
    exact ⟨rfl, hq h' tk' (hp.objs.size + 1) dx ⟨old, Nat.le_succ _, ⟨_, _, hx, rfl, rfl, rfl, rfl⟩, Nat.le_trans (Nat.le_trans (Nat.le_succ _) (Nat.le_succ _)) z, dne, hns⟩⟩
end
end LowX
end PySem
namespace L2
open PySem PySem.Spec PyProof.Rows
theorem relO_low {v : V} {v' : Value} (r : RelV v v') (f : Str) : RelO (List.lookup f [(("at" : Str), v)]) (if f = "at" then some v' else none) := by
  by_cases hw : f = "at"
  · subst hw
    rw [if_pos rfl]
    have q : List.lookup ("at" : Str) [(("at" : Str), v)] = some v := by simp [List.lookup]
    rw [q]
    exact r
  · rw [if_neg hw]
    have qw : (f == ("at" : Str)) = false := by simpa using hw
    have q2 : List.lookup f [(("at" : Str), v)] = none := by simp [List.lookup, qw]
    rw [q2]
    trivial
section
variable {X : Cx} {xN : Str} {C fI : Addr}
/-- Low(e) -/
def tMkLow (C : Addr) (ta : TA) : St → Hp → XK → Prop := fun σ H Q => ta σ H fun vs H1 => ∃ v, vs = [v] ∧ ∀ d, H1 d = none → Q (.ref C) (some d) (upd H1 d (.xd [(("at" : Str), v)]))
theorem pmk_low {a : Expr} {ta : TA} {p pos : Pos} {k : Nat} (T : PySem.LowX.LowTxt X.K X.mg xN C fI) (hr : Room k X.A) (ha : PA X [a] ta) (hg : Gl X xN := by rfl) (hdb : (xN == ("__debug__" : Str)) = false := by decide)
    (he : starEach (a :: []) X.env = (false, eval a X.env) :: starEach [] X.env := by rfl) (hpl : (backTo pos (starEach [] X.env)).any (·.1) = false := by rfl) :
    PMk X (.Call (.Name xN p) [a] [] pos) (tMkLow C ta) := by
  intro pins s σ H Q I h
  refine wpAny_Call_Name_kw (ld_glob I hg T.gC ?_ hdb)
  refine PySem.W.callWith_K (h₀ := X.base) I.ok.mod.kin T.kC (thn (ha.run pos pins s σ H _ I h) fun us s1 hh => ?_) he hpl
  obtain ⟨vs, H1, I1, r1, v, ev, q1⟩ := hh
  subst ev
  refine ⟨I1.kIn, ?_⟩
  cases r1 with
  | cons rv rn =>
    rename_i v' us'
    cases rn
    show wpAny _ _ (call (.ref C) [v']) _ _ _
    have hlim := I1.nolimit
    obtain ⟨hp, g, dr, tk, os⟩ := s1
    refine wpAny_call (PySem.LowX.low_made T I1.kIn hlim (by have := hr.dp; omega) fun h' tk' e d M => ?_)
    show MkP X pins σ Q (.ref e) ⟨h', g, dr, tk', os⟩
    obtain ⟨oe, fv, hoe, hc, hd, hdat, h1⟩ := M.obj
    have hns := M.ns
    obtain ⟨G', g1, g2⟩ := restrict h' fun b => decide (b ≠ e)
    have gk : ∀ b, b ≠ e → G'.get? b = h'.get? b := fun b hb => g1 b (decide_eq_true hb)
    have ge : G'.get? e = none := g2 e (by simp)
    have old : ∀ b o, hp.get? b = some o → G'.get? b = some o := fun b o q => (gk b (Nat.ne_of_lt (Nat.lt_of_lt_of_le (Heap.lt_size q) M.new))).trans (M.keep b o q)
    have ob : ObjOk X.prog X.w (upd H1 d (.xd [(("at" : Str), v)])) G' d (.xd [(("at" : Str), v)]) :=
      ⟨_, hns.at (fun o q => (gk d M.dne).trans q), fun f => relO_low rv f⟩
    have J : Inv X pins σ (upd H1 d (.xd [(("at" : Str), v)])) ⟨G', g, dr, tk', os⟩ := I1.laid (t' := tk') old M.dbig ob
    refine ⟨e, oe, fv, ⟨G', g, dr, tk', os⟩, _, .ref C, some d, rfl, J, fun b o q => ?_, ge, hoe, ⟨hc, hd⟩, hdat, h1, ?_, rfl, I1.bare, raises_own T.exC T.tyC, q1 d (I1.hok.fresh M.dbig)⟩
    · by_cases hb : b = e
      · have q' : G'.get? b = some o := q
        rw [hb, ge] at q'; cases q'
      · exact (gk b hb).symm.trans q
    · rw [upd_ne (Ne.symm M.dne)]
      exact I1.hok.fresh M.new
/-- raise Low(e) -/
def tRaiseLow (C : Addr) (W : WX) (ta : TA) : TS := fun _ σ H => tMkLow C ta σ H fun cls d H' => W cls d σ H'
theorem ps_raiseLow {a : Expr} {ta : TA} {W : WX} {p pos pos2 : Pos} {k : Nat} (hc : X.calm = true) (T : PySem.LowX.LowTxt X.K X.mg xN C fI) (hr : Room k X.A) (tk : Takes X W) (ha : PA X [a] ta) (hg : Gl X xN := by rfl) (hdb : (xN == ("__debug__" : Str)) = false := by decide)
    (he : starEach (a :: []) X.env = (false, eval a X.env) :: starEach [] X.env := by rfl) (hpl : (backTo pos (starEach [] X.env)).any (·.1) = false := by rfl) :
    PS X (.Raise (some (.Call (.Name xN p) [a] [] pos)) none pos2) (tRaiseLow C W ta) := ps_raise hc tk (pmk_low T hr ha hg hdb he hpl)
/-- low.by, low the exception that the suite holds (at a; its class cls, its dict d) -/
def tByLow (C : Addr) (a : Addr) (cls : Value) (d : Option Addr) (te : TE) : TE := fun σ H Q => te σ H fun x H1 => x = .ref a ∧ cls = .ref C ∧ ∃ (dd : Addr) (v : V), d = some dd ∧ H1 dd = some (.xd [(("at" : Str), v)]) ∧ Q v H1
theorem pe_byLow {a : Addr} {oe : Obj} {cls : Value} {d : Option Addr} {pn : List (Addr × Obj)} {e : Expr} {te : TE} {pos : Pos} (T : PySem.LowX.LowTxt X.K X.mg xN C fI) (hz : Zc cls d oe) (hf : ∃ vs, oe.data = .fields vs) (he : PE (X.suite a ((a, oe) :: pn)) e te)
    (hb : attributeBase e "at" X.env (eval e X.env) = eval e X.env := by rfl) :
    PE (X.suite a ((a, oe) :: pn)) (.Attribute e "at" pos) (tByLow C a cls d te) := by
  refine ⟨fun pins s σ H Q I h => ?_⟩
  refine attr_of hb (thn (he.run pins s σ H _ I h) fun u s1 hh => ?_)
  obtain ⟨x, H1, I1, rx, ex, ec, dd, v, ed, ea, q⟩ := hh
  subst ex
  obtain rfl : u = Value.ref a := rx
  subst ec
  subst ed
  obtain ⟨ha, _⟩ := I1.pin (a, oe) (List.mem_append_left _ List.mem_cons_self)
  obtain ⟨vs, hd⟩ := hf
  have hx : ObjOk X.prog X.w H1 s1.heap dd (.xd [(("at" : Str), v)]) := I1.hok dd _ ea
  obtain ⟨mA, hns, hr⟩ := hx
  obtain ⟨od, ho, hl⟩ := lookIn_ns hns
  have l : List.lookup ("at" : Str) [(("at" : Str), v)] = some v := by simp [List.lookup]
  obtain ⟨u, hu, ru⟩ := RelO.some_of (v := v) (o := mA "at") (by rw [← l]; exact hr "at")
  have J : PySem.W.InstAt s1.heap a oe C (some od) := ⟨ha, hz.1, by unfold PySem.W.notCls; rw [hd] <;> rfl, by rw [hz.2]; exact ho⟩
  exact HandSPX.exc_get I1.kIn J T.ga T.gg T.exC (PySem.W.findObj_own T.hdC T.noN rfl (by rw [hl, hu])) (handed_of ru) ⟨v, H1, I1.tok _, ru, q⟩
end
end L2

namespace L2
open PySem PySem.Spec PyProof.Rows
/-- an if whose test is known -/
theorem if_true_of {c : Bool} {A B : Prop} (hc : c = true) (h : A) : if c = true then A else B := by
  rw [if_pos hc]
  exact h
theorem if_false_of {c : Bool} {A B : Prop} (hc : c = false) (h : B) : if c = true then A else B := by
  rw [hc, if_neg Bool.false_ne_true]
  exact h
end L2
namespace Ovc
open PySem PySem.Spec PyProof.Rows L2
/-! ### try with several clauses, each with a name or without one -/
/-- the ends of a suite whose name's slot is emptied behind it -/
def endsAs (i : Nat) (D : Ends) : Ends := { nx := fun σ H => D.nx (σ.set i none) H, rt := D.rt, bk := fun σ H => D.bk (σ.set i none) H, ct := fun σ H => D.ct (σ.set i none) H }
abbrev Clause := Value × Option Nat × (Addr → Value → Option Addr → TS)
def runClause (q : Clause) (a : Addr) (cls : Value) (d : Option Addr) (D : Ends) (σ : L2.St) (H : Hp) : Prop :=
  match q.2.1 with
  | none => q.2.2 a cls d D σ H
  | some i => q.2.2 a cls d (endsAs i D) (σ.set i (some (.ref a))) H
def wClauses (K : PySem.W.Frag) (Wout : WX) (D : Ends) : List Clause → WX
  | [] => Wout
  | q :: r => fun cls d σ H => ∃ b, PySem.W.exmOne K cls q.1 = some b ∧ (b = true → ∀ a, H a = none → runClause q a cls d D σ H) ∧ (b = false → wClauses K Wout D r cls d σ H)
inductive ClOk (X : Cx) : List ExceptHandler → List Clause → Prop
  | nil : ClOk X [] []
  | bare {x : Str} {c : Value} {ts : Addr → Value → Option Addr → TS} {st₀ : Stmt} {sts : List Stmt} {p1 p2 : Pos} {hds : List ExceptHandler} {l : List Clause} (hc : Names X x c)
      (suite : ∀ (a : Addr) (ob : Obj) (cls : Value) (d : Option Addr) (pn : List (Addr × Obj)), Zc cls d ob → (∃ fv, ob.data = .fields fv) → PSs (X.suite a ((a, ob) :: pn)) (st₀ :: sts) (ts a cls d)) (more : ClOk X hds l) :
      ClOk X (.ExceptHandler (some (.Name x p1)) none (st₀ :: sts) p2 :: hds) ((c, none, ts) :: l)
  | named {x n : Str} {c : Value} {i : Nat} {ts : Addr → Value → Option Addr → TS} {st₀ : Stmt} {sts : List Stmt} {p1 p2 : Pos} {hds : List ExceptHandler} {l : List Clause} (hN : X.N.Nodup) (hi : X.N[i]? = some n) (hln : X.env.kindOf n = some .local) (hc : Names X x c)
      (suite : ∀ (a : Addr) (ob : Obj) (cls : Value) (d : Option Addr) (pn : List (Addr × Obj)), Zc cls d ob → (∃ fv, ob.data = .fields fv) → PSs (X.suite a ((a, ob) :: pn)) (st₀ :: sts) (ts a cls d)) (more : ClOk X hds l) :
      ClOk X (.ExceptHandler (some (.Name x p1)) (some n) (st₀ :: sts) p2 :: hds) ((c, some i, ts) :: l)
section
variable {X : Cx} {body : List Stmt} {hd₀ : ExceptHandler} {hds : List ExceptHandler} {l : List Clause} {pos : Pos} {tb : WX → TS} {Wout : WX}
theorem ps_try_cl (hsk : X.stack = X.env :: X.outer) (hfm : X.env.frame = some X.env.locals) (tk : Takes X Wout)
    (hb : ∀ (W : WX) (pn : List (Addr × Obj)) (xe : Value → Shared → Prop), Takes (X.tr pn xe) W → PassesOwn (model X.prog X.w) X.A X.env xe → PSs (X.tr pn xe) body (tb W))
    (hcl : ClOk X (hd₀ :: hds) l) : PS X (.Try body (hd₀ :: hds) [] [] pos) (fun D σ H => tb (wClauses X.K Wout D l) D σ H) := by
  refine ⟨fun pins s σ H D I0 hr => ?_⟩
  have okX := I0.ok
  have frA : X.A.frames = some (X.env :: X.outer) := by rw [okX.frames, hsk]
  refine wpAny_Try_except (wpAny_mono ((hb (wClauses X.K Wout D l) (X.pn ++ pins) (fun e t₁ => wpAny (model X.prog X.w) X.A (noteFrame e X.env) (fun _ t₂ => wpAny (model X.prog X.w) X.A (setFlight e none) (fun _ t₃ =>
    wpAny (model X.prog X.w) X.A (handleBy e X.env (hd₀ :: hds)) (SP X pins D) X.xe t₃) X.xe t₂) X.xe t₁) (fun u t xx => ?caught) PassesOwn.looking).run [] s σ H D (I0.toTry _) hr) (fun fl t hsp => ?after) (fun e t he => he))
  case after =>
    cases fl with
    | next => exact let ⟨σ1, H1, I1, z⟩ := hsp; wpAny_execs_nil ⟨σ1, H1, I1.ofTry okX, z⟩
    | brk => exact let ⟨σ1, H1, I1, z⟩ := hsp; ⟨σ1, H1, I1.ofTry okX, z⟩
    | cont => exact let ⟨σ1, H1, I1, z⟩ := hsp; ⟨σ1, H1, I1.ofTry okX, z⟩
    | ret u => exact let ⟨v, σ1, H1, I1, r, z⟩ := hsp; ⟨v, σ1, H1, I1.ofTry okX, r, z⟩
  case caught =>
    obtain ⟨a, B, sI, pins1, σ1, H1, cls, d, rfl, I1', nb, up, sky, na, os, ag, wish⟩ := xx
    have I1 : Inv X pins σ1 H1 sI := I1'.ofTry okX
    have skyF : Sky B (X.env :: X.outer) a (Zc cls d) X.env.locals t.heap := by rw [← hsk]; exact sky
    refine Sky.land Zc.steady frA hfm skyF fun h3 fl3 up3 => ?_
    have I3 : Inv X pins σ1 H1 { t with heap := h3 } := I1.landed nb fl3.1 (up.trans up3) os ag
    obtain ⟨ob3, fv3, at3, z3, dat3⟩ := fl3.there
    have off : a ∉ frs (X.env :: X.outer) := fun hm => by
      obtain ⟨_, o', e', hnf⟩ := fl3.2.2.1.mem hm
      rw [at3] at e'
      cases e'
      exact hnf _ dat3
    have offL : a ≠ X.env.locals := fun z => off (List.mem_filterMap.mpr ⟨X.env, List.mem_cons_self, by rw [hfm, z]⟩)
    have offF : a ∉ X.fs := fun hm => let ⟨en, hen, z⟩ := List.mem_filterMap.mp hm; off (List.mem_filterMap.mpr ⟨en, List.mem_cons_of_mem _ hen, z⟩)
    have SU3 := I3.suite at3 dat3 na offL offF
    have test : ∀ {x : Str} {c : Value} {p1 : Pos} {Q : Value → Shared → Prop} {E : Value → Shared → Prop}, Names X x c → Q c { t with heap := h3 } →
        wpAny (model X.prog X.w) (X.A.mark (some (.ref a))) (eval (.Name x p1) X.env) Q E { t with heap := h3 } := fun {x c p1 Q E} hc z => by
      obtain ⟨hg, hdb, hm | ⟨hm, hv, hne⟩⟩ := hc
      · exact ld_glob (X := X.suite a ((a, ob3) :: (X.pn ++ pins))) SU3 hg hm z hdb
      · exact ld_blt (X := X.suite a ((a, ob3) :: (X.pn ++ pins))) SU3 hg hm hv z hne hdb
    have looks : PySem.W.Looks (model X.prog X.w) h3 (typeOf (.ref a)) cls := fun A Q E s1 keep z => wpAny_typeOf_ref (keep _ _ at3) (by rw [z3.1]; exact z)
    suffices go : ∀ {hs1 : List ExceptHandler} {l1 : List Clause}, ClOk X hs1 l1 → wClauses X.K Wout D l1 cls d σ1 H1 → wpAny (model X.prog X.w) X.A (handleBy (.ref a) X.env hs1) (SP X pins D) X.xe { t with heap := h3 } from go hcl wish
    intro hs1 l1 hk
    induction hk with
    | nil =>
      intro wo
      refine wpAny_handleBy_nil ?_
      obtain ⟨k1, k2, k3, ob, fv, T, oT, tv, heT, hzT, hdT, hT1, hTr⟩ := id fl3
      unfold PySem.passOn
      refine wpAny_bind (wpAny_field heT hdT hT1 ?_)
      rw [if_neg (show ¬ (Value.ref T == Value.none) = true from by simp)]
      have fin : wpAny (model X.prog X.w) X.A (setFlight (.ref a) X.env.frame) (fun _ t4 => wpAny (model X.prog X.w) X.A (throw (.ref a) : Sem Flow) (SP X pins D) X.xe t4) X.xe { t with heap := h3 } := by
        rw [hfm]
        exact HandSPX.setFlight_upZ fl3 fun h4 held4 up4 => wpAny_throw (tk _ _ ⟨a, B, sI, pins, σ1, H1, cls, d, rfl, I1, nb, (up.trans up3).trans up4, .inr (.inr (by rw [hsk]; exact held4)), na, os, ag, wo⟩)
      first | exact wpAny_bind (wpAny_pure (wpAny_bind fin)) | exact wpAny_bind fin
    | @bare x c ts st₀ sts p1 p2 hs2 l2 hc suite more ih =>
      rintro ⟨b, hb1, yes, no⟩
      refine wpAny_handleBy_cons (codeAny_handlers_test (test hc ((PySem.W.exm_one (M := model X.prog X.w) I3.kIn looks hb1).here ?_))) (by intro q; cases q)
      cases b with
      | false => exact ih (no rfl)
      | true =>
        refine codeAny_handlers_suite (HandSPX.lands_againZ fl3 fun h4 fl4 up4 => ?_)
        have I4 : Inv X pins σ1 H1 { t with heap := h4 } := I1.landed nb fl4.1 ((up.trans up3).trans up4) os ag
        obtain ⟨ob4, fv4, at4, z4, dat4⟩ := fl4.there
        refine wpAny_mono ((suite a ob4 cls d (X.pn ++ pins) z4 ⟨_, dat4⟩).run [] _ _ H1 _ (I4.suite at4 dat4 na offL offF) (yes rfl a na)) (fun f t6 hsp => ?_) (fun _ _ z => False.elim z)
        cases f with
        | next => exact let ⟨σ6, H6, S6, z6⟩ := hsp; ⟨_, _, S6.unsuite okX, z6⟩
        | brk => exact let ⟨σ6, H6, S6, z6⟩ := hsp; ⟨_, _, S6.unsuite okX, z6⟩
        | cont => exact let ⟨σ6, H6, S6, z6⟩ := hsp; ⟨_, _, S6.unsuite okX, z6⟩
        | ret u => exact let ⟨v6, σ6, H6, S6, r6, z6⟩ := hsp; ⟨_, _, _, S6.unsuite okX, r6, z6⟩
    | @named x n c i ts st₀ sts p1 p2 hs2 l2 hN hi hln hc suite more ih =>
      rintro ⟨b, hb1, yes, no⟩
      refine wpAny_handleBy_cons (codeAny_handlers_test (test hc ((PySem.W.exm_one (M := model X.prog X.w) I3.kIn looks hb1).here ?_))) (by intro q; cases q)
      cases b with
      | false => exact ih (no rfl)
      | true =>
        refine codeAny_handlers_suite_as (HandSPX.lands_againZ fl3 fun h4 fl4 up4 => ?_)
        have I4 : Inv X pins σ1 H1 { t with heap := h4 } := I1.landed nb fl4.1 ((up.trans up3).trans up4) os ag
        obtain ⟨ob4, fv4, at4, z4, dat4⟩ := fl4.there
        refine store_ok (X := X.suite a ((a, ob4) :: (X.pn ++ pins))) (v := .ref a) (I4.suite at4 dat4 na offL offF) hN hi (.inl hln) rfl (fun t5 S5 => ?_) (.inr hln)
        refine wpAny_mono ((suite a ob4 cls d (X.pn ++ pins) z4 ⟨_, dat4⟩).run [] t5 _ H1 _ S5 (yes rfl a na)) (fun f t6 hsp => ?_) (fun _ _ z => False.elim z)
        have off6 : ∀ {σ6 : L2.St} {H6 : Hp} {Q : Shared → Prop}, Inv (X.suite a ((a, ob4) :: (X.pn ++ pins))) [] σ6 H6 t6 → (∀ t7, Inv X pins (σ6.set i none) H6 t7 → Q t7) →
            wpAny (model X.prog X.w) X.A (do bindName X.env n .none; unbindBehindTheSuite X.env n p2) (fun _ t7 => Q t7) X.xe t6 := fun {σ6 H6 Q} S6 hq => gone_ok (S6.unsuite okX) hN hi hln hq
        cases f with
        | next => exact let ⟨σ6, H6, S6, z6⟩ := hsp; off6 S6 fun t7 I7 => ⟨_, _, I7, z6⟩
        | brk => exact let ⟨σ6, H6, S6, z6⟩ := hsp; off6 S6 fun t7 I7 => ⟨_, _, I7, z6⟩
        | cont => exact let ⟨σ6, H6, S6, z6⟩ := hsp; off6 S6 fun t7 I7 => ⟨_, _, I7, z6⟩
        | ret u => exact let ⟨v6, σ6, H6, S6, r6, z6⟩ := hsp; off6 S6 fun t7 I7 => ⟨_, _, _, I7, r6, z6⟩
end
/-! ### a < b < c < d as a test -/
def tTest3 (r1 r2 r3 : R2) (ta tb tc td : TE) : TT := fun σ H Q => ta σ H fun x H1 => tb σ H1 fun y H2 => r1 x y H2 fun z H3 => ∃ k, z = .bl k ∧
  (if k = true then tc σ H3 fun u H4 => r2 y u H4 fun z2 H5 => ∃ k2, z2 = .bl k2 ∧ (if k2 = true then td σ H5 fun v H6 => r3 u v H6 fun z3 H7 => ∃ k3, z3 = .bl k3 ∧ Q k3 H7 else Q false H5) else Q false H3)
theorem pt_chain3 {X : Cx} {a b c d : Expr} {ta tb tc td : TE} {o1 o2 o3 : CmpOp} {r1 r2 r3 : R2} {pos : Pos} (h1 : OpR X (compareOp o1) r1) (h2 : OpR X (compareOp o2) r2) (h3 : OpR X (compareOp o3) r3) (ha : PE X a ta) (hb : PE X b tb) (hc : PE X c tc) (hd : PE X d td)
    (hm : lastMarks [o1, o2, o3] [b, c, d] = false := by with_unfolding_all rfl) : PT X (.Compare a [o1, o2, o3] [b, c, d] pos) (tTest3 r1 r2 r3 ta tb tc td) := by
  refine ⟨fun pins s σ H Q I0 hr => isTrue_chain (thn (ha.run pins s σ H _ I0 hr) fun v1 s1 ⟨x, H1, I1, e1, q1⟩ => test_link (thn (hb.run pins s1 σ H1 _ I1 q1) fun v2 s2 ⟨y, H2, I2, e2, q2⟩ =>
    thn (h1 pins s2 σ H2 x y v1 v2 _ I2 e1 e2 q2) fun v3 s3 ⟨z, H3, I3, e3, k, ez, q3⟩ => ?_)) hm⟩
  subst ez
  cases e3
  refine wpAny_truthy_bool ?_
  cases k with
  | false => exact ite_ff ⟨H3, I3, q3⟩
  | true =>
    refine ite_tt (test_link (thn (hc.run pins s3 σ H3 _ I3 q3) fun v4 s4 ⟨u, H4, I4, e4, q4⟩ => thn (h2 pins s4 σ H4 y u v2 v4 _ I4 e2 e4 q4) fun v5 s5 ⟨z2, H5, I5, e5, k2, ez2, q5⟩ => ?_))
    subst ez2
    cases e5
    refine wpAny_truthy_bool ?_
    cases k2 with
    | false => exact ite_ff ⟨H5, I5, q5⟩
    | true =>
      refine ite_tt (test_last (thn (hd.run pins s5 σ H5 _ I5 q5) fun v6 s6 ⟨v, H6, I6, e6, q6⟩ => thn (h3 pins s6 σ H6 u v v4 v6 _ I6 e4 e6 q6) fun v7 s7 ⟨z3, H7, I7, e7, k3, ez3, q7⟩ => ?_))
      subst ez3
      cases e7
      exact wpAny_truthy_bool ⟨H7, I7, q7⟩
theorem an_chain3 {σ : L2.St} {H : Hp} {g1 g2 g3 : Int → Int → Bool} {ta tb tc td : TE} {p q r s : Int} (ha : Vl ta σ H (.int p)) (hb : Vl tb σ H (.int q)) (hc : Vl tc σ H (.int r)) (hd : Vl td σ H (.int s)) :
    An (tTest3 (rI0 fun i j => .bl (g1 i j)) (rI0 fun i j => .bl (g2 i j)) (rI0 fun i j => .bl (g3 i j)) ta tb tc td) σ H (g1 p q && (g2 q r && g3 r s)) := fun Q k =>
  ha _ (hb _ ⟨p, q, rfl, rfl, _, rfl, by
    show if g1 p q = true then _ else _
    revert k
    cases g1 p q with
    | false => exact fun k => iteF k
    | true => exact fun k => iteT (hc _ ⟨q, r, rfl, rfl, _, rfl, by
        show if g2 q r = true then _ else _
        revert k
        cases g2 q r with
        | false => exact fun k => iteF k
        | true => exact fun k => iteT (hd _ ⟨r, s, rfl, rfl, _, rfl, k⟩)⟩)⟩)
/-! ### tests that make objects on their way -/
def Ax (t : TT) (σ : L2.St) (H : Hp) (b : Bool) : Prop := ∀ Q : Bool → Hp → Prop, (∀ H', Same H H' → Q b H') → t σ H Q
section
variable {K : PySem.W.Frag} {σ : L2.St} {H : Hp} {t u : TT} {D : Ends} {tz tu tw : TS} {ta tb tc : TE}
theorem ax_of {b : Bool} (h : An t σ H b) : Ax t σ H b := fun Q q => h Q (q H (Same.refl H))
theorem ax_not {b : Bool} (h : Ax t σ H b) : Ax (tNot t) σ H (!b) := fun Q q => h _ fun H' s => q H' s
theorem ax_and {k m : Bool} (h1 : Ax t σ H k) (h2 : k = true → ∀ H', Same H H' → Ax u σ H' m) : Ax (tAnd t u) σ H (k && m) := fun Q q => h1 _ fun H1 s1 => by
  cases k with
  | true => exact iteT (h2 rfl H1 s1 _ fun H2 s2 => q H2 (s1.trans s2))
  | false => exact iteF (q H1 s1)
theorem ax_or {k m : Bool} (h1 : Ax t σ H k) (h2 : k = false → ∀ H', Same H H' → Ax u σ H' m) : Ax (tOr t u) σ H (k || m) := fun Q q => h1 _ fun H1 s1 => by
  cases k with
  | true => exact iteT (q H1 s1)
  | false => exact iteF (h2 rfl H1 s1 _ fun H2 s2 => q H2 (s1.trans s2))
theorem Ax.is {k m : Bool} (h : Ax t σ H k) (e : k = m) : Ax t σ H m := e ▸ h
theorem g_ifx {b : Bool} (h : Ax t σ H b) (h1 : b = true → ∀ H', Same H H' → tz D σ H') (h2 : b = false → ∀ H', Same H H' → tu D σ H') : tIfS t tz tu D σ H := h _ fun H' s => by
  cases b with
  | true => exact iteT (h1 rfl H' s)
  | false => exact iteF (h2 rfl H' s)
theorem q_ifx {b : Bool} (h : Ax t σ H b) (h1 : b = true → ∀ H', Same H H' → tz { D with nx := tw D } σ H') (h2 : b = false → ∀ H', Same H H' → tu { D with nx := tw D } σ H') : tSeq (tIfS t tz tu) tw D σ H := g_ifx (D := { D with nx := tw D }) h h1 h2
theorem q_whenx {b : Bool} (h : Ax t σ H b) (h1 : b = true → ∀ H', Same H H' → tz { D with nx := tw D } σ H') (h2 : b = false → ∀ H', Same H H' → tw D σ H') : tSeq (tIfS t tz tNext) tw D σ H := g_ifx (D := { D with nx := tw D }) h h1 h2
theorem g_whenx {b : Bool} (h : Ax t σ H b) (h1 : b = true → ∀ H', Same H H' → tz D σ H') (h2 : b = false → ∀ H', Same H H' → D.nx σ H') : tIfS t tz tNext D σ H := g_ifx h h1 h2
theorem lexAt2 {a b c d : Int} : Ob.lexAt (fun j => decide ([a, b].getD j 0 = [c, d].getD j 0)) (fun j => decide ([a, b].getD j 0 ≤ [c, d].getD j 0)) (decide ([a, b].length ≤ [c, d].length)) 0 (min [a, b].length [c, d].length) = decide (a < c ∨ (a = c ∧ b ≤ d)) := by
  show (if decide (a = c) = true then (if decide (b = d) = true then decide (2 ≤ 2) else decide (b ≤ d)) else decide (a ≤ c)) = _
  by_cases h1 : a = c
  · rw [if_pos (decide_eq_true h1)]
    by_cases h2 : b = d
    · rw [if_pos (decide_eq_true h2), decide_eq_true (Nat.le_refl 2), decide_eq_true (.inr ⟨h1, by omega⟩)]
    · rw [if_neg (fun h => h2 (of_decide_eq_true h)), Bool.eq_iff_iff]
      simp only [decide_eq_true_eq]
      omega
  · rw [if_neg (fun h => h1 (of_decide_eq_true h)), Bool.eq_iff_iff]
    simp only [decide_eq_true_eq]
    omega
/-- (a, b) <= t, t a tuple of two ints -/
theorem ax_leT {a b c d : Int} {T : Addr} (ha : Vl ta σ H (.int a)) (hb : Vl tb σ H (.int b)) (hc : ∀ H', Same H H' → Vl tc σ H' (.ref T)) (hT : SqT K H T [.int c, .int d]) : Ax (tTest (tOp (rLeT K) (tTup (tCons ta (tCons tb tNil))) tc)) σ H (decide (a < c ∨ (a = c ∧ b ≤ d))) := fun Q q =>
  ha _ (hb _ ⟨by show 2 ≤ sizeLine; decide, fun S nS => hc _ (same_upd nS) _ ⟨S, T, [a, b], [c, d], rfl, rfl, .of upd_same, seqT (same_upd nS) hT, _, rfl, by
    rw [lexAt2]
    exact q _ (same_upd nS)⟩⟩)
/-- (a, b) == (c, d), the tuples made on the way -/
theorem ax_eqTT {td : TE} {p q r s : Int} (ha : ∀ H', Same H H' → Vl ta σ H' (.int p)) (hb : ∀ H', Same H H' → Vl tb σ H' (.int q)) (hc : ∀ H', Same H H' → Vl tc σ H' (.int r)) (hd : ∀ H', Same H H' → Vl td σ H' (.int s)) :
    Ax (tTest (tOp (rEqD K) (tTup (tCons ta (tCons tb tNil))) (tTup (tCons tc (tCons td tNil))))) σ H (decide (p = r ∧ q = s)) := fun Q k =>
  ha H (Same.refl H) _ (hb H (Same.refl H) _ ⟨by show 2 ≤ sizeLine; decide, fun T nT => by
    have s1 : Same H (upd H T (.tup [.int p, .int q])) := same_upd nT
    refine hc _ s1 _ (hd _ s1 _ ⟨by show 2 ≤ sizeLine; decide, fun S nS => ?_⟩)
    have s2 : Same (upd H T (.tup [.int p, .int q])) (upd (upd H T (.tup [.int p, .int q])) S (.tup [.int r, .int s])) := same_upd nS
    refine ⟨.tuple [.int p, .int q], .tuple [.int r, .int s], .tup (.of (s2 _ _ upd_same)) (.cons (.int _) (.cons (.int _) .nil)), .tup (.of upd_same) (.cons (.int _) (.cons (.int _) .nil)), by rfl, by rfl, _, rfl, ?_⟩
    rw [show PyData.eqv (.tuple [.int p, .int q]) (.tuple [.int r, .int s]) = decide (p = r ∧ q = s) by
      show (p == r && (q == s && true)) = _
      rw [Bool.and_true, Bool.eq_iff_iff]
      simp]
    exact k _ (s1.trans s2)⟩)
/-- t == (c, d), t a tuple of two ints -/
theorem ax_eqRT {p q r s : Int} {T : Addr} (ha : Vl ta σ H (.ref T)) (hT : SqT K H T [.int p, .int q]) (hb : Vl tb σ H (.int r)) (hc : Vl tc σ H (.int s)) :
    Ax (tTest (tOp (rEqD K) ta (tTup (tCons tb (tCons tc tNil))))) σ H (decide (p = r ∧ q = s)) := fun Q k =>
  ha _ (hb _ (hc _ ⟨by show 2 ≤ sizeLine; decide, fun S nS => by
    have s2 : Same H (upd H S (.tup [.int r, .int s])) := same_upd nS
    refine ⟨.tuple [.int p, .int q], .tuple [.int r, .int s], .tup (seqT s2 hT) (.cons (.int _) (.cons (.int _) .nil)), .tup (.of upd_same) (.cons (.int _) (.cons (.int _) .nil)), by rfl, by rfl, _, rfl, ?_⟩
    rw [show PyData.eqv (.tuple [.int p, .int q]) (.tuple [.int r, .int s]) = decide (p = r ∧ q = s) by
      show (p == r && (q == s && true)) = _
      rw [Bool.and_true, Bool.eq_iff_iff]
      simp]
    exact k _ s2⟩))
/-- (a, b) == t, t a tuple of two ints -/
theorem ax_eqTR {p q r s : Int} {T : Addr} (ha : Vl ta σ H (.int p)) (hb : Vl tb σ H (.int q)) (hc : ∀ H', Same H H' → Vl tc σ H' (.ref T)) (hT : SqT K H T [.int r, .int s]) :
    Ax (tTest (tOp (rEqD K) (tTup (tCons ta (tCons tb tNil))) tc)) σ H (decide (p = r ∧ q = s)) := fun Q k =>
  ha _ (hb _ ⟨by show 2 ≤ sizeLine; decide, fun S nS => by
    have s2 : Same H (upd H S (.tup [.int p, .int q])) := same_upd nS
    refine hc _ s2 _ ⟨.tuple [.int p, .int q], .tuple [.int r, .int s], .tup (.of upd_same) (.cons (.int _) (.cons (.int _) .nil)), .tup (seqT s2 hT) (.cons (.int _) (.cons (.int _) .nil)), by rfl, by rfl, _, rfl, ?_⟩
    rw [show PyData.eqv (.tuple [.int p, .int q]) (.tuple [.int r, .int s]) = decide (p = r ∧ q = s) by
      show (p == r && (q == s && true)) = _
      rw [Bool.and_true, Bool.eq_iff_iff]
      simp]
    exact k _ s2⟩)
/-- assignments of a new tuple -/
theorem q_asgTup {i : Nat} {tr : TA} {xs : List V} (h : Va tr σ H xs) (hz : xs.length ≤ sizeLine) (k : ∀ T, H T = none → tw D (σ.set i (some (.ref T))) (upd H T (.tup xs))) : tSeq (tAsg (tTup tr) (gName i)) tw D σ H := h _ ⟨hz, k⟩
theorem g_asgTup {i : Nat} {tr : TA} {xs : List V} (h : Va tr σ H xs) (hz : xs.length ≤ sizeLine) (k : ∀ T, H T = none → D.nx (σ.set i (some (.ref T))) (upd H T (.tup xs))) : tAsg (tTup tr) (gName i) D σ H := h _ ⟨hz, k⟩
end
/-! ### defs that may raise, by their names -/
structure KalX (P : Program) (w : World) (K : PySem.W.Frag) (mg : Str → Option Value) (base : Heap) (k : Nat) (x : Str) (ps : List Str) (sp : Sp) : Prop where
  ex : ∃ (f : Addr) (fd : FuncData), FnOk P w K mg base (L2.CX P w) k f fd ps sp ∧ mg x = some (.ref f) ∧ PySem.W.keepIn K (.ref f) = true ∧ Binds K fd ps []
theorem kalx_of {P : Program} {w : World} {K : PySem.W.Frag} {mg : Str → Option Value} {base : Heap} {k : Nat} {x : Str} {st : Stmt} {ps : List Str} {sp : Sp} (A : Df K mg x st ps)
    (ok : ∀ f fd, Fun K x x st f fd → FnOk P w K mg base (L2.CX P w) k f fd ps sp) : KalX P w K mg base k x ps sp := by
  obtain ⟨f, fd, F, g, b⟩ := A.ex
  exact ⟨f, fd, ok f fd F, g, F.kp, b⟩
/-- called in a def that may raise -/
theorem pe_kx {X : Cx} {k j : Nat} {x : Str} {ps : List Str} {sp : Sp} {p pos : Pos} {e : Expr} {es : List Expr} {t : TA} {E : XK} (c : KalX X.prog X.w X.K X.mg X.base k x ps sp) (hr : Room j X.A) (hk : k ≤ j) (hg : Gl X x) (tk : Takes X (fun cls d _ H => E cls d H)) (ha : PA X (e :: es) t)
    (hdb : (x == ("__debug__" : Str)) = false := by decide) (he : starEach (e :: es) X.env = (false, eval e X.env) :: starEach es X.env := by rfl) (hpl : (backTo pos (starEach es X.env)).any (·.1) = false := by rfl) :
    PE X (.Call (.Name x p) (e :: es) [] pos) (tCall sp [] E t) := by
  obtain ⟨f, fd, F, hm, kp, b⟩ := c.ex
  exact pe_call F (hr.mono hk) hg hm kp b .nil (passes_call tk fun _ _ _ _ h => h) ha hdb he hpl
/-- called within a try -/
theorem pe_ks {X : Cx} {k j : Nat} {x : Str} {ps : List Str} {sp : Sp} {p pos : Pos} {e : Expr} {es : List Expr} {t : TA} {W : WX} (c : KalX X.prog X.w X.K X.mg X.base k x ps sp) (hr : Room j X.A) (hk : k ≤ j) (hg : Gl X x) (tk : Takes X W) (ha : PA X (e :: es) t)
    (hdb : (x == ("__debug__" : Str)) = false := by decide) (he : starEach (e :: es) X.env = (false, eval e X.env) :: starEach es X.env := by rfl) (hpl : (backTo pos (starEach es X.env)).any (·.1) = false := by rfl) :
    PE X (.Call (.Name x p) (e :: es) [] pos) (tCallS sp (WE W) t) := by
  obtain ⟨f, fd, F, hm, kp, b⟩ := c.ex
  exact pe_callS F (hr.mono hk) hg hm kp b (fun σ => passAt tk σ) ha hdb he hpl
/-! ### for link in links -/
section
variable {K : PySem.W.Frag} {σ : L2.St} {H : Hp} {a : Addr} {D : Ends} {tz tw : TS}
theorem g_forLk {j : Nat} {Hb : Hp} {xs : List V} {ls : List Lnk} {tl : TE} (h : Vl tl σ H (.ref a)) (hx : SqL K Hb a xs) (hL : DpAll K Hb xs (ls.map lnkD)) (hb : Same Hb H) (Pv : Nat → L2.St → Hp → Prop) (h0 : Pv 0 σ H) (hl : ∀ i σ' H', Pv i σ' H' → Same Hb H')
    (hs : ∀ (i : Nat) l t σ H, ls[i]? = some l → SqT K Hb t (lnkV l) → Pv i σ H → tz { D with nx := Pv (i + 1), ct := Pv (i + 1), bk := D.nx } (σ.set j (some (.ref t))) H) (hd : ∀ σ H, Pv ls.length σ H → D.nx σ H) :
    tFor (iList K tl) (gName j) tz D σ H := h _ ⟨a, rfl, ⟨_, hb.seq hx⟩, for_list (xs := xs) Pv h0 (fun i σ H _ p => (hl i σ H p).seq hx) (fun i x σ H hi p => by
      have e := DpAll.len hL
      rw [List.length_map] at e
      have hlt := (List.getElem?_eq_some_iff.mp hi).1
      have hg : ls[i]? = some ls[i] := List.getElem?_eq_getElem (by omega)
      obtain ⟨v, hv, dv⟩ := DpAll.get (i := i) (d := lnkD ls[i]) hL (by
        rw [List.getElem?_map, hg]
        rfl)
      cases hi.symm.trans hv
      obtain ⟨t, rfl, ht⟩ := Dp.lnk_inv dv
      exact hs i _ t σ H hg ht p) (fun σ H p => by
      have e := DpAll.len hL
      rw [List.length_map] at e
      rw [e] at p
      exact hd σ H p)⟩
theorem q_forLk {j : Nat} {Hb : Hp} {xs : List V} {ls : List Lnk} {tl : TE} (h : Vl tl σ H (.ref a)) (hx : SqL K Hb a xs) (hL : DpAll K Hb xs (ls.map lnkD)) (hb : Same Hb H) (Pv : Nat → L2.St → Hp → Prop) (h0 : Pv 0 σ H) (hl : ∀ i σ' H', Pv i σ' H' → Same Hb H')
    (hs : ∀ (i : Nat) l t σ H, ls[i]? = some l → SqT K Hb t (lnkV l) → Pv i σ H → tz { D with nx := Pv (i + 1), ct := Pv (i + 1), bk := tw D } (σ.set j (some (.ref t))) H) (hd : ∀ σ H, Pv ls.length σ H → tw D σ H) :
    tSeq (tFor (iList K tl) (gName j) tz) tw D σ H := g_forLk (D := { D with nx := tw D }) h hx hL hb Pv h0 hl hs hd
/-- a, b, c, d = e, a link -/
theorem q_asgLnk {j1 j2 j3 j4 : Nat} {te : TE} {t : Addr} {l : Lnk} (h : Vl te σ H (.ref t)) (ht : SqT K H t (lnkV l)) (k : tw D ((((σ.set j1 (some (.int l.a))).set j2 (some (.int l.b))).set j3 (some (oV l.t))).set j4 (some (oV l.k))) H) :
    tSeq (tAsg te (gTup K 4 (gCons (gName j1) (gCons (gName j2) (gCons (gName j3) (gCons (gName j4) gNil)))))) tw D σ H := h _ ⟨t, _, rfl, ht, rfl, _, _, rfl, _, _, rfl, _, _, rfl, _, _, rfl, rfl, k⟩
/-- a tuple made in one of two ways -/
theorem if_tup {t : TT} {r1 r2 : TA} {b : Bool} {x1 x2 zs : List V} {Q : VK} (h : An t σ H b) (h1 : Va r1 σ H x1) (h2 : Va r2 σ H x2) (e1 : b = true → x1 = zs) (e2 : b = false → x2 = zs) (hz : zs.length ≤ sizeLine)
    (k : ∀ T, H T = none → Q (.ref T) (upd H T (.tup zs))) : tIf t (tTup r1) (tTup r2) σ H Q := h _ (by
  cases b with
  | true =>
    cases e1 rfl
    exact iteT (h1 _ ⟨hz, k⟩)
  | false =>
    cases e2 rfl
    exact iteF (h2 _ ⟨hz, k⟩))
end
/-! ### errors that leave a def -/
def RaiseTo (E : XK) (H : Hp) (C : Addr) (i : Int) : Prop := ∀ H' d, Same H H' → H' d = some (.xd [("at", .int i)]) → E (.ref C) (some d) H'
theorem RaiseTo.to {E : XK} {H H' : Hp} {C : Addr} {i : Int} (h : RaiseTo E H C i) (s : Same H H') : RaiseTo E H' C i := fun H2 d s2 hd => h H2 d (s.trans s2) hd
theorem raise_now {E : XK} {C : Addr} {i : Int} {ta : TA} {σ : L2.St} {H : Hp} {D : Ends} (h : Va ta σ H [.int i]) (r : RaiseTo E H C i) : tRaiseLow C (fun cls d _ H => E cls d H) ta D σ H := h _ ⟨_, rfl, fun d nd => r _ d (same_upd nd) upd_same⟩
/-- for i, x in enumerate(xs) -/
theorem for_en {K : PySem.W.Frag} {a : Addr} {xs : List V} {g : TG} {tb : TS} {D : Ends} {σ : L2.St} {H : Hp} (Pv : Nat → L2.St → Hp → Prop) (h0 : Pv 0 σ H) (hq : ∀ i σ H, Pv i σ H → SqL K H a xs)
    (hs : ∀ (i : Nat) x T σ H, xs[i]? = some x → Pv i σ H → H T = none → g (.ref T) σ (upd H T (.tup [.int (i : Nat), x])) fun σ2 H2 => tb { D with nx := Pv (i + 1), ct := Pv (i + 1), bk := D.nx } σ2 H2) (hd : ∀ σ H, Pv xs.length σ H → D.nx σ H) :
    ∃ W : Nat → Nat → L2.St → Hp → Prop, (∃ m, W 0 m σ H) ∧ ∀ i m σ H, W i m σ H → ((Ite K a).stop i H ∧ D.nx σ H) ∨
      ((Ite K a).go i H ∧ ∃ N : L2.St → Hp → Prop, (∀ σ' H', N σ' H' → ∃ m', m' < m ∧ W (i + 1) m' σ' H') ∧ ∀ v H', (Ite K a).yld i H v H' → g v σ H' fun σ2 H2 => tb { D with nx := N, ct := N, bk := D.nx } σ2 H2) := by
  refine ⟨fun i m σ H => m + i = xs.length ∧ Pv i σ H, ⟨xs.length, rfl, h0⟩, fun i m σ H hW => ?_⟩
  obtain ⟨em, p⟩ := hW
  have qx := hq i σ H p
  by_cases hlt : i < xs.length
  · refine .inr ⟨⟨xs, xs[i], qx, List.getElem?_eq_getElem hlt⟩, Pv (i + 1), fun σ' H' p' => ⟨m - 1, by omega, by omega, p'⟩, fun v H' yy => ?_⟩
    obtain ⟨T, x', rfl, hT, rfl, f1⟩ := yy
    exact hs i x' T σ H (f1 xs qx) p hT
  · have e : i = xs.length := by omega
    rw [e] at p
    exact .inl ⟨⟨xs, qx, by omega⟩, hd σ H p⟩
theorem take_snoc {α : Type} {xs : List α} {i : Nat} {x : α} (h : xs[i]? = some x) : xs.take (i + 1) = xs.take i ++ [x] := by
  rw [List.take_add_one, h]
  rfl
theorem vl_orV {K : PySem.W.Frag} {σ : L2.St} {H : Hp} {ta tb : TE} {k m : Bool} (h1 : Vl ta σ H (.bl k)) (h2 : k = false → Vl tb σ H (.bl m)) : Vl (tOrV ta tb) σ H (.bl (k || m)) := fun Q q => h1 _ ⟨k, rfl, by
  cases k with
  | true => exact iteT q
  | false => exact iteF (h2 rfl _ q)⟩
/-! ### values with a heap that grows on the way -/
def Ve (te : TE) (σ : L2.St) (H : Hp) (v : V) : Prop := ∀ Q : VK, (∀ H', Same H H' → Q v H') → te σ H Q
section
variable {K : PySem.W.Frag} {σ : L2.St} {H : Hp} {ta tb te tl t0 t1 t2 t3 : TE} {D : Ends} {tw : TS} {v x y z : V} {tt : TT}
theorem ve_of (h : Vl te σ H v) : Ve te σ H v := fun Q q => h Q (q H (Same.refl H))
theorem Ve.is {w : V} (h : Ve te σ H v) (e : v = w) : Ve te σ H w := e ▸ h
theorem q_asgV {i : Nat} (h : Ve te σ H v) (k : ∀ H', Same H H' → tw D (σ.set i (some v)) H') : tSeq (tAsg te (gName i)) tw D σ H := h _ k
theorem g_asgV {i : Nat} (h : Ve te σ H v) (k : ∀ H', Same H H' → D.nx (σ.set i (some v)) H') : tAsg te (gName i) D σ H := h _ k
theorem g_retV (h : Ve te σ H v) (k : ∀ H', Same H H' → D.rt v H') : tRet te D σ H := h _ k
theorem ve_ixNew {xs : List V} {p : Int} (ha : Vn ta σ H xs) (hb : ∀ H', Same H H' → Vl tb σ H' (.int p)) (hg : atI xs p = some z) : Ve (tOp (rIxL K) ta tb) σ H z := fun Q k =>
  ha _ fun a H1 s1 np e => hb H1 s1 _ ⟨a, xs, p, z, rfl, rfl, .of e, hg, k H1 s1⟩
theorem vn_lc {j : Nat} {xs ys : List V} (hl : ∀ Q : VK, (∀ a H1, Same H H1 → SqL K H1 a xs → Q (.ref a) H1) → tl σ H Q) (hxy : xs.length = ys.length) (hz : ys.length ≤ 1000000)
    (he : ∀ (i : Nat) x y H', Same H H' → xs[i]? = some x → ys[i]? = some y → Ve te ((σ.set j none).set j (some x)) H' y) : Vn (tLc (iList K tl) (gName j) tYes te [j]) σ H ys := fun Q q => by
  refine hl _ fun a H1 s1 hx => ⟨a, rfl, ⟨xs, hx⟩, fun D nD => lc_list (xs := xs) (fun i H' => H' D = some (.lst (ys.take i)) ∧ Same H1 H') ⟨upd_same, same_upd nD⟩ (fun i H' _ hP => hP.2.seq hx) (fun i x H2 hi hP => ?_) (fun H2 hP => ?_)⟩
  · obtain ⟨hD, s2⟩ := hP
    have hi2 := (List.getElem?_eq_some_iff.mp hi).1
    have hy : ys[i]? = some ys[i] := List.getElem?_eq_getElem (by omega)
    refine ⟨?_, ?_⟩
    · show ((σ.set j none).set j (some x)).set j none = σ.set j none
      rw [List.set_set, List.set_set]
    · refine iteT (B := H2 D = some (.lst (ys.take (i + 1))) ∧ Same H1 H2) (he i x _ H2 (s1.trans s2) hi hy _ fun H3 s3 => ⟨_, s3 _ _ hD, ?_, ?_, ?_⟩)
      · exact Nat.lt_of_le_of_lt (m := 1000000) (Nat.le_trans (by rw [List.length_take]; exact Nat.min_le_right _ _) hz) (by decide)
      · rw [upd_same, take_snoc hy]
      · exact same_upd' (s2.trans s3) nD
  · obtain ⟨hD, s2⟩ := hP
    rw [hxy, List.take_length] at hD
    exact q D H2 (s1.trans s2) (Same.free s1 nD) hD
theorem vx_list {a : Addr} {xs : List V} (h : Vl tl σ H (.ref a)) (hx : SqL K H a xs) : ∀ Q : VK, (∀ a H1, Same H H1 → SqL K H1 a xs → Q (.ref a) H1) → tl σ H Q := fun Q q => h _ (q a H (Same.refl H) hx)
theorem vx_new {xs : List V} (h : Vn tl σ H xs) : ∀ Q : VK, (∀ a H1, Same H H1 → SqL K H1 a xs → Q (.ref a) H1) → tl σ H Q := fun Q q => h _ fun a H1 s1 _ e => q a H1 s1 (.of e)
end
section
variable {K : PySem.W.Frag} {σ : L2.St} {H : Hp} {te : TE} {D : Ends} {tz tw : TS} {P : Int → Prop}
theorem q_forRI {j : Nat} (h : Vi te σ H P) (hb : ∀ n, P n → -(2 ^ 62) ≤ n ∧ n < 2 ^ 62) (Pv : Nat → L2.St → Hp → Prop) (h0 : Pv 0 σ H)
    (hs : ∀ n, P n → ∀ (i : Nat) σ H, (i : Int) < n → Pv i σ H → tz { D with nx := Pv (i + 1), ct := Pv (i + 1), bk := tw D } (σ.set j (some (.int i))) H) (hd : ∀ n, P n → ∀ σ H, Pv n.toNat σ H → tw D σ H) :
    tSeq (tFor (iRng1 (tCons te tNil)) (gName j) tz) tw D σ H := h _ fun n hn => ⟨n, rfl, (hb n hn).1, (hb n hn).2, for_range (lo := 0) (n := n.toNat) Pv h0 (fun i σ H hi p => by
      show tz _ (σ.set j (some (.int (0 + i)))) H
      rw [Int.zero_add]
      exact hs n hn i σ H (by omega) p) (hd n hn)⟩
end
section
variable {K : PySem.W.Frag} {σ : L2.St} {H : Hp} {ta tb te tl t0 t1 t2 t3 : TE} {D : Ends} {tw : TS} {v x y z : V} {tt : TT}
theorem g_appV {l : Addr} {xs : List V} (ho : Vl ta σ H (.ref l)) (hl : H l = some (.lst xs)) (h : Ve te σ H v) (hz : xs.length < sizeLine) (k : ∀ H', Same H H' → D.nx σ (upd H' l (.lst (xs ++ [v])))) :
    tDrop (tBM K "list" rAppend ta (tCons te tNil)) D σ H := ho _ ⟨.inl ⟨rfl, _, .inl (.inl hl)⟩, h _ fun H' s' => ⟨l, xs, v, rfl, rfl, s' _ _ hl, hz, k H' s'⟩⟩
theorem lc_filter {j : Nat} {xs : List V} {pb : V → Bool} (hj : j < σ.length) (hl : ∀ Q : VK, (∀ a H1, Same H H1 → SqL K H1 a xs → Q (.ref a) H1) → tl σ H Q) (hz : xs.length ≤ 1000000)
    (ht : ∀ x ∈ xs, ∀ H', An tt ((σ.set j none).set j (some x)) H' (pb x)) (Q : VK) (q : ∀ D H' acc, Same H H' → H' D = some (.lst acc) → acc.length = (xs.filter pb).length → Q (.ref D) H') : tLc (iList K tl) (gName j) tt (tVar j) [j] σ H Q := by
  refine hl _ fun a H1 s1 hx => ⟨a, rfl, ⟨xs, hx⟩, fun D nD => lc_list (xs := xs) (fun i H' => ∃ acc, H' D = some (.lst acc) ∧ Same H1 H' ∧ acc.length = ((xs.take i).filter pb).length) ⟨[], upd_same, same_upd nD, rfl⟩ (fun i H' _ hP => hP.choose_spec.2.1.seq hx) (fun i x H2 hi hP => ?_) (fun H2 hP => ?_)⟩
  · obtain ⟨acc, hD, s2, ha⟩ := hP
    have e : (xs.take (i + 1)).filter pb = (xs.take i).filter pb ++ [x].filter pb := by
      rw [take_snoc hi]
      exact List.filter_append ..
    refine ⟨?_, ht x (List.mem_of_getElem? hi) H2 _ ?_⟩
    · show ((σ.set j none).set j (some x)).set j none = σ.set j none
      rw [List.set_set, List.set_set]
    · cases hp : pb x with
      | true =>
        have e2 : [x].filter pb = [x] := by
          rw [List.filter_cons, hp]
          rfl
        refine iteT ⟨x, ?_, acc, hD, ?_, _, upd_same, same_upd' s2 nD, ?_⟩
        · exact List.getElem?_set_self (by
            show j < (σ.set j none).length
            rw [List.length_set]
            exact hj)
        · have h1 : ((xs.take i).filter pb).length ≤ xs.length := Nat.le_trans (List.length_filter_le _ _) (by rw [List.length_take]; exact Nat.min_le_right _ _)
          exact Nat.lt_of_le_of_lt (m := 1000000) (by omega) (by decide)
        · rw [e, e2, List.length_append, List.length_append, ha]
      | false =>
        have e2 : [x].filter pb = [] := by
          rw [List.filter_cons, hp]
          rfl
        refine iteF ⟨acc, hD, s2, ?_⟩
        rw [e, e2, List.append_nil]
        exact ha
  · obtain ⟨acc, hD, s2, ha⟩ := hP
    rw [List.take_length] at ha
    exact q D H2 acc (s1.trans s2) hD ha
theorem vl_inL {a : Addr} {xs : List V} (h : Vl te σ H (.ref a)) (hx : SqL K H a xs) (f1 : flatV x = true) (f2 : xs.all flatV = true) : Vl (tOp (rIn K false) (tC x) te) σ H (.bl (inV x xs)) := vl_op vl_c h fun _ k => ⟨a, xs, rfl, .inl hx, f1, f2, k⟩
theorem flat_o (o : Option Int) : flatV (oV o) = true := by cases o <;> rfl
theorem ax_leLT {a T : Addr} {p q r s : Int} (h : Vl te σ H (.ref a)) (hx : SqL K H a [.int p, .int q]) (hb : ∀ H', Same H H' → Vl tb σ H' (.ref T)) (hT : SqT K H T [.int r, .int s]) :
    Ax (tTest (tOp (rLeT K) (tCB (fun xs H Q => ∃ p ys, xs = [V.ref p] ∧ ((SqL K H p ys ∧ ∀ l, H l = none → Q (.ref l) (upd H l (.tup ys))) ∨ (SqT K H p ys ∧ Q (.ref p) H))) (tCons te tNil)) tb)) σ H (decide (p < r ∨ (p = r ∧ q ≤ s))) := fun Q k =>
  h _ ⟨a, _, rfl, .inl ⟨hx, fun S nS => hb _ (same_upd nS) _ ⟨S, T, [p, q], [r, s], rfl, rfl, .of upd_same, seqT (same_upd nS) hT, _, rfl, by
    rw [lexAt2]
    exact k _ (same_upd nS)⟩⟩⟩
theorem ve_tup4 {v0 v1 v2 v3 : V} (h0 : Ve t0 σ H v0) (h1 : ∀ H', Same H H' → Ve t1 σ H' v1) (h2 : ∀ H', Same H H' → Ve t2 σ H' v2) (h3 : ∀ H', Same H H' → Ve t3 σ H' v3) (Q : VK) (q : ∀ R H', Same H H' → H' R = some (.tup [v0, v1, v2, v3]) → Q (.ref R) H') :
    tTup (tCons t0 (tCons t1 (tCons t2 (tCons t3 tNil)))) σ H Q := h0 _ fun H1 s1 => h1 H1 s1 _ fun H2 s2 => h2 H2 (s1.trans s2) _ fun H3 s3 => h3 H3 ((s1.trans s2).trans s3) _ fun H4 s4 => ⟨by show 4 ≤ sizeLine; decide, fun R nR => q R _ ((((s1.trans s2).trans s3).trans s4).trans (same_upd nR)) upd_same⟩
end
theorem ret_pairE {te : TE} {x : Str} {D : Ends} {σ : L2.St} {H : Hp} (h : te σ H fun v H1 => [V.str x, v].length ≤ sizeLine ∧ ∀ p, H1 p = none → D.rt (.ref p) (upd H1 p (.tup [.str x, v]))) : tRet (tTup (tCons (tC (.str x)) (tCons te tNil))) D σ H := h
theorem nx_of {f : L2.St → Hp → Prop} {a b c} {σ : L2.St} {H : Hp} (h : f σ H) : (Ends.mk f a b c).nx σ H := h
theorem ax_isNV {σ : L2.St} {H : Hp} {te : TE} {v : V} (h : Ve te σ H v) : Ax (tTest (tOp (fun x y H Q => y = V.non ∧ Q (V.bl (decide (x = V.non))) H) te (tC .non))) σ H (decide (v = .non)) := fun Q k => h _ fun H' s' => ⟨rfl, _, rfl, k H' s'⟩
theorem last_get {α : Type} {l : List α} {d : α} (h : l ≠ []) : l[l.length - 1]? = some (l.getLast?.getD d) := by
  rw [List.getLast?_eq_getElem?]
  have : l.length - 1 < l.length := by
    have := List.length_pos_iff.mpr h
    omega
  rw [List.getElem?_eq_getElem this]
  rfl
theorem seqT_but {K : PySem.W.Frag} {H : Hp} {o R : Addr} {ys zs : List V} (h : SqT K H R zs) (ho : H o = some (.lst ys)) : SqT K (but H o) R zs := by
  rcases h with (h | ⟨u, h⟩) | h
  · have ne : R ≠ o := fun z => by
      rw [z, ho] at h
      cases h
    exact .inl (.inl (by rw [but_ne ne]; exact h))
  · have ne : R ≠ o := fun z => by
      rw [z, ho] at h
      cases h
    exact .inl (.inr ⟨u, by rw [but_ne ne]; exact h⟩)
  · exact .inr h
theorem vl_byLow {C a d : Addr} {te : TE} {σ : L2.St} {H : Hp} {v : V} (h : Vl te σ H (.ref a)) (hd : H d = some (.xd [("at", v)])) : Vl (tByLow C a (.ref C) (some d) te) σ H v := fun Q q => h _ ⟨rfl, rfl, d, v, rfl, hd, q⟩
def pairD (x : Str) (d : PyData) : PyData := .tuple [.str x, d]
theorem ret_pair {K : PySem.W.Frag} {σ : L2.St} {H : Hp} {D : Ends} {te : TE} {x : Str} {v : V} {d : PyData} (h : Vl te σ H v) (hd : Dp K H v d) (k : ∀ p H', Same H H' → Dp K H' (.ref p) (pairD x d) → D.rt (.ref p) H') :
    tRet (tTup (tCons (tC (.str x)) (tCons te tNil))) D σ H := h _ ⟨by show 2 ≤ sizeLine; decide, fun p np => k p _ (same_upd np) (.tup (.of upd_same) (.cons (.str x) (.cons (Dp.to hd (same_upd np)) .nil)))⟩
structure Apart (K : PySem.W.Frag) (C C' : Addr) : Prop where
  no : PySem.W.exmOne K (.ref C) (.ref C') = some false
structure NmAt (mg : Str → Option Value) (x : Str) (C : Addr) : Prop where
  gC : mg x = some (.ref C)
theorem lay_net (N : Net) : (netD N).canLay0 = true ∧ (netD N).depth ≤ 3 := by
  have h := lay_lnks N.ls
  constructor
  · show (true && (PyData.canLayAll0 (N.ls.map lnkD) && true)) = true
    rw [h.1]
    rfl
  · show max 0 (max (PyData.depthAll (N.ls.map lnkD) + 1) 0) + 1 ≤ 3
    have := h.2
    omega
theorem shaped_pair {x : Str} {d : PyData} (hx : PyData.canLay0 (.str x) = true) (h : d.canLay0 = true) (h2 : d.depth ≤ 3) : SeqAt.shaped (pairD x d) = true := by
  show ((PyData.canLay0 (.str x) && (d.canLay0 && true)) && decide (max 0 (max d.depth 0) + 1 ≤ 64)) = true
  rw [hx, h, decide_eq_true (by omega)]
  rfl
theorem refl_of {d : PyData} (h : SeqAt.shaped d = true) : PyData.eqv d d = true := SeqAt.eqv_refl _ (Bool.and_eq_true_iff.mp h).1
theorem ax_ne {K : PySem.W.Frag} {σ : L2.St} {H : Hp} {te te2 : TE} {d : PyData} (hd : SeqAt.shaped d = true) (h1 : ∀ Q : VK, (∀ v H', Same H H' → Dp K H' v d → Q v H') → te σ H Q) (h2 : ∀ H', Same H H' → ∀ Q : VK, (∀ v H2, Same H' H2 → Dp K H2 v d → Q v H2) → te2 σ H' Q) :
    Ax (tTest (tOp (rNeD K) te te2)) σ H false := fun Q k => h1 _ fun v H1 s1 d1 => h2 H1 s1 _ fun u H2 s2 d2 => ⟨d, d, Dp.to d1 s2, d2, hd, hd, _, rfl, by
  rw [refl_of hd]
  exact k H2 (s1.trans s2)⟩
theorem ax_neV {σ : L2.St} {H : Hp} {ta tb : TE} {x y : V} (ha : Vl ta σ H x) (hb : Ve tb σ H y) (hs : scal x y = true) : Ax (tTest (tOp rNe ta tb)) σ H (!decide (x = y)) := fun Q k => ha _ (hb _ fun H' s' => ⟨hs, _, rfl, k H' s'⟩)
theorem lay_ints : ∀ ns : List Int, PyData.canLayAll0 (ns.map PyData.int) = true ∧ PyData.depthAll (ns.map PyData.int) = 0
  | [] => ⟨rfl, rfl⟩
  | n :: ns => by
    have h := lay_ints ns
    constructor
    · show (true && PyData.canLayAll0 (ns.map PyData.int)) = true
      rw [h.1]
      rfl
    · show max 0 (PyData.depthAll (ns.map PyData.int)) = 0
      rw [h.2]
      rfl
theorem shaped_ints (ns : List Int) : SeqAt.shaped (.list (ns.map PyData.int)) = true := by
  have h := lay_ints ns
  show (PyData.canLayAll0 (ns.map PyData.int) && decide (PyData.depthAll (ns.map PyData.int) + 1 ≤ 64)) = true
  rw [h.1, h.2]
  rfl
/-! ### heaps with two objects that change -/
def B2 (H : Hp) (o q : Addr) : Hp := but (but H o) q
theorem b2_same {H : Hp} {o q : Addr} : Same (B2 H o q) H := but_same.trans but_same
theorem same_b2 {G H : Hp} {o q : Addr} (s : Same G H) (n : G o = none) (m : G q = none) : Same G (B2 H o q) := same_but (same_but s n) m
theorem b2_mono {H H' : Hp} {o q : Addr} (s : Same H H') : Same (B2 H o q) (B2 H' o q) := but_mono (but_mono s)
theorem b2_upd1 {H : Hp} {o q : Addr} {u : HO} : B2 (upd H o u) o q = B2 H o q := by
  unfold B2
  rw [but_upd]
theorem b2_upd2 {H : Hp} {o q : Addr} {u : HO} : B2 (upd H q u) o q = B2 H o q := by
  funext b
  unfold B2
  by_cases h : b = q
  · rw [h, but_at, but_at]
  · rw [but_ne h, but_ne h]
    by_cases h2 : b = o
    · rw [h2, but_at, but_at]
    · rw [but_ne h2, but_ne h2, upd_ne h]
theorem b2_get {H : Hp} {o q a : Addr} {u : HO} (h : H a = some u) (h1 : a ≠ o) (h2 : a ≠ q) : B2 H o q a = some u := by
  unfold B2
  rw [but_ne h2, but_ne h1]
  exact h
/-! ### comprehensions over ints -/
section
variable {K : PySem.W.Frag} {σ : L2.St} {H : Hp} {ta tb te tl td ty tv : TE} {tr : TA} {D : Ends} {tw : TS} {tt : TT} {v : V}
theorem an_yes : An tYes σ H true := fun _ q => q
theorem vn_lcI {j : Nat} {ns : List Int} {pb : Int → Bool} {f : Int → V} (hl : ∀ Q : VK, (∀ a H1, Same H H1 → SqL K H1 a (ns.map V.int) → Q (.ref a) H1) → tl σ H Q) (hz : ns.length ≤ 1000000)
    (ht : ∀ x ∈ ns, ∀ H', Same H H' → An tt ((σ.set j none).set j (some (.int x))) H' (pb x)) (he : ∀ x ∈ ns, ∀ H', Same H H' → Vl te ((σ.set j none).set j (some (.int x))) H' (f x)) :
    Vn (tLc (iList K tl) (gName j) tt te [j]) σ H ((ns.filter pb).map f) := fun Q q => by
  refine hl _ fun a H1 s1 hx => ⟨a, rfl, ⟨_, hx⟩, fun D nD => lc_list (xs := ns.map V.int) (fun i H' => H' D = some (.lst (((ns.take i).filter pb).map f)) ∧ Same H1 H') ⟨upd_same, same_upd nD⟩ (fun i H' _ hP => hP.2.seq hx) (fun i x H2 hi hP => ?_) (fun H2 hP => ?_)⟩
  · obtain ⟨hD, s2⟩ := hP
    rw [List.getElem?_map] at hi
    cases hg : ns[i]? with
    | none =>
      rw [hg] at hi
      cases hi
    | some n =>
      rw [hg] at hi
      cases hi
      have hm := List.mem_of_getElem? hg
      have e : (ns.take (i + 1)).filter pb = (ns.take i).filter pb ++ [n].filter pb := by
        rw [take_snoc hg]
        exact List.filter_append ..
      refine ⟨?_, ht n hm H2 (s1.trans s2) _ ?_⟩
      · show ((σ.set j none).set j (some (V.int n))).set j none = σ.set j none
        rw [List.set_set, List.set_set]
      · cases hp : pb n with
        | true =>
          have e2 : [n].filter pb = [n] := by
            rw [List.filter_cons, hp]
            rfl
          refine iteT (B := H2 D = some (.lst (((ns.take (i + 1)).filter pb).map f)) ∧ Same H1 H2) (he n hm H2 (s1.trans s2) _ ⟨_, hD, ?_, ?_, same_upd' s2 nD⟩)
          · rw [List.length_map]
            have h1 : ((ns.take i).filter pb).length ≤ ns.length := Nat.le_trans (List.length_filter_le _ _) (by rw [List.length_take]; exact Nat.min_le_right _ _)
            exact Nat.lt_of_le_of_lt (m := 1000000) (by omega) (by decide)
          · rw [upd_same, e, e2, List.map_append]
            rfl
        | false =>
          have e2 : [n].filter pb = [] := by
            rw [List.filter_cons, hp]
            rfl
          refine iteF ⟨?_, s2⟩
          rw [e, e2, List.append_nil]
          exact hD
  · obtain ⟨hD, s2⟩ := hP
    rw [List.length_map, List.take_length] at hD
    exact q D H2 (s1.trans s2) (Same.free s1 nD) hD
theorem vn_lcR {j : Nat} {n : Int} {pb : Int → Bool} {f : Int → V} (hl : Va tr σ H [.int n]) (h0 : 0 ≤ n) (hz : n ≤ 1000000)
    (ht : ∀ x : Int, 0 ≤ x → x < n → ∀ H', Same H H' → An tt ((σ.set j none).set j (some (.int x))) H' (pb x)) (he : ∀ x : Int, 0 ≤ x → x < n → ∀ H', Same H H' → Vl te ((σ.set j none).set j (some (.int x))) H' (f x)) :
    Vn (tLc (iRng1 tr) (gName j) tt te [j]) σ H (((((List.range n.toNat).map fun (i : Nat) => (i : Int))).filter pb).map f) := fun Q q => by
  refine hl _ ⟨n, rfl, by omega, by omega, fun D nD => lc_range (lo := 0) (n := n.toNat) (fun i H' => H' D = some (.lst ((((List.range i).map fun (i : Nat) => (i : Int)).filter pb).map f)) ∧ Same H H') ⟨upd_same, same_upd nD⟩ (fun i H2 hi hP => ?_) (fun H2 hP => ?_)⟩
  · obtain ⟨hD, s2⟩ := hP
    have e : (((List.range (i + 1)).map fun (i : Nat) => (i : Int)).filter pb) = ((List.range i).map fun (i : Nat) => (i : Int)).filter pb ++ [(i : Int)].filter pb := by
      rw [List.range_succ, List.map_append]
      exact List.filter_append ..
    rw [Int.zero_add]
    refine ⟨?_, ht i (by omega) (by omega) H2 s2 _ ?_⟩
    · show ((σ.set j none).set j (some (V.int i))).set j none = σ.set j none
      rw [List.set_set, List.set_set]
    · cases hp : pb (i : Int) with
      | true =>
        have e2 : [(i : Int)].filter pb = [(i : Int)] := by
          rw [List.filter_cons, hp]
          rfl
        refine iteT (B := H2 D = some (.lst ((((List.range (i + 1)).map fun (i : Nat) => (i : Int)).filter pb).map f)) ∧ Same H H2) (he i (by omega) (by omega) H2 s2 _ ⟨_, hD, ?_, ?_, same_upd' s2 nD⟩)
        · rw [List.length_map]
          have h1 : (((List.range i).map fun (i : Nat) => (i : Int)).filter pb).length ≤ i := Nat.le_trans (List.length_filter_le _ _) (by rw [List.length_map, List.length_range]; exact Nat.le_refl _)
          exact Nat.lt_of_le_of_lt (m := 1000000) (by omega) (by decide)
        · rw [upd_same, e, e2, List.map_append]
          rfl
      | false =>
        have e2 : [(i : Int)].filter pb = [] := by
          rw [List.filter_cons, hp]
          rfl
        refine iteF ⟨?_, s2⟩
        rw [e, e2, List.append_nil]
        exact hD
  · obtain ⟨hD, s2⟩ := hP
    exact q D H2 s2 nD hD
/-! ### dicts by ints -/
theorem vl_dgetI {o : Addr} {p : Int} {kvs : List (Key × V)} (ho : Vl td σ H (.ref o)) (hk : Vl ty σ H (.int p)) (hd : H o = some (.dK kvs)) (hv : valV kvs (.inl p) = some v) : Vl (tDGet td ty) σ H v := fun Q q => ho _ (hk _ ⟨o, v, rfl, by
  rw [← hv]
  exact DGet.k (k := .inl p) hd, q⟩)
theorem q_dnewK {i : Nat} (k : ∀ p, H p = none → tw D (σ.set i (some (.ref p))) (upd H p (.dK []))) : tSeq (tAsg tDNewK (gName i)) tw D σ H := k
theorem g_dputN {o : Addr} {p : Int} {kvs : List (Key × V)} {xs : List V} (hv : Vn tv σ H xs) (ho : ∀ H', Same H H' → Vl td σ H' (.ref o)) (hk : ∀ H', Same H H' → Vl ty σ H' (.int p)) (hd : H o = some (.dK kvs)) (hl : kvs.length < sizeLine)
    (k : ∀ a H', Same H H' → H a = none → H' a = some (.lst xs) → D.nx σ (upd H' o (.dK (putK kvs (.inl p) (.ref a))))) : sDPut td ty tv D σ H := hv _ fun a H' s' na ea => ho H' s' _ (hk H' s' _ ⟨o, _, rfl, DPut.k (k := .inl p) (s' _ _ hd) hl, k a H' s' na ea⟩)
theorem g_dputV {o : Addr} {p : Int} {kvs : List (Key × V)} (hv : Vl tv σ H v) (ho : Vl td σ H (.ref o)) (hk : Vl ty σ H (.int p)) (hd : H o = some (.dK kvs)) (hl : kvs.length < sizeLine)
    (k : D.nx σ (upd H o (.dK (putK kvs (.inl p) v)))) : sDPut td ty tv D σ H := hv _ (ho _ (hk _ ⟨o, _, rfl, DPut.k (k := .inl p) hd hl, k⟩))
end
theorem hu_of {k : Nat} {A : Around} (r : Room k A) : A.units + 1 < cLine := by
  have := r.units
  omega
theorem dI {i j : Int} : decide (V.int i = V.int j) = decide (i = j) := by
  rw [Bool.eq_iff_iff, decide_eq_true_eq, decide_eq_true_eq]
  exact ⟨fun z => V.int.inj z, fun z => by rw [z]⟩
theorem vn_catV {K : PySem.W.Frag} {σ : L2.St} {H : Hp} {ta tb : TE} {a : Addr} {xs ys : List V} (ha : Vn ta σ H xs) (hb : ∀ H', Same H H' → Vl tb σ H' (.ref a)) (hA : H a = some (.lst ys)) (hz : xs.length + ys.length ≤ sizeLine) : Vn (tOp rCat ta tb) σ H (xs ++ ys) := fun Q q => ha _ fun p H1 s1 np hp => hb H1 s1 _
  ⟨p, a, xs, ys, rfl, rfl, hp, s1 _ _ hA, hz, fun t nt => q t _ (s1.trans (same_upd nt)) (Same.free s1 nt) upd_same⟩
theorem putK_len {κ : Type} [DecidableEq κ] {kvs : List (κ × V)} {k : κ} {v : V} (h : (valV kvs k).isSome = true) : (putK kvs k v).length = kvs.length := by
  unfold putK
  rw [valV_any, if_pos h, List.length_map]
/-! ### a law's own def, called from without: nothing is being shown there -/
structure FnG (P : Program) (w : World) (K : PySem.W.Frag) (mg : Str → Option Value) (base : Heap) (f : Addr) (fd : FuncData) (ps : List Str) (sp : Sp) : Prop where
  go : ∀ (s : Shared) (H : Hp) (us : List Value) (vs : List V) (Q : VK) (E : XK), Env0 P w K mg base callerA [] s H → BindsTo s fd ⟨us, []⟩ (ps.zip us) → Vals vs us → sp vs H Q E → codeAny (model P w) callerA (.call (.ref f) ⟨us, []⟩) (CR CX0 [] P w H s Q E) s
section
variable {P : Program} {w : World} {K : PySem.W.Frag} {mg : Str → Option Value} {base : Heap}
theorem okG {x qual : Str} {st : Stmt} {f : Addr} {fd : FuncData} {N ps : List Str} {k : Nat} {sp : Sp} (F : Fun K x qual st f fd) (S : FnScope N ps (defScope st)) (room : Room (k + 1) callerA) (count : ∀ vs H Q E, sp vs H Q E → vs.length = ps.length)
    (body : ∀ (cdv : Value) (s : Shared) (H : Hp) (vs : List V) (Q : VK) (E : XK), Room k (callerA.deeper (envOfC qual (defScope st) s.heap.objs.size f cdv)) → sp vs H Q E →
      ∃ t, PSs (cxOf CX0 P w K mg base N qual (defScope st) f cdv callerA [] s H E).nox (defBody st) t ∧ t { nx := fun _ H' => Q .non H', rt := Q } (start N vs) H) : FnG P w K mg base f fd ps sp := by
  obtain ⟨oc, od, kV, doc, pm, an, cdv, ct, osl, efd, look, code⟩ := F.ex
  subst efd
  refine ⟨fun s H us vs Q E env bnd rel want => ?_⟩
  have old : ∀ b o, base.get? b = some o → s.heap.get? b = some o := fun b o e => (env.bs b o e).1
  have kin : K.In s.heap := env.mod.kin.keeps old
  have lims : s.heap.NoLimit := env.mod.nolimit.keeps old
  refine codeAny_call_function room.depth (kin _ _ look) rfl S.co S.gen rfl (PySem.W.codeRec_of kin code) (bnd _ _ _ _ ?_)
  refine wpAny_newFunctionEnv_cells S.kind (fun y hy => ?_) fun fresh same s1 made => ?_
  · obtain ⟨n, v⟩ := y
    cases S.par n (List.of_mem_zip hy).1 with
    | inl q => exact .inl q
    | inr q => exact .inr ⟨q, PySem.W.cellsFrom_some _ _ _ (.inl q)⟩
  cases same
  refine ⟨lims.keeps made.toInCall.keep, codeAny_func ?_⟩
  obtain ⟨t, prog, ends⟩ := body cdv s H vs Q E (room.deeper _) want
  have inv : Inv (cxOf CX0 P w K mg base N qual (defScope st) f cdv callerA [] s H E) [] (start N vs) H s1 := inv_start S room.hd env (count _ _ _ _ want) rel made
  refine wpAny_mono (prog.nox.run [] s1 (start N vs) H _ inv ends) (fun fl s2 got => ?_) fun e s2 got => got
  cases fl with
  | ret u => exact let ⟨v, _, H2, J, rv, q⟩ := got; ⟨v, H2, J.os, J.bare, J.base, J.hok, rv, q⟩
  | next => exact let ⟨_, H2, J, q⟩ := got; ⟨V.non, H2, J.os, J.bare, J.base, J.hok, rfl, q⟩
  | brk => exact let ⟨_, _, _, q⟩ := got; False.elim q
  | cont => exact let ⟨_, _, _, q⟩ := got; False.elim q
variable {mb : Str → Option Value} {fa a : Addr} {fd : FuncData} {x : Str} {sp : Sp} {s1 : Shared} {vs : List Value} {ns : List Int}
abbrev scr (vs : List Value) : Obj := { cls := .type "list", data := .seq vs.toArray }
/-- from a heap in which at most the script is told -/
theorem runG_core (kin : K.In s1.heap) (gl : s1.heap.Ns mainGlobals mg) (bl : s1.heap.Ns builtinsNs mb) (bo : ∀ x : Str, x ≠ "__name__" → mb x = bootBuiltins x) (lim : s1.heap.NoLimit) (gen : s1.gens = #[]) (ha : s1.heap.get? a = some (scr vs))
    (F : ∀ base : Heap, K.In base → base.Ns mainGlobals mg → FnG P w K mg base fa fd [x] sp) (bind : ∀ (s : Shared) (u : Value), BindsTo s fd ⟨[u], []⟩ [(x, u)]) {H : Hp} (only : Only H) (want : sp [.ref a] H (fun v _ => v = .bl true) fun _ _ _ => False) (hok : HOk P w H s1.heap)
    (alone : ∀ b, H b ≠ none → b = a) (free : H a ≠ none → K.lookup a = none) :
    codeAny (model P w) callerA (.call (.ref fa) ⟨[.ref a], []⟩) (fun r s' => r = .ok (.ret (.bool true)) ∧ OldK s1.heap s'.heap ∧ s'.os = s1.os ∧ AllBare s'.gens) s1 := by
  have none_of : ∀ {b : Addr} {o : Obj}, s1.heap.get? b = some o → (b = a → H a ≠ none → False) → (hidT s1.heap H).get? b = some o := fun {b o} e no => hidT_get e (by
    cases q : H b with
    | none => rfl
    | some u =>
      have n : H b ≠ none := by rw [q]; exact fun z => nomatch z
      have eb := alone b n
      subst eb
      exact (no rfl n).elim)
  have names : ∀ {b : Addr} {m : Str → Option Value}, s1.heap.Ns b m → (hidT s1.heap H).Ns b m := fun {b m} ⟨o, es, ep, e, d, r⟩ => ⟨o, es, ep, none_of e (fun eb _ => by
    subst eb
    rw [ha] at e
    cases e
    have d : Data.seq vs.toArray _ = Data.dict es ep := d
    cases d), d, r⟩
  have kin2 : K.In (hidT s1.heap H) := fun b o e => none_of (kin b o e) fun eb n => by
    subst eb
    rw [free n] at e
    cases e
  have mod : Mod K mg (hidT s1.heap H) := ⟨kin2, names gl, ⟨mb, names bl, bo⟩, let ⟨mc, h1, h2⟩ := lim; ⟨mc, names h1, h2⟩⟩
  have env : Env0 P w K mg (hidT s1.heap H) callerA [] s1 H := ⟨rfl, mod, fun b o e => of_hidT e, Nat.le_of_eq (hidT_size _ _), trivial, fun b hb => (nomatch (show b ∈ ([] : List Addr) from hb)), hok, .of_eq gen⟩
  refine codeAny_mono ((F _ kin2 (names gl)).go s1 H [.ref a] [.ref a] _ _ env (bind s1 (.ref a)) (.cons rfl .nil) want) fun r s2 got => ?_
  match r, got with
  | .ok (.ret u), got =>
    obtain ⟨v, H2, os, bare, un, hok2, rel, q⟩ := got
    have q : v = .bl true := q
    cases q
    have rel : u = Value.bool true := rel
    cases rel
    refine ⟨rfl, OldK.of_keep fun b o e => ?_, os, bare⟩
    rcases only b with z | ⟨ob, xs, z⟩
    · exact un.keep b o e z (fun m => (nomatch (show b ∈ ([] : List Addr) from m))) (fun m => (nomatch m))
    · obtain ⟨e1, _⟩ := hok b _ z
      obtain ⟨e2, _⟩ := hok2 b _ (un.frzs b ob _ z)
      rw [e] at e1
      cases e1
      exact e2
theorem runG (kin : K.In s1.heap) (gl : s1.heap.Ns mainGlobals mg) (bl : s1.heap.Ns builtinsNs mb) (bo : ∀ x : Str, x ≠ "__name__" → mb x = bootBuiltins x) (lim : s1.heap.NoLimit) (gen : s1.gens = #[]) (ha : s1.heap.get? a = some (scr vs)) (hin : IntsAre vs ns) (hl : ns.length ≤ sizeLine)
    (F : ∀ base : Heap, K.In base → base.Ns mainGlobals mg → FnG P w K mg base fa fd [x] sp) (bind : ∀ (s : Shared) (u : Value), BindsTo s fd ⟨[u], []⟩ [(x, u)]) (want : ∀ H : Hp, Only H → SqL K H a (ns.map V.int) → sp [.ref a] H (fun v _ => v = .bl true) fun _ _ _ => False) :
    codeAny (model P w) callerA (.call (.ref fa) ⟨[.ref a], []⟩) (fun r s' => r = .ok (.ret (.bool true)) ∧ OldK s1.heap s'.heap ∧ s'.os = s1.os ∧ AllBare s'.gens) s1 := by
  have rel := vals_ints hin
  have size : vs.toArray.size ≤ sizeLine := by
    rw [List.size_toArray, hin.length]
    exact hl
  cases hk : K.lookup a with
  | some o =>
    have e := (kin a o hk).symm.trans ha
    cases e
    have only : Only (fun _ : Addr => (none : Option HO)) := fun _ => .inl rfl
    exact runG_core kin gl bl bo lim gen ha F bind only (want _ only (.inr ⟨_, vs.toArray, _, hk, rfl, rfl, rfl, size, by simpa using rel⟩)) (fun b u z => (nomatch (show (none : Option HO) = some u from z))) (fun b z => absurd rfl z) fun z => absurd rfl z
  | none =>
    let H : Hp := fun b => if b = a then some (.frz (scr vs) (.lst (ns.map V.int))) else none
    have at_ : H a = some (.frz (scr vs) (.lst (ns.map V.int))) := if_pos rfl
    have off : ∀ b, b ≠ a → H b = none := fun b hb => if_neg hb
    have only : Only H := fun b => by
      by_cases hb : b = a
      · subst hb
        exact .inr ⟨_, _, at_⟩
      · exact .inl (off b hb)
    refine runG_core kin gl bl bo lim gen ha F bind only (want _ only (.inl (.inr ⟨scr vs, at_⟩))) (fun b u z => ?_) (fun b z => ?_) fun _ => hk
    · by_cases hb : b = a
      · subst hb
        cases at_.symm.trans z
        exact ⟨ha, by rw [List.length_map]; exact hl, vs, _, rel, ha⟩
      · cases (off b hb).symm.trans z
    · by_cases hb : b = a
      · exact hb
      · exact absurd (off b hb) z
end
/-- the head -/
theorem walkG {l : PySem.W.OpenLaw} {n : Nat} {q : Program} {loose : List Str} {XP : (Str → Option Value) → Heap → Prop} {YP : World → Heap → Prop} {d : DefRec} {K : Params → PySem.W.Frag} {sp : World → Sp} {x : Str} (hn : l.most = some n) (hn2 : n ≤ sizeLine) (hdf : d.params.defaults = []) (hY : ∀ (w : World) (h : Heap), YP w h → (K w.params).In h)
    (F : ∀ (w : World) (mg : Str → Option Value) (fa : Addr) (h : Heap), (K w.params).In h → h.Ns mainGlobals mg → mg d.name = some (.ref fa) → ∃ fd : FuncData, (∀ (s : Shared) (u : Value), BindsTo s fd ⟨[u], []⟩ [(x, u)]) ∧ ∀ base : Heap, (K w.params).In base → base.Ns mainGlobals mg → FnG l.prog w (K w.params) mg base fa fd [x] (sp w))
    (want : ∀ (w : World) (H : Hp) (a : Addr) (ns : List Int), ns.length ≤ n → Only H → SqL (K w.params) H a (ns.map V.int) → sp w [.ref a] H (fun v _ => v = .bl true) fun _ _ _ => False) : PySem.W.WalkO q loose XP YP l.row.toRowW d [] (fun f vs => PySem.call f vs) :=
  Att.attach_call hn hdf fun w s₀ s₁ mg mb fa o pm cd doc a vs ns G Y ho hd hcd hmg hobj hints hlen hg => by
    obtain ⟨fd, bnd, fn⟩ := F w mg fa _ (hY w _ Y) G.T.g hmg
    exact runG (hY w _ Y) G.T.g G.T.b G.T.builtins G.T.nolimit hg hobj hints (Nat.le_trans hlen hn2) fn bnd fun H o q => want w H a ns hlen o q
/-! ### repr of data -/
def rRepr (K : PySem.W.Frag) : List V → Hp → VK → Prop := fun xs H Q => ∃ a d, xs = [.ref a] ∧ Dp K H (.ref a) d ∧ d.showable = true ∧ d.hasDict = false ∧ d.depth ≤ 60 ∧ d.shown.length ≤ sizeLine ∧ Q (.str d.shown) H
theorem call_reprD {X : Cx} (hg : X.A.guards = some []) (hu : X.A.units + 64 < cLine) : CallR X (.builtin "repr") (rRepr X.K) := by
  intro pins s σ H xs us Q I r h
  obtain ⟨a, d, rfl, hd, sh, nd, dep, len, q⟩ := h
  obtain ⟨u, rfl, e⟩ := vals1 r
  cases e
  obtain ⟨as, rd⟩ := Dp.reads I d _ _ hd rfl
  exact repr_of_reads' rd sh (PyData.noDict_hsm nd) hg (by omega) (fun _ _ e => e) (fun h' u tk keep => ⟨.str d.shown, H, I.kept keep, ⟨u, rfl⟩, q⟩) len
theorem ve_repr {K : PySem.W.Frag} {σ : L2.St} {H : Hp} {tr : TA} {xs : List V} {d : PyData} (h : Va tr σ H xs) (hz : xs.length ≤ sizeLine) (hd : ∀ T H', Same H H' → H' T = some (.tup xs) → Dp K H' (.ref T) d) (h1 : d.showable = true) (h2 : d.hasDict = false) (h3 : d.depth ≤ 60) (h4 : d.shown.length ≤ sizeLine) :
    Ve (tCB (rRepr K) (tCons (tTup tr) tNil)) σ H (.str d.shown) := fun Q q => h _ ⟨hz, fun T nT => ⟨T, d, rfl, hd T _ (same_upd nT) upd_same, h1, h2, h3, h4, q _ (same_upd nT)⟩⟩
theorem ve_repr1 {K : PySem.W.Frag} {σ : L2.St} {H : Hp} {te : TE} {a : Addr} {d : PyData} (h : Vl te σ H (.ref a)) (hd : Dp K H (.ref a) d) (h1 : d.showable = true) (h2 : d.hasDict = false) (h3 : d.depth ≤ 60) (h4 : d.shown.length ≤ sizeLine) :
    Ve (tCB (rRepr K) (tCons te tNil)) σ H (.str d.shown) := fun Q q => h _ ⟨a, d, rfl, hd, h1, h2, h3, h4, q _ (Same.refl _)⟩
/-! ### orders -/
def rng (n : Int) : List Int := (List.range n.toNat).map fun (i : Nat) => (i : Int)
def OrdOk (n : Int) (os : List Int) : Prop := os.Perm (rng n)
theorem mem_rng {n x : Int} : x ∈ rng n ↔ 0 ≤ x ∧ x < n := by
  unfold rng
  rw [List.mem_map]
  constructor
  · rintro ⟨i, hi, rfl⟩
    rw [List.mem_range] at hi
    omega
  · intro h
    exact ⟨x.toNat, List.mem_range.mpr (by omega), by omega⟩
theorem len_rng {n : Int} : (rng n).length = n.toNat := by
  unfold rng
  rw [List.length_map, List.length_range]
theorem nodup_rng {n : Int} : (rng n).Nodup := by
  unfold rng
  show List.Pairwise (· ≠ ·) _
  rw [List.pairwise_map]
  exact List.Pairwise.imp (fun h z => h (Int.ofNat.inj z)) List.nodup_range
theorem rng_succ (i : Nat) : rng ((i + 1 : Nat) : Int) = rng (i : Nat) ++ [(i : Int)] := by
  unfold rng
  rw [Int.toNat_natCast, Int.toNat_natCast, List.range_succ, List.map_append]
  rfl
theorem OrdOk.mem {n x : Int} {os : List Int} (h : OrdOk n os) : x ∈ os ↔ 0 ≤ x ∧ x < n := (h.mem_iff).trans mem_rng
theorem OrdOk.nodup {n : Int} {os : List Int} (h : OrdOk n os) : os.Nodup := (List.Perm.nodup_iff h).mpr nodup_rng
theorem OrdOk.len {n : Int} {os : List Int} (h : OrdOk n os) : os.length = n.toNat := (List.Perm.length_eq h).trans len_rng
theorem perm_of_sub : ∀ (xs ys : List Int), xs.Nodup → (∀ x ∈ xs, x ∈ ys) → ys.length ≤ xs.length → xs.Perm ys
  | [], ys, _, _, hl => by
    rw [List.eq_nil_of_length_eq_zero (Nat.le_zero.mp hl)]
  | x :: xs, ys, hn, hs, hl => by
    have hx := hs x List.mem_cons_self
    have hn := List.nodup_cons.mp hn
    have e := List.length_erase_of_mem hx
    have h := perm_of_sub xs (ys.erase x) hn.2 (fun y hy => (List.mem_erase_of_ne (fun z => hn.1 (by rw [← z]; exact hy))).mpr (hs y (List.mem_cons_of_mem _ hy))) (by
      rw [e]
      rw [List.length_cons] at hl
      omega)
    exact (h.cons x).trans (List.perm_cons_erase hx).symm
theorem ord_of {n : Int} {os : List Int} (hn : os.Nodup) (hm : ∀ x ∈ os, 0 ≤ x ∧ x < n) (hl : os.length = n.toNat) : OrdOk n os :=
  perm_of_sub _ _ hn (fun x hx => mem_rng.mpr (hm x hx)) (by rw [len_rng, hl]; exact Nat.le_refl _)
section
variable {K : PySem.W.Frag} {σ : L2.St} {H : Hp} {ta tb te : TE} {D : Ends} {tw : TS} {xs : List V}
theorem g_asgN {i : Nat} (h : Vn te σ H xs) (k : ∀ p H', Same H H' → H p = none → H' p = some (.lst xs) → D.nx (σ.set i (some (.ref p))) H') : tAsg te (gName i) D σ H := h _ k
/-- slices and sums of lists of ints -/
theorem vn_toI {ns : List Int} {a : Addr} {j : Nat} (h : Vl te σ H (.ref a)) (hj : Vl tb σ H (.int (j : Nat))) (hx : SqL K H a (ns.map V.int)) (hl : j ≤ ns.length) : Vn (tSl (rSlL K) te tNoPart (tPart tb)) σ H ((ns.take j).map V.int) := by
  have e : cutV (ns.map V.int) none (some ((j : Nat) : Int)) = (ns.take j).map V.int := by
    rw [cut_to (by rw [List.length_map]; exact hl), List.map_take]
  rw [← e]
  exact vn_slice h (fun _ q => q) (fun Q q => hj _ ⟨_, rfl, q⟩) hx
theorem vn_fromI {ns : List Int} {a : Addr} {j : Nat} (h : Vl te σ H (.ref a)) (hj : Vl tb σ H (.int (j : Nat))) (hx : SqL K H a (ns.map V.int)) (hl : j ≤ ns.length) : Vn (tSl (rSlL K) te (tPart tb) tNoPart) σ H ((ns.drop j).map V.int) := by
  have e : cutV (ns.map V.int) (some ((j : Nat) : Int)) none = (ns.drop j).map V.int := by
    rw [cut_from (by rw [List.length_map]; exact hl), List.map_drop]
  rw [← e]
  exact vn_slice h (fun Q q => hj _ ⟨_, rfl, q⟩) (fun _ q => q) hx
theorem vn_oneI {n : Int} (h : Vl te σ H (.int n)) : Vn (tLst (tCons te tNil)) σ H (([n] : List Int).map V.int) := vn_lst (va_cons h va_nil) (by show 1 ≤ sizeLine; decide)
theorem vn_catI {ms ns : List Int} (ha : Vn ta σ H (ms.map V.int)) (hb : ∀ H', Same H H' → Vn tb σ H' (ns.map V.int)) (hz : ms.length + ns.length ≤ 1000000) : Vn (tOp rCat ta tb) σ H ((ms ++ ns).map V.int) := by
  rw [List.map_append]
  exact vn_cat ha hb (by
    rw [List.length_map, List.length_map]
    exact Nat.le_trans hz (by decide))
theorem inV_int {x : Int} {ns : List Int} : inV (.int x) (ns.map V.int) = decide (x ∈ ns) := by
  unfold inV
  induction ns with
  | nil => rfl
  | cons n r ih =>
    rw [List.map_cons, List.any_cons, ih]
    show ((n == x) || decide (x ∈ r)) = _
    rw [Bool.eq_iff_iff, Bool.or_eq_true, beq_iff_eq, decide_eq_true_eq, decide_eq_true_eq, List.mem_cons]
    constructor
    · rintro (h | h)
      · exact .inl h.symm
      · exact .inr h
    · rintro (h | h)
      · exact .inl h.symm
      · exact .inr h
theorem flat_ints (ns : List Int) : (ns.map V.int).all flatV = true := by
  rw [List.all_map, List.all_eq_true]
  intro x _
  rfl
theorem vl_inI {a : Addr} {x : Int} {ns : List Int} (ha : Vl ta σ H (.int x)) (h : Vl te σ H (.ref a)) (hx : SqL K H a (ns.map V.int)) : Vl (tOp (rIn K false) ta te) σ H (.bl (decide (x ∈ ns))) := vl_op ha h fun _ k => ⟨a, _, rfl, .inl hx, rfl, flat_ints ns, by
  rw [inV_int]
  exact k⟩
theorem vl_notInI {a : Addr} {x : Int} {ns : List Int} (ha : Vl ta σ H (.int x)) (h : Vl te σ H (.ref a)) (hx : SqL K H a (ns.map V.int)) : Vl (tOp (rIn K true) ta te) σ H (.bl (!decide (x ∈ ns))) := vl_op ha h fun _ k => ⟨a, _, rfl, .inl hx, rfl, flat_ints ns, by
  rw [inV_int]
  exact k⟩
theorem vl_ixI {a : Addr} {ns : List Int} {j : Nat} {x : Int} (ha : Vl ta σ H (.ref a)) (hb : Vl tb σ H (.int (j : Nat))) (h : SqL K H a (ns.map V.int)) (hg : ns[j]? = some x) : Vl (tOp (rIxL K) ta tb) σ H (.int x) := vl_ixL ha hb h (atI_nat (by
  rw [List.getElem?_map, hg]
  rfl))
theorem vl_lenI {a : Addr} {ns : List Int} (ha : Vl ta σ H (.ref a)) (h : SqL K H a (ns.map V.int)) : Vl (tCB (fun xs H Q => ∃ p ys, xs = [V.ref p] ∧ (SqL K H p ys ∨ SqT K H p ys) ∧ Q (V.int ys.length) H) (tCons ta tNil)) σ H (.int ns.length) := (vl_lenL ha h).is (by rw [List.length_map])
end
section
variable {K : PySem.W.Frag} {σ : L2.St} {H : Hp} {ta tb te : TE} {b k m : Bool}
theorem vn_catL {a : Addr} {ms ns : List Int} (ha : Vl ta σ H (.ref a)) (hA : H a = some (.lst (ms.map V.int))) (hb : Vn tb σ H (ns.map V.int)) (hz : ms.length + ns.length ≤ 1000000) : Vn (tOp rCat ta tb) σ H ((ms ++ ns).map V.int) := fun Q q =>
  ha _ (hb _ fun p H1 s1 np hp => ⟨a, p, _, _, rfl, rfl, s1 _ _ hA, hp, by
    rw [List.length_map, List.length_map]
    exact Nat.le_trans hz (by decide), fun t nt => by
    rw [← List.map_append]
    exact q t _ (s1.trans (same_upd nt)) (Same.free s1 nt) upd_same⟩)
theorem vn_lstRg {n : Int} (h : Vl ta σ H (.int n)) (h0 : 0 ≤ n) (h1 : n ≤ 1000000) : Vn (tLstRg (tRg1 ta)) σ H ((rng n).map V.int) := fun Q q => h _ ⟨n, rfl, RgOk.of_le (by omega) (by omega) (by omega) h0, fun p np => by
  have e : rgV 0 n = (rng n).map V.int := by
    unfold rgV rng
    rw [List.map_map, Int.sub_zero]
    exact List.map_congr_left fun i _ => by
      rw [Int.zero_add]
      rfl
  rw [e]
  exact q p _ (same_upd np) np upd_same⟩
theorem vl_andV (h1 : Vl ta σ H (.bl k)) (h2 : k = true → Vl tb σ H (.bl m)) : Vl (tAndV ta tb) σ H (.bl (k && m)) := fun Q q => h1 _ ⟨k, rfl, by
  cases k with
  | true => exact iteT (h2 rfl _ q)
  | false => exact iteF q⟩
theorem dB {i j : Bool} : decide (V.bl i = V.bl j) = decide (i = j) := by
  rw [Bool.eq_iff_iff, decide_eq_true_eq, decide_eq_true_eq]
  exact ⟨fun z => V.bl.inj z, fun z => by rw [z]⟩
end
theorem q_dputN {σ : L2.St} {H : Hp} {td ty tv : TE} {D : Ends} {tw : TS} {o : Addr} {p : Int} {kvs : List (Key × V)} {xs : List V} (hv : Vn tv σ H xs) (ho : ∀ H', Same H H' → Vl td σ H' (.ref o)) (hk : ∀ H', Same H H' → Vl ty σ H' (.int p)) (hd : H o = some (.dK kvs)) (hl : kvs.length < sizeLine)
    (k : ∀ a H', Same H H' → H a = none → H' a = some (.lst xs) → tw D σ (upd H' o (.dK (putK kvs (.inl p) (.ref a))))) : tSeq (sDPut td ty tv) tw D σ H := g_dputN (D := { D with nx := tw D }) hv ho hk hd hl k
def spOrder (K : PySem.W.Frag) : Sp := fun vs H Q _ => ∃ (d : Addr) (ds : List Int) (k n : Int), vs = [.ref d, .int k, .int n] ∧ SqL K H d (ds.map V.int) ∧ 0 ≤ k ∧ 0 ≤ n ∧ n ≤ 40 ∧ ∀ H' p os, Same H H' → H p = none → H' p = some (.lst (os.map V.int)) → OrdOk n os → Q (.ref p) H'
/-! ### ranks -/
def fb (m : Int) : List Int → List Int → Nat → Option Nat
  | _, [], _ => none
  | seen, x :: xs, k => if (0 ≤ x ∧ x < m) ∧ x ∉ seen then fb m (seen ++ [x]) xs (k + 1) else some k
def badAt (os : List Int) : Option Nat := fb os.length [] os 0
def posOf (x : Int) : List Int → Nat
  | [] => 0
  | y :: ys => if y = x then 0 else posOf x ys + 1
def rk (os : List Int) : List Int := (rng os.length).map fun p => (posOf p os : Int)
theorem posOf_get : ∀ {os : List Int} {i : Nat} {x : Int}, os.Nodup → os[i]? = some x → posOf x os = i
  | [], _, _, _, h => by simp at h
  | y :: ys, 0, x, _, h => if_pos (Option.some.inj h)
  | y :: ys, i + 1, x, hn, h => by
    have hn := List.nodup_cons.mp hn
    have h : ys[i]? = some x := h
    have ne : ¬ y = x := fun z => hn.1 (by rw [z]; exact List.mem_of_getElem? h)
    show (if y = x then 0 else posOf x ys + 1) = i + 1
    rw [if_neg ne, posOf_get hn.2 h]
theorem posOf_lt : ∀ {os : List Int} {x : Int}, x ∈ os → os[posOf x os]? = some x
  | y :: ys, x, h => by
    show (y :: ys)[if y = x then 0 else posOf x ys + 1]? = some x
    by_cases e : y = x
    · rw [if_pos e, e]
      rfl
    · rw [if_neg e]
      rcases List.mem_cons.mp h with h | h
      · exact absurd h.symm e
      · exact posOf_lt h
theorem fb_ok {m : Int} : ∀ {xs seen : List Int} {k : Nat}, fb m seen xs k = none → seen.Nodup → (∀ x ∈ seen, 0 ≤ x ∧ x < m) → (seen ++ xs).Nodup ∧ ∀ x ∈ seen ++ xs, 0 ≤ x ∧ x < m
  | [], seen, k, _, hn, hm => by
    rw [List.append_nil]
    exact ⟨hn, hm⟩
  | x :: xs, seen, k, h, hn, hm => by
    have h : (if (0 ≤ x ∧ x < m) ∧ x ∉ seen then fb m (seen ++ [x]) xs (k + 1) else some k) = none := h
    by_cases c : (0 ≤ x ∧ x < m) ∧ x ∉ seen
    · rw [if_pos c] at h
      have := fb_ok h (List.nodup_append.mpr ⟨hn, List.nodup_cons.mpr ⟨List.not_mem_nil, .nil⟩, fun a ha b hb e => c.2 (by
        rw [List.mem_singleton] at hb
        rw [← hb, ← e]
        exact ha)⟩) (fun y hy => by
        rcases List.mem_append.mp hy with hy | hy
        · exact hm y hy
        · rw [List.mem_singleton.mp hy]
          exact c.1)
      rw [List.append_assoc] at this
      exact this
    · rw [if_neg c] at h
      cases h
theorem bad_none {os : List Int} (h : badAt os = none) : OrdOk os.length os := by
  have := fb_ok h .nil (fun _ h => nomatch h)
  exact ord_of this.1 this.2 (Int.toNat_natCast _).symm
theorem fb_none {m : Int} : ∀ {xs seen : List Int} {k : Nat}, (seen ++ xs).Nodup → (∀ x ∈ xs, 0 ≤ x ∧ x < m) → fb m seen xs k = none
  | [], _, _, _, _ => rfl
  | x :: xs, seen, k, hn, hm => by
    have c : (0 ≤ x ∧ x < m) ∧ x ∉ seen := ⟨hm x List.mem_cons_self, fun z => (List.nodup_append.mp hn).2.2 x z x List.mem_cons_self rfl⟩
    show (if (0 ≤ x ∧ x < m) ∧ x ∉ seen then fb m (seen ++ [x]) xs (k + 1) else some k) = none
    rw [if_pos c]
    exact fb_none (by
      rw [List.append_assoc]
      exact hn) fun y hy => hm y (List.mem_cons_of_mem _ hy)
theorem bad_iff {os : List Int} : badAt os = none ↔ OrdOk os.length os := ⟨bad_none, fun h => fb_none (by
  rw [List.nil_append]
  exact h.nodup) fun x hx => h.mem.mp hx⟩
def outAt (os : List Int) (i : Nat) : List Int := (rng os.length).map fun p => if p ∈ os.take i then (posOf p os : Int) else 0
theorem rng_get {n : Int} {p : Nat} (h : p < (rng n).length) : (rng n)[p] = (p : Int) := by
  simp only [rng, List.getElem_map, List.getElem_range]
theorem out_zero {os : List Int} : outAt os 0 = os.map fun _ => (0 : Int) := by
  refine List.ext_getElem ?_ fun p h1 h2 => ?_
  · unfold outAt
    rw [List.length_map, List.length_map, len_rng, Int.toNat_natCast]
  · simp only [outAt, List.getElem_map, List.take_zero, List.not_mem_nil, if_false]
theorem out_succ {os : List Int} {i : Nat} {x : Int} (ok : OrdOk os.length os) (h : os[i]? = some x) : outAt os (i + 1) = (outAt os i).set x.toNat i := by
  have hx := ok.mem.mp (List.mem_of_getElem? h)
  refine List.ext_getElem ?_ fun p h1 h2 => ?_
  · unfold outAt
    rw [List.length_set, List.length_map, List.length_map]
  · rw [List.getElem_set]
    simp only [outAt, List.getElem_map, rng_get]
    rw [take_snoc h]
    by_cases e : x.toNat = p
    · have e2 : (p : Int) = x := by omega
      rw [if_pos e, e2, if_pos (List.mem_append.mpr (.inr (List.mem_singleton.mpr rfl))), posOf_get ok.nodup h]
    · have e2 : ¬ (p : Int) = x := fun z => e (by omega)
      rw [if_neg e]
      by_cases c : (p : Int) ∈ os.take i
      · rw [if_pos c, if_pos (List.mem_append.mpr (.inl c))]
      · rw [if_neg c, if_neg (fun z => by
          rcases List.mem_append.mp z with z | z
          · exact c z
          · exact e2 (List.mem_singleton.mp z))]
theorem out_end {os : List Int} (ok : OrdOk os.length os) : outAt os os.length = rk os := by
  unfold outAt rk
  rw [List.take_length]
  exact List.map_congr_left fun p hp => if_pos (ok.mem.mpr (mem_rng.mp hp))
def dueD (os : List Int) : PyData := match badAt os with
  | some k => .tuple [.str "bad", .int (k : Nat)]
  | none => .tuple [.str "ranks", .list ((rk os).map PyData.int)]
theorem shaped_due (os : List Int) : SeqAt.shaped (dueD os) = true := by
  unfold dueD
  split
  · exact shaped_pair (x := "bad") (by decide +kernel) rfl (Nat.zero_le _)
  · refine shaped_pair (x := "ranks") (by decide +kernel) ?_ ?_
    · exact (lay_ints _).1
    · show PyData.depthAll _ + 1 ≤ 3
      rw [(lay_ints _).2]
      decide
/-- what due's tuple holds -/
def DueAt (K : PySem.W.Frag) (H : Hp) (T : Addr) (os : List Int) : Prop := match badAt os with
  | some k => SqT K H T [.str "bad", .int (k : Nat)]
  | none => ∃ q, SqT K H T [.str "ranks", .ref q] ∧ SqL K H q ((rk os).map V.int)
theorem DueAt.dp {K : PySem.W.Frag} {H : Hp} {T : Addr} {os : List Int} (h : DueAt K H T os) : Dp K H (.ref T) (dueD os) := by
  unfold DueAt at h
  unfold dueD
  cases e : badAt os with
  | some k =>
    rw [e] at h
    exact .tup h (.cons (.str _) (.cons (.int _) .nil))
  | none =>
    rw [e] at h
    obtain ⟨q, h1, h2⟩ := h
    exact .tup h1 (.cons (.str _) (.cons (Dp.ints h2) .nil))
/-! ### neighbours -/
def nearF (a : Int) (l : Lnk) : Option Int := if l.a = a then some l.b else if l.b = a then some l.a else none
def nearOf (a : Int) (ls : List Lnk) : List Int := ls.filterMap (nearF a)
theorem nearF_sum {a : Int} {l : Lnk} : nearF a l = if (l.a = a ∨ l.b = a) then some (l.a + l.b - a) else none := by
  unfold nearF
  by_cases h1 : l.a = a
  · rw [if_pos h1, if_pos (.inl h1)]
    congr 1
    omega
  · rw [if_neg h1]
    by_cases h2 : l.b = a
    · rw [if_pos h2, if_pos (.inr h2)]
      congr 1
      omega
    · rw [if_neg h2, if_neg (by omega)]
theorem nearF_iff {a o : Int} {l : Lnk} (h : l.a < l.b) : nearF a l = some o ↔ (l.a = a ∧ l.b = o) ∨ (l.a = o ∧ l.b = a) := by
  rw [nearF_sum]
  by_cases c : l.a = a ∨ l.b = a
  · rw [if_pos c]
    constructor
    · intro e
      have := Option.some.inj e
      omega
    · intro e
      congr 1
      omega
  · rw [if_neg c]
    constructor
    · intro e
      cases e
    · intro e
      omega
def adj0 (ls : List Lnk) (x y : Int) : Bool := ls.any fun l => decide ((l.a = x ∧ l.b = y) ∨ (l.a = y ∧ l.b = x))
theorem adj0_iff {ls : List Lnk} {x y : Int} : adj0 ls x y = true ↔ ∃ l ∈ ls, (l.a = x ∧ l.b = y) ∨ (l.a = y ∧ l.b = x) := by
  unfold adj0
  rw [List.any_eq_true]
  constructor
  · rintro ⟨l, h, e⟩
    exact ⟨l, h, of_decide_eq_true e⟩
  · rintro ⟨l, h, e⟩
    exact ⟨l, h, decide_eq_true e⟩
theorem split_at {α : Type} {xs : List α} {i : Nat} {x : α} (h : xs[i]? = some x) : xs = xs.take i ++ x :: xs.drop (i + 1) := by
  have hi := (List.getElem?_eq_some_iff.mp h).1
  have e := List.take_append_drop i xs
  rw [List.drop_eq_getElem_cons hi, (List.getElem?_eq_some_iff.mp h).2] at e
  exact e.symm
theorem near_mem {N : Net} (ok : NetOk N) {a o : Int} : o ∈ nearOf a N.ls ↔ adj0 N.ls a o = true := by
  unfold nearOf
  rw [List.mem_filterMap, adj0_iff]
  constructor
  · rintro ⟨l, h, e⟩
    exact ⟨l, h, (nearF_iff (ok.ok l h).ab).mp e⟩
  · rintro ⟨l, h, e⟩
    exact ⟨l, h, (nearF_iff (ok.ok l h).ab).mpr e⟩
theorem near_lt {N : Net} (ok : NetOk N) (a : Int) : (nearOf a N.ls).Pairwise (· < ·) := by
  unfold nearOf
  rw [List.pairwise_filterMap]
  refine List.Pairwise.imp_of_mem (fun {l m} hl hm hlt x hx y hy => ?_) ok.lt
  have h1 := (ok.ok l hl).ab
  have h2 := (ok.ok m hm).ab
  have hx := (nearF_iff h1).mp hx
  have hy := (nearF_iff h2).mp hy
  unfold LnkLt at hlt
  omega
theorem near_nodup {N : Net} (ok : NetOk N) (a : Int) : (nearOf a N.ls).Nodup := (near_lt ok a).imp fun h z => by omega
theorem adj0_in {N : Net} (ok : NetOk N) {x y : Int} (h : adj0 N.ls x y = true) : (0 ≤ x ∧ x < N.n) ∧ (0 ≤ y ∧ y < N.n) ∧ x ≠ y := by
  obtain ⟨l, hl, e⟩ := adj0_iff.mp h
  have := (ok.ok l hl).a0
  have := (ok.ok l hl).ab
  have := (ok.ok l hl).bn
  omega
theorem adj0_sym {ls : List Lnk} {x y : Int} : adj0 ls x y = adj0 ls y x := by
  rw [Bool.eq_iff_iff, adj0_iff, adj0_iff]
  constructor
  · rintro ⟨l, h, e⟩
    exact ⟨l, h, e.symm⟩
  · rintro ⟨l, h, e⟩
    exact ⟨l, h, e.symm⟩
/-! ### the greedy order -/
def joinB (adj : Int → Int → Bool) (b x y : Int) : Bool := adj x y || (adj b x && (adj b y && !decide (x = y)))
def deg (L : List Int) (adj : Int → Int → Bool) (p : Int) : Nat := (L.filter (adj p)).length
def pick (f : Int → Nat) (b : Int) (xs : List Int) : Int := xs.foldl (fun b p => if f p < f b then p else b) b
def gr : Nat → List Int → (Int → Int → Bool) → List Int
  | 0, _, _ => []
  | _ + 1, [], _ => []
  | k + 1, p :: r, adj => pick (deg (p :: r) adj) p (p :: r) :: gr k ((p :: r).erase (pick (deg (p :: r) adj) p (p :: r))) (joinB adj (pick (deg (p :: r) adj) p (p :: r)))
def greedyOf (N : Net) : List Int := gr N.n.toNat (rng N.n) (adj0 N.ls)
theorem pick_or {f : Int → Nat} : ∀ {xs : List Int} {b : Int}, pick f b xs = b ∨ pick f b xs ∈ xs
  | [], b => .inl rfl
  | x :: xs, b => by
    show pick f (if f x < f b then x else b) xs = b ∨ pick f (if f x < f b then x else b) xs ∈ x :: xs
    by_cases c : f x < f b
    · rw [if_pos c]
      rcases pick_or (f := f) (xs := xs) (b := x) with h | h
      · right
        rw [h]
        exact List.mem_cons_self
      · exact .inr (List.mem_cons_of_mem _ h)
    · rw [if_neg c]
      rcases pick_or (f := f) (xs := xs) (b := b) with h | h
      · exact .inl h
      · exact .inr (List.mem_cons_of_mem _ h)
theorem pick_mem {f : Int → Nat} {p : Int} {r : List Int} : pick f p (p :: r) ∈ p :: r := by
  rcases pick_or (f := f) (xs := p :: r) (b := p) with h | h
  · rw [h]
    exact List.mem_cons_self
  · exact h
theorem pick_congr {f g : Int → Nat} : ∀ {xs : List Int} {b : Int}, (∀ x ∈ b :: xs, f x = g x) → pick f b xs = pick g b xs
  | [], _, _ => rfl
  | x :: xs, b, h => by
    show pick f (if f x < f b then x else b) xs = pick g (if g x < g b then x else b) xs
    rw [h x (List.mem_cons_of_mem _ List.mem_cons_self), h b List.mem_cons_self]
    refine pick_congr fun y hy => ?_
    rcases List.mem_cons.mp hy with e | e
    · by_cases c : g x < g b
      · rw [if_pos c] at e
        rw [e]
        exact h x (List.mem_cons_of_mem _ List.mem_cons_self)
      · rw [if_neg c] at e
        rw [e]
        exact h b List.mem_cons_self
    · exact h y (List.mem_cons_of_mem _ (List.mem_cons_of_mem _ e))
structure AdjOk (adj : Int → Int → Bool) : Prop where
  sym : ∀ x y, adj x y = adj y x
  irr : ∀ x, adj x x = false
theorem AdjOk.join {adj : Int → Int → Bool} (h : AdjOk adj) (b : Int) : AdjOk (joinB adj b) where
  sym := fun x y => by
    unfold joinB
    rw [h.sym x y, Bool.and_left_comm, show decide (x = y) = decide (y = x) by
      rw [Bool.eq_iff_iff, decide_eq_true_eq, decide_eq_true_eq]
      exact eq_comm]
  irr := fun x => by
    unfold joinB
    rw [h.irr x, decide_eq_true rfl]
    simp
theorem adj0_ok {N : Net} (ok : NetOk N) : AdjOk (adj0 N.ls) := ⟨fun _ _ => adj0_sym, fun x => by
  cases e : adj0 N.ls x x with
  | false => rfl
  | true => exact absurd rfl (adj0_in ok e).2.2⟩
/-- lists of neighbours that say what adj says of the places left -/
structure NearOk (L : List Int) (adj : Int → Int → Bool) (near : Int → List Int) : Prop where
  nd : ∀ p ∈ L, (near p).Nodup
  mem : ∀ p ∈ L, ∀ o, o ∈ near p ↔ o ∈ L ∧ adj p o = true
theorem sub_len : ∀ {xs ys : List Int}, xs.Nodup → (∀ x ∈ xs, x ∈ ys) → xs.length ≤ ys.length
  | [], _, _, _ => Nat.zero_le _
  | x :: xs, ys, hn, hs => by
    have hn := List.nodup_cons.mp hn
    have hx := hs x List.mem_cons_self
    have e := List.length_erase_of_mem hx
    have h := sub_len (ys := ys.erase x) hn.2 (fun y hy => (List.mem_erase_of_ne (fun z => hn.1 (by rw [← z]; exact hy))).mpr (hs y (List.mem_cons_of_mem _ hy)))
    have := List.length_pos_of_mem hx
    rw [List.length_cons]
    omega
theorem NearOk.deg {L : List Int} {adj : Int → Int → Bool} {near : Int → List Int} (h : NearOk L adj near) (hL : L.Nodup) {p : Int} (hp : p ∈ L) : (near p).length = Ovc.deg L adj p := by
  unfold Ovc.deg
  have hf : (L.filter (adj p)).Nodup := hL.filter _
  have m : ∀ o, o ∈ near p ↔ o ∈ L.filter (adj p) := fun o => by
    rw [h.mem p hp o, List.mem_filter]
  refine Nat.le_antisymm ?_ ?_
  · exact sub_len (h.nd p hp) fun o ho => (m o).mp ho
  · exact sub_len hf fun o ho => (m o).mpr ho
def nearTo (near : Int → List Int) (b p : Int) : List Int := (near p).filter (fun o => !decide (o = b)) ++ (near b).filter fun o => !decide (o = p) && !decide (o ∈ near p)
theorem NearOk.step {L : List Int} {adj : Int → Int → Bool} {near : Int → List Int} (h : NearOk L adj near) (ha : AdjOk adj) (hL : L.Nodup) {b : Int} (hb : b ∈ L) :
    NearOk (L.erase b) (joinB adj b) (fun p => if p ∈ near b then nearTo near b p else near p) where
  nd := fun p hp => by
    have hp2 := (hL.mem_erase_iff.mp hp).2
    show (if p ∈ near b then nearTo near b p else near p).Nodup
    by_cases c : p ∈ near b
    · rw [if_pos c]
      refine List.nodup_append.mpr ⟨(h.nd p hp2).filter _, (h.nd b hb).filter _, fun x hx y hy e => ?_⟩
      have h1 := (List.mem_filter.mp hx).1
      have h2 := (List.mem_filter.mp hy).2
      rw [Bool.and_eq_true, Bool.not_eq_true', Bool.not_eq_true', decide_eq_false_iff_not, decide_eq_false_iff_not] at h2
      exact h2.2 (by rw [← e]; exact h1)
    · rw [if_neg c]
      exact h.nd p hp2
  mem := fun p hp o => by
    have hpb := (hL.mem_erase_iff.mp hp).1
    have hp2 := (hL.mem_erase_iff.mp hp).2
    show o ∈ (if p ∈ near b then nearTo near b p else near p) ↔ o ∈ L.erase b ∧ joinB adj b p o = true
    have j : joinB adj b p o = true ↔ adj p o = true ∨ (adj b p = true ∧ adj b o = true ∧ o ≠ p) := by
      unfold joinB
      rw [Bool.or_eq_true, Bool.and_eq_true, Bool.and_eq_true, Bool.not_eq_true', decide_eq_false_iff_not]
      constructor
      · rintro (h | ⟨h1, h2, h3⟩)
        · exact .inl h
        · exact .inr ⟨h1, h2, fun z => h3 z.symm⟩
      · rintro (h | ⟨h1, h2, h3⟩)
        · exact .inl h
        · exact .inr ⟨h1, h2, fun z => h3 z.symm⟩
    rw [j, hL.mem_erase_iff]
    by_cases c : p ∈ near b
    · rw [if_pos c]
      unfold nearTo
      have hbp := ((h.mem b hb p).mp c).2
      rw [List.mem_append, List.mem_filter, List.mem_filter, Bool.and_eq_true, Bool.not_eq_true', Bool.not_eq_true', Bool.not_eq_true', decide_eq_false_iff_not, decide_eq_false_iff_not, decide_eq_false_iff_not, h.mem p hp2 o, h.mem b hb o]
      constructor
      · rintro (⟨⟨h1, h2⟩, h3⟩ | ⟨⟨h1, h2⟩, h3, h4⟩)
        · exact ⟨⟨h3, h1⟩, .inl h2⟩
        · have ne : o ≠ b := fun z => by
            rw [z, ha.irr] at h2
            cases h2
          exact ⟨⟨ne, h1⟩, .inr ⟨hbp, h2, h3⟩⟩
      · rintro ⟨⟨h1, h2⟩, h3 | ⟨h3, h4, h5⟩⟩
        · exact .inl ⟨⟨h2, h3⟩, h1⟩
        · by_cases d : adj p o = true
          · exact .inl ⟨⟨h2, d⟩, h1⟩
          · exact .inr ⟨⟨h2, h4⟩, h5, fun z => d z.2⟩
    · rw [if_neg c, h.mem p hp2 o]
      have hbp : adj b p ≠ true := fun z => c ((h.mem b hb p).mpr ⟨hp2, z⟩)
      constructor
      · rintro ⟨h1, h2⟩
        have ne : o ≠ b := fun z => by
          rw [z, ha.sym] at h2
          exact hbp h2
        exact ⟨⟨ne, h1⟩, .inl h2⟩
      · rintro ⟨⟨h1, h2⟩, h3 | ⟨h3, _⟩⟩
        · exact ⟨h2, h3⟩
        · exact absurd h3 hbp
theorem left_snoc {n b : Int} {acc : List Int} : (rng n).filter (fun p => !decide (p ∈ acc ++ [b])) = ((rng n).filter fun p => !decide (p ∈ acc)).erase b := by
  rw [List.Nodup.erase_eq_filter (show List.Nodup _ from nodup_rng.filter _) b, List.filter_filter]
  refine List.filter_congr fun p _ => ?_
  rw [Bool.eq_iff_iff]
  simp only [List.mem_append, List.mem_singleton, Bool.not_eq_true', decide_eq_false_iff_not, Bool.and_eq_true, bne_iff_ne, ne_eq, not_or]
  exact And.comm
/-! ### pairs of an order -/
inductive Rch (adj : Int → Int → Bool) (low : Int → Prop) : Int → Int → Prop
  | one {x y : Int} : adj x y = true → Rch adj low x y
  | step {x z y : Int} : Rch adj low x z → low z → adj z y = true → Rch adj low x y
section
variable {adj : Int → Int → Bool} {low low' : Int → Prop} {x y z : Int}
theorem Rch.mono (h : Rch adj low x y) (m : ∀ z, low z → low' z) : Rch adj low' x y := by
  induction h with
  | one a => exact .one a
  | step _ l a ih => exact .step ih (m _ l) a
theorem Rch.trans (h : Rch adj low x z) (l : low z) (k : Rch adj low z y) : Rch adj low x y := by
  induction k with
  | one a => exact .step h l a
  | step _ l2 a ih => exact .step ih l2 a
theorem Rch.sym (ok : AdjOk adj) (h : Rch adj low x y) : Rch adj low y x := by
  induction h with
  | one a => exact .one (by rw [ok.sym]; exact a)
  | step _ l a ih => exact Rch.trans (.one (by rw [ok.sym]; exact a)) l ih
theorem Rch.last (h : Rch adj low x y) : ∃ a, adj a y = true := by
  cases h with
  | one a => exact ⟨_, a⟩
  | step _ _ a => exact ⟨_, a⟩
theorem Rch.first (h : Rch adj low x y) : ∃ a, adj x a = true := by
  induction h with
  | one a => exact ⟨_, a⟩
  | step _ _ _ ih => exact ih
end
section
variable {adj : Int → Int → Bool} {pos : Int → Nat}
theorem floyd1 (inj : ∀ x y a b, adj a x = true → adj b y = true → pos x = pos y → x = y) {k : Nat} {x y : Int} (h : Rch adj (fun z => pos z < k + 1) x y) :
    Rch adj (fun z => pos z < k) x y ∨ ∃ w, pos w = k ∧ Rch adj (fun z => pos z < k) x w ∧ Rch adj (fun z => pos z < k) w y := by
  induction h with
  | one a => exact .inl (.one a)
  | @step z y hz l a ih =>
    by_cases e : pos z = k
    · rcases ih with h | ⟨w, hw, h1, h2⟩
      · exact .inr ⟨z, e, h, .one a⟩
      · obtain ⟨b, hb⟩ := h1.last
        obtain ⟨c, hc⟩ := hz.last
        have : w = z := inj w z b c hb hc (by omega)
        subst this
        exact .inr ⟨w, hw, h1, .one a⟩
    · rcases ih with h | ⟨w, hw, h1, h2⟩
      · exact .inl (.step h (by omega) a)
      · exact .inr ⟨w, hw, h1, .step h2 (by omega) a⟩
theorem floyd (inj : ∀ x y a b, adj a x = true → adj b y = true → pos x = pos y → x = y) : ∀ {k : Nat} {x y : Int}, Rch adj (fun z => pos z < k) x y →
    adj x y = true ∨ ∃ w, pos w < k ∧ Rch adj (fun z => pos z < pos w) x w ∧ Rch adj (fun z => pos z < pos w) w y
  | 0, x, y, h => by
    cases h with
    | one a => exact .inl a
    | step _ l _ => exact absurd l (Nat.not_lt_zero _)
  | k + 1, x, y, h => by
    rcases floyd1 inj h with h | ⟨w, hw, h1, h2⟩
    · rcases floyd inj h with h | ⟨w, hw, h1, h2⟩
      · exact .inl h
      · exact .inr ⟨w, by omega, h1, h2⟩
    · exact .inr ⟨w, by omega, by rw [hw]; exact h1, by rw [hw]; exact h2⟩
end
def PairP (ls : List Lnk) (os : List Int) (u v : Int) : Prop := posOf u os < posOf v os ∧ Rch (adj0 ls) (fun z => posOf z os < posOf u os) u v
theorem pos_inj {os : List Int} {x y : Int} (hx : x ∈ os) (hy : y ∈ os) (h : posOf x os = posOf y os) : x = y := by
  have h1 := posOf_lt hx
  rw [h, posOf_lt hy] at h1
  exact (Option.some.inj h1).symm
theorem pos_len {os : List Int} {x : Int} (hx : x ∈ os) : posOf x os < os.length := (List.getElem?_eq_some_iff.mp (posOf_lt hx)).1
section
variable {N : Net} {os : List Int} {u v w : Int}
theorem adj_inj (ok : NetOk N) (oo : OrdOk N.n os) : ∀ x y a b, adj0 N.ls a x = true → adj0 N.ls b y = true → posOf x os = posOf y os → x = y := fun x y a b h1 h2 h3 =>
  pos_inj (oo.mem.mpr (adj0_in ok h1).2.1) (oo.mem.mpr (adj0_in ok h2).2.1) h3
theorem PairP.ins (ok : NetOk N) (h : PairP N.ls os u v) : (0 ≤ u ∧ u < N.n) ∧ (0 ≤ v ∧ v < N.n) := by
  obtain ⟨a, ha⟩ := h.2.last
  obtain ⟨b, hb⟩ := h.2.first
  exact ⟨(adj0_in ok hb).1, (adj0_in ok ha).2.1⟩
theorem PairP.ne (h : PairP N.ls os u v) : u ≠ v := fun e => by
  have := h.1
  rw [e] at this
  exact Nat.lt_irrefl _ this
theorem pair_clique (ok : NetOk N) (h1 : PairP N.ls os u v) (h2 : PairP N.ls os u w) (hvw : posOf v os < posOf w os) : PairP N.ls os v w := by
  have m : ∀ z, posOf z os < posOf u os → posOf z os < posOf v os := fun z hz => Nat.lt_trans hz h1.1
  exact ⟨hvw, ((h1.2.sym (adj0_ok ok)).mono m).trans h1.1 (h2.2.mono m)⟩
theorem pair_rec (ok : NetOk N) (oo : OrdOk N.n os) : PairP N.ls os u v ↔ posOf u os < posOf v os ∧ (adj0 N.ls u v = true ∨ ∃ w, PairP N.ls os w u ∧ PairP N.ls os w v) := by
  constructor
  · intro h
    refine ⟨h.1, ?_⟩
    rcases floyd (adj_inj ok oo) h.2 with h2 | ⟨w, hw, h1, h2⟩
    · exact .inl h2
    · exact .inr ⟨w, ⟨hw, h1.sym (adj0_ok ok)⟩, ⟨Nat.lt_trans hw h.1, h2⟩⟩
  · rintro ⟨hl, h | ⟨w, h1, h2⟩⟩
    · exact ⟨hl, .one h⟩
    · have m : ∀ z, posOf z os < posOf w os → posOf z os < posOf u os := fun z hz => Nat.lt_trans hz h1.1
      exact ⟨hl, ((h1.2.sym (adj0_ok ok)).mono m).trans h1.1 (h2.2.mono m)⟩
theorem pair_link (ok : NetOk N) (oo : OrdOk N.n os) (h : adj0 N.ls u v = true) : PairP N.ls os u v ∨ PairP N.ls os v u := by
  have hi := adj0_in ok h
  have hne : posOf u os ≠ posOf v os := fun e => hi.2.2 (pos_inj (oo.mem.mpr hi.1) (oo.mem.mpr hi.2.1) e)
  rcases Nat.lt_or_gt_of_ne hne with h1 | h1
  · exact .inl ⟨h1, .one h⟩
  · exact .inr ⟨h1, .one (by rw [adj0_sym]; exact h)⟩
end
open Classical in
/-- the upper neighbours of a place, in the order of ranks -/
noncomputable def upP (ls : List Lnk) (os : List Int) (u : Int) : List Int := os.filter fun v => decide (PairP ls os u v)
section
variable {N : Net} {ls : List Lnk} {os : List Int} {u v w : Int}
open Classical in
theorem mem_up : v ∈ upP ls os u ↔ v ∈ os ∧ PairP ls os u v := by
  unfold upP
  rw [List.mem_filter, decide_eq_true_eq]
theorem mem_upP (ok : NetOk N) (oo : OrdOk N.n os) : v ∈ upP N.ls os u ↔ PairP N.ls os u v := by
  rw [mem_up]
  exact ⟨fun h => h.2, fun h => ⟨oo.mem.mpr (h.ins ok).2, h⟩⟩
open Classical in
theorem up_eq {fs : List Int} (oo : OrdOk N.n os) (h : ∀ v ∈ os, v ∈ fs ↔ PairP N.ls os u v) : os.filter (fun v => decide (v ∈ fs)) = upP N.ls os u := by
  unfold upP
  refine List.filter_congr fun v hv => ?_
  rw [Bool.eq_iff_iff, decide_eq_true_eq, decide_eq_true_eq]
  exact h v hv
theorem up_nodup (oo : OrdOk N.n os) : (upP N.ls os u).Nodup := oo.nodup.filter _
theorem up_len (ok : NetOk N) (oo : OrdOk N.n os) : (upP N.ls os u).length ≤ 40 := by
  have e := oo.len
  have := ok.n40
  have h2 : (upP N.ls os u).length ≤ os.length := List.length_filter_le _ _
  omega
theorem pos_sorted {os : List Int} (h : os.Nodup) : os.Pairwise fun a b => posOf a os < posOf b os := by
  rw [List.pairwise_iff_getElem]
  intro i j hi hj hij
  rw [posOf_get h (List.getElem?_eq_getElem hi), posOf_get h (List.getElem?_eq_getElem hj)]
  exact hij
theorem up_sorted (oo : OrdOk N.n os) : (upP N.ls os u).Pairwise fun a b => posOf a os < posOf b os := (pos_sorted oo.nodup).filter _
end
/-! ### the other drawing of nets and orders -/
abbrev sPrice2 : Stmt := topS 33
abbrev sNet2 : Stmt := topS 34
abbrev sOrder2 : Stmt := topS 35
theorem scPrice2 : FnScope ["cell"] ["cell"] (defScope sPrice2) := ⟨rfl, rfl, rfl, by decide +kernel, rfl, by decide +kernel, by decide +kernel⟩
theorem scNet2 : FnScope ["draws", "first", "most", "count", "dense", "links", "a", "b", "cell"] ["draws", "first", "most"] (defScope sNet2) := ⟨rfl, rfl, rfl, by decide +kernel, rfl, by decide +kernel, by decide +kernel⟩
theorem scOrder2 : FnScope ["draws", "first", "count", "rows", "key", "k"] ["draws", "first", "count"] (defScope sOrder2) := ⟨rfl, rfl, rfl, by decide +kernel, rfl, by decide +kernel, by decide +kernel⟩
def spPrice2 : Sp := fun vs H Q _ => ∃ c : Int, vs = [.int c] ∧ 0 ≤ c ∧ c ≤ 60000 ∧ ∀ H' o, Same H H' → PriceOk o → Q (oV o) H'
section
variable {P : Program} {w : World} {K : PySem.W.Frag} {mg : Str → Option Value} {base : Heap}
theorem ok_price2 {f : Addr} {fd : FuncData} {k : Nat} (F : Fun K "_law_price" "_law_price" sPrice2 f fd) (mi : mg "int" = none) : FnOk P w K mg base CX0 (k + 1) f fd ["cell"] spPrice2 := by
  refine F.ok scPrice2 (fun vs H Q E h => ?_) (fun cdv A outer s H vs Q E hr h => ?_)
  · obtain ⟨c, rfl, _⟩ := h
    rfl
  · obtain ⟨c, rfl, h0, h1, q⟩ := h
    refine ⟨_, pss_cons (ps_if (pt_cmpR op_eq (pe_op op_mod (pe_callTy call_int1 (by rfl) mi (by decide +kernel) (pa_cons (pv 0) pa_nil)) pe_int) pe_int (nomark _))
      (pss_one (ps_ret pe_non))
      pss_nil)
      (pss_one (ps_ret (pe_ix ix_list (pe_lst (pa_cons (pe_op op_add pe_int (pe_op op_mod (pe_callTy call_int1 (by rfl) mi (by decide +kernel) (pa_cons (pe_op op_fdiv (pv 0) pe_int) pa_nil)) pe_int)) (pa_cons (pe_op op_add pe_int (pe_op op_mod (pe_callTy call_int1 (by rfl) mi (by decide +kernel) (pa_cons (pe_op op_fdiv (pv 0) pe_int) pa_nil)) pe_int)) (pa_cons (pe_op op_add pe_int (pe_op op_mul (pe_callTy call_int1 (by rfl) mi (by decide +kernel) (pa_cons (pe_op op_fdiv (pv 0) pe_int) pa_nil)) pe_int)) pa_nil)))) (pe_op op_mod (pe_callTy call_int1 (by rfl) mi (by decide +kernel) (pa_cons (pe_op op_fdiv (pv 0) pe_int) pa_nil)) pe_int) (fun _ _ => rfl)))), ?_⟩
    refine q_when (b := decide (V.int (c % 6) = V.int 5)) (an_test (vl_eq (vl_I (vl_int1 (vl_var rfl)) vl_c (by decide)) vl_c rfl)) (fun _ => ?_) (fun _ => ?_)
    · exact g_ret vl_c (q H none (Same.refl H) (fun x e => by cases e))
    · obtain ⟨d, g', hd⟩ := at_int (ds := [1 + (c / 6) % 3, 1 + (c / 6) % 12, 1 + (c / 6) * 97]) (k := (c / 3) % 3) (by omega) (by show (c / 3) % 3 < 3; omega)
      have hd1 : 1 ≤ d ∧ d ≤ 1000000 := by
        have := List.mem_of_getElem? hd
        simp only [List.mem_cons, List.not_mem_nil, or_false] at this
        omega
      refine g_retV (v := .int d) (ve_ixNew (xs := [1 + (c / 6) % 3, 1 + (c / 6) % 12, 1 + (c / 6) * 97].map V.int) (p := (c / 3) % 3) (vn_lst (va_cons (vl_I0 vl_c (vl_I (vl_int1 (vl_I (vl_var rfl) vl_c ⟨by decide, by decide⟩)) vl_c (by decide))) (va_cons (vl_I0 vl_c (vl_I (vl_int1 (vl_I (vl_var rfl) vl_c ⟨by decide, by decide⟩)) vl_c (by decide))) (va_cons (vl_I0 vl_c (vl_I (vl_int1 (vl_I (vl_var rfl) vl_c ⟨by decide, by decide⟩)) vl_c (.inr ⟨by decide, by decide⟩))) va_nil))) (by show 3 ≤ sizeLine; decide)) (fun H' s' => vl_I (vl_int1 (vl_I (vl_var rfl) vl_c ⟨by decide, by decide⟩)) vl_c (by decide)) g') fun H' s' => q H' (some d) s' (fun x e => by
        cases e
        exact hd1)
theorem ok_net2 {f : Addr} {fd : FuncData} (F : Fun K "_law_net" "_law_net" sNet2 f fd) (c_law_at : Kal P w K mg base 1 "_law_at" ["draws", "k", "many"] (spAt K)) (c_law_price : Kal P w K mg base 1 "_law_price" ["cell"] spPrice2) (mr : mg "range" = none) (mi : mg "int" = none) :
    FnOk P w K mg base CX0 2 f fd ["draws", "first", "most"] (spNet K) := by
  refine F.ok scNet2 (fun vs H Q E h => ?_) (fun cdv A outer s H vs Q E hr h => ?_)
  · obtain ⟨a, ds, k, m, rfl, _⟩ := h
    rfl
  · obtain ⟨a, ds, k, m, rfl, hS, hk, hm1, hm2, q⟩ := h
    refine ⟨_, pss_cons (ps_set (i := 3) scNet2.nd rfl (.inl rfl) (pe_op op_add pe_int (pe_k c_law_at hr (by first | decide | omega) (by rfl) (pa_cons (pv 0) (pa_cons (pv 1) (pa_cons (pv 2) pa_nil))))))
      (pss_cons (ps_set (i := 4) scNet2.nd rfl (.inl rfl) (pe_op op_add pe_int (pe_k c_law_at hr (by first | decide | omega) (by rfl) (pa_cons (pv 0) (pa_cons (pe_op op_add (pv 1) pe_int) (pa_cons pe_int pa_nil))))))
      (pss_cons (ps_set (i := 5) scNet2.nd rfl (.inl rfl) (pe_lst pa_nil))
      (pss_cons (ps_for PassesOwn.never rfl (pi_range1 (by rfl) mr (pa_cons (pv 3) pa_nil)) (pg_name (i := 6) scNet2.nd rfl (.inl rfl))
      (pss_one (ps_for PassesOwn.never rfl (pi_range2 (by rfl) mr (pa_cons (pe_op op_add (pv 6) pe_int) (pa_cons (pv 3) pa_nil))) (pg_name (i := 7) scNet2.nd rfl (.inl rfl))
        (pss_cons (ps_set (i := 8) scNet2.nd rfl (.inl rfl) (pe_op op_add (pe_op op_add (pe_k c_law_at hr (by first | decide | omega) (by rfl) (pa_cons (pv 0) (pa_cons (pe_op op_add (pe_op op_add (pv 1) pe_int) (pe_op op_mod (pe_callTy call_int1 (by rfl) mi (by decide +kernel) (pa_cons (pe_op op_add (pe_op op_mul (pv 6) pe_int) (pe_op op_mul (pv 7) pe_int)) pa_nil)) pe_int)) (pa_cons pe_int pa_nil)))) (pe_op op_mul pe_int (pv 6))) (pe_op op_mul pe_int (pv 7))))
          (pss_one (ps_if (pt_cmpR op_lt (pe_op op_mod (pe_callTy call_int1 (by rfl) mi (by decide +kernel) (pa_cons (pv 8) pa_nil)) pe_int) (pv 4) (nomark _))
          (pss_one (ps_expr (pe_bm PySem.F.plainAttrs_list PySem.F.slot_list_append PySem.F.type_list_append mt_append (pv 5) (pa_cons (pe_tup (pa_cons (pv 6) (pa_cons (pv 7) (pa_cons (pe_k c_law_price hr (by first | decide | omega) (by rfl) (pa_cons (pe_callTy call_int1 (by rfl) mi (by decide +kernel) (pa_cons (pe_op op_fdiv (pv 8) pe_int) pa_nil)) pa_nil)) (pa_cons (pe_k c_law_price hr (by first | decide | omega) (by rfl) (pa_cons (pe_op op_add (pe_callTy call_int1 (by rfl) mi (by decide +kernel) (pa_cons (pe_op op_fdiv (pv 8) pe_int) pa_nil)) (pv 6)) pa_nil)) pa_nil))))) pa_nil))))
          pss_nil))))))
      (pss_one (ps_ret (pe_tup (pa_cons (pv 3) (pa_cons (pv 5) pa_nil)))))))), ?_⟩
    refine q_asgI (P := fun r => 1 ≤ r ∧ r ≤ m) (vi_I0 (vi_of vl_c) (vi_call (P := fun r => 0 ≤ r ∧ r < m) (va_cons (vl_var rfl) (va_cons (vl_var rfl) (va_cons (vl_var rfl) va_nil))) fun Q E q => ⟨a, ds, k, m, rfl, hS, hk, by omega, q⟩) (fun p r hp hr => by omega)) (fun n hn => ?_)
    refine q_asgI (P := fun _ => True) (vi_I0 (vi_of vl_c) (vi_call (P := fun r => 0 ≤ r ∧ r < 9) (va_cons (vl_var rfl) (va_cons (vl_I0 (vl_var rfl) vl_c) (va_cons vl_c va_nil))) fun Q E q => ⟨a, ds, k + 1, 9, rfl, hS, by omega, by decide, q⟩) (fun p r hp hr => trivial)) (fun dn _ => ?_)
    refine q_lnew fun o no => ?_
    refine q_forR (n := n) (va_cons (vl_var rfl) va_nil) ⟨by omega, by omega⟩
      (fun i σ H3 => ∃ y6 y7 y8 xs ls, σ = [some (.ref a), some (.int k), some (.int m), some (.int n), some (.int dn), some (.ref o), y6, y7, y8] ∧ H3 o = some (.lst xs) ∧ Same H (but H3 o) ∧ DpAll K (but H3 o) xs (ls.map lnkD) ∧ LsAt n i 0 ls ∧ ls.length ≤ i * 40)
      ⟨none, none, none, [], [], rfl, upd_same, same_but (same_upd no) no, .nil, .nil, by simp⟩ (fun i σ H3 hi hP => ?_) (fun σ H3 hP => ?_)
    · obtain ⟨y6, y7, y8, xs, ls, rfl, ho, sm, hx, hl, hlen⟩ := hP
      refine g_forR2 (lo := (i : Int) + 1) (n := n) (va_cons (vl_I0 (vl_var rfl) vl_c) (va_cons (vl_var rfl) va_nil)) ⟨by omega, by omega, by omega, by omega⟩
        (fun j σ H3 => ∃ y7 y8 xs ls, σ = [some (.ref a), some (.int k), some (.int m), some (.int n), some (.int dn), some (.ref o), some (.int i), y7, y8] ∧ H3 o = some (.lst xs) ∧ Same H (but H3 o) ∧ DpAll K (but H3 o) xs (ls.map lnkD) ∧ LsAt n i ((i : Int) + 1 + j) ls ∧ ls.length ≤ i * 40 + j)
        ⟨y7, y8, xs, ls, rfl, ho, sm, hx, hl.mono (.inr ⟨rfl, by omega⟩), hlen⟩ (fun j σ H3 hj hP => ?_) (fun σ H3 hP => ?_)
      · obtain ⟨y7, y8, xs, ls, rfl, ho, sm, hx, hl, hlen⟩ := hP
        have sH : Same H H3 := sm.trans but_same
        refine q_asgI (P := fun r => 0 ≤ r ∧ r ≤ 68000) ?_ (fun cell hc => ?_)
        · refine vi_I0 (P1 := fun r => 0 ≤ r ∧ r ≤ 67200) (P2 := fun r => r = 17 * ((i : Int) + 1 + j)) (vi_I0 (P1 := fun r => 0 ≤ r ∧ r < 65536) (P2 := fun r => r = 41 * (i : Int)) (vi_call (va_cons (vl_var rfl) (va_cons (x := .int (k + 2 + ((i : Int) * 5 + ((i : Int) + 1 + j) * 3) % 23)) ?_ (va_cons vl_c va_nil))) fun Q E q => ⟨a, ds, k + 2 + ((i : Int) * 5 + ((i : Int) + 1 + j) * 3) % 23, 65536, rfl, sH.seq hS, by omega, by decide, q⟩) (vi_of ?_) (fun p r hp hr => by omega)) (vi_of ?_) (fun p r hp hr => by omega)
          · exact vl_I0 (vl_I0 (vl_var rfl) vl_c) (vl_I (vl_int1 (vl_I0 (vl_I (vl_var rfl) vl_c (.inr ⟨by decide, by decide⟩)) (vl_I (vl_var rfl) vl_c (.inr ⟨by decide, by decide⟩)))) vl_c (by decide))
          · exact vl_I vl_c (vl_var rfl) (.inl ⟨by decide, by decide⟩)
          · exact vl_I vl_c (vl_var rfl) (.inl ⟨by decide, by decide⟩)
        refine g_if (b := decide (cell % 11 < dn)) (an_test (vl_I0 (vl_I (vl_int1 (vl_var rfl)) vl_c (by decide)) (vl_var rfl))) (fun _ => ?_) (fun _ => ?_)
        · refine ⟨.ref o, rfl, .inl ⟨rfl, _, .inl (.inl ho)⟩, .int i, rfl, .int ((i : Int) + 1 + j), rfl, ?_⟩
          refine ⟨.int cell, rfl, cell, 11, rfl, rfl, ⟨by decide, by decide⟩, .inl ⟨cell / 11, rfl, cell / 11, rfl, by omega, by omega, fun H5 t s5 ht => ?_⟩⟩
          refine ⟨.int cell, rfl, cell, 5, rfl, rfl, ⟨by decide, by decide⟩, .inl ⟨cell / 5, rfl, .int i, rfl, cell / 5, (i : Int), rfl, rfl, cell / 5 + (i : Int), rfl, by omega, by omega, fun H6 u s6 hu => ?_⟩⟩
          refine ⟨by show 4 ≤ sizeLine; decide, fun T nT => ?_⟩
          have s36 : Same H3 H6 := s5.trans s6
          have ho6 := s36 _ _ ho
          have nTo : o ≠ T := ne_of_none ho6 nT
          have s7 : Same H6 (upd H6 T (.tup [.int i, .int ((i : Int) + 1 + j), oV t, oV u])) := same_upd nT
          refine ⟨o, xs, .ref T, rfl, rfl, s7 _ _ ho6, ?_, ?_⟩
          · rw [DpAll.len hx, List.length_map]
            exact Nat.lt_of_le_of_lt (show ls.length ≤ 10000 by omega) (by decide)
          · have sb : Same (but H3 o) (but (upd (upd H6 T (.tup [.int i, .int ((i : Int) + 1 + j), oV t, oV u])) o (.lst (xs ++ [.ref T]))) o) := by
              rw [but_upd]
              exact but_mono (s36.trans s7)
            refine ⟨_, _, xs ++ [.ref T], ls ++ [⟨i, (i : Int) + 1 + j, t, u⟩], rfl, upd_same, sm.trans sb, ?_, ?_, ?_⟩
            · rw [List.map_append]
              refine DpAll.app (DpAll.to hx sb) (DpAll.one (Dp.lnk (l := ⟨i, (i : Int) + 1 + j, t, u⟩) (.of ?_)))
              rw [but_upd, but_ne nTo.symm, upd_same]
              rfl
            · rw [show (i : Int) + 1 + ((j + 1 : Nat) : Int) = (i : Int) + 1 + j + 1 by omega]
              exact hl.app (by omega) (by omega) (by omega) ht hu
            · rw [List.length_append]
              show ls.length + 1 ≤ i * 40 + (j + 1)
              omega
        · exact ⟨_, _, xs, ls, rfl, ho, sm, hx, hl.mono (.inr ⟨rfl, by omega⟩), by omega⟩
      · obtain ⟨y7, y8, xs, ls, rfl, ho, sm, hx, hl, hlen⟩ := hP
        exact ⟨_, _, _, xs, ls, rfl, ho, sm, hx, hl.mono (.inl (by omega)), by omega⟩
    · obtain ⟨y6, y7, y8, xs, ls, rfl, ho, sm, hx, hl, hlen⟩ := hP
      refine ⟨.int n, rfl, .ref o, rfl, by show 2 ≤ sizeLine; decide, fun T nT => ?_⟩
      have s3 : Same H3 (upd H3 T (.tup [.int n, .ref o])) := same_upd nT
      exact q _ _ ⟨n, ls⟩ ((sm.trans but_same).trans s3) ⟨T, o, xs, rfl, upd_same, s3 _ _ ho, DpAll.to hx (but_same.trans s3)⟩ ⟨by show 1 ≤ n; omega, by show n ≤ 40; omega, hl.ok, hl.lt, by show ls.length ≤ 1600; omega⟩ (by show n ≤ m; omega)
/-- the second of a tuple of two ints -/
def sndOf (H : Hp) : V → Int
  | .ref t => match H t with
    | some (.tup [_, .int k]) => k
    | _ => 0
  | _ => 0
theorem sndOf_eq {H : Hp} {t : Addr} {x : V} {k : Int} (h : H t = some (.tup [x, .int k])) : sndOf H (.ref t) = k := by
  show (match H t with
    | some (.tup [_, .int k]) => k
    | _ => 0) = k
  rw [h]
theorem ok_order2 {f : Addr} {fd : FuncData} (F : Fun K "_law_order" "_law_order" sOrder2 f fd) (c_law_at : Kal P w K mg base 1 "_law_at" ["draws", "k", "many"] (spAt K)) (mr : mg "range" = none) (mi : mg "int" = none) (mo : mg "sorted" = none) : FnOk P w K mg base CX0 2 f fd ["draws", "first", "count"] (spOrder K) := by
  refine F.ok scOrder2 (fun vs H Q E h => ?_) (fun cdv A outer s H vs Q E hr h => ?_)
  · obtain ⟨d, ds, k, n, rfl, _⟩ := h
    rfl
  · obtain ⟨d, ds, k, n, rfl, hS, hk, hn0, hn40, q⟩ := h
    refine ⟨_, pss_cons (ps_set (i := 3) scOrder2.nd rfl (.inl rfl) (pe_callB cr_sortedP (by rfl) mo (by decide +kernel) (pa_cons (pe_lc (own := [("k", 5)]) (g := gName 5) (tt := tYes) (te := (tTup (tCons (tOp (rI0 fun i j => .int (Builtin.bitAnd i j)) (tOp (rI (fun i j => (-18446744073709551616 < i ∧ i < 18446744073709551616) ∨ (-18446744073709551616 < j ∧ j < 18446744073709551616)) fun i j => .int (i * j)) (tCall (spAt K) [] E0 (tCons (tVar 0) (tCons (tOp (rI0 fun i j => .int (i + j)) (tVar 1) (tOp (rI (fun _ j => 0 < j) fun i j => .int (i % j)) (tCB (fun xs H Q => (∃ i, xs = [V.int i] ∧ Q (V.int i) H) ∨ ∃ k, xs = [V.bl k] ∧ Q (V.int (if k then 1 else 0)) H) (tCons (tVar 5) tNil)) (tC (.int 9)))) (tCons (tC (.int 65536)) tNil)))) (tOp (rI0 fun i j => .int (i + j)) (tVar 5) (tC (.int 1)))) (tC (.int 1023))) (tCons (tVar 5) tNil)))) (by rfl) scOrder2.nd (pi_range1 (by rfl) mr (pa_cons (pv 2) pa_nil)) (blkOk_by (own := [("k", 5)]) (N := ["draws", "first", "count", "rows", "key", "k"]) (sc := defScope sOrder2) (by decide +kernel)) (fun _ _ _ _ _ => pg_name (i := 5) scOrder2.nd rfl (Or.inl rfl)) (fun _ _ _ _ _ => by exact pts_nil) (fun _ _ _ _ _ => by exact (pe_tup (pa_cons (pe_op op_and (pe_op op_mul (pe_k c_law_at hr (by first | decide | omega) (by rfl) (pa_cons (pv 0) (pa_cons (pe_op op_add (pv 1) (pe_op op_mod (pe_callTy call_int1 (by rfl) mi (by decide +kernel) (pa_cons (pv 5) pa_nil)) pe_int)) (pa_cons pe_int pa_nil)))) (pe_op op_add (pv 5) pe_int)) pe_int) (pa_cons (pv 5) pa_nil))))) pa_nil)))
      (pss_one (ps_ret (pe_lc (own := [("key", 4), ("k", 5)]) (g := gTup K 2 (gCons (gName 4) (gCons (gName 5) (gNil)))) (tt := tYes) (te := (tVar 5)) (by rfl) scOrder2.nd (pi_list (pv 3)) (blkOk_by (own := [("key", 4), ("k", 5)]) (N := ["draws", "first", "count", "rows", "key", "k"]) (sc := defScope sOrder2) (by decide +kernel)) (fun _ _ _ _ _ => pg_tup rfl (pgs_cons (pg_name (i := 4) scOrder2.nd rfl (Or.inl rfl)) (pgs_cons (pg_name (i := 5) scOrder2.nd rfl (Or.inl rfl)) pgs_nil))) (fun _ _ _ _ _ => by exact pts_nil) (fun _ _ _ _ _ => by exact (pv 5))))), ?_⟩
    refine q_asgE ?_
    refine ⟨.int n, rfl, n, rfl, by omega, by omega, fun D nD => lc_range (lo := 0) (n := n.toNat) (fun i H' => ∃ zs : List V, H' D = some (.lst zs) ∧ Same H (but H' D) ∧ zs.length = i ∧ ∀ j x, zs[j]? = some x → ∃ t key, x = .ref t ∧ but H' D t = some (.tup [.int key, .int (j : Nat)])) ⟨[], upd_same, same_but (same_upd nD) nD, rfl, fun j x e => by simp at e⟩ (fun i H2 hi hP => ?_) (fun H2 hP => ?_)⟩
    · obtain ⟨zs, hD, s2, hz, hA⟩ := hP
      have sH := s2.trans but_same
      rw [Int.zero_add]
      refine ⟨rfl, iteT (B := ∃ zs : List V, H2 D = some (.lst zs) ∧ Same H (but H2 D) ∧ zs.length = i + 1 ∧ ∀ (j : Nat) x, zs[j]? = some x → ∃ t key, x = .ref t ∧ but H2 D t = some (.tup [.int key, .int (j : Nat)])) ?_⟩
      refine ⟨.ref d, rfl, ?_⟩
      refine (vl_I0 (vl_var rfl) (vl_I (vl_int1 (vl_var rfl)) vl_c (by decide))) _ ⟨d, ds, k + (i : Int) % 9, 65536, rfl, sH.seq hS, by omega, by decide, fun r hr => ?_⟩
      refine ⟨.int i, rfl, (i : Int), 1, rfl, rfl, r, (i : Int) + 1, rfl, rfl, .inl ⟨by omega, by omega⟩, _, _, rfl, rfl, .int i, rfl, by show 2 ≤ sizeLine; decide, fun T nT => ?_⟩
      dsimp only
      generalize Builtin.bitAnd (r * ((i : Int) + 1)) 1023 = key
      have DT : D ≠ T := ne_of_none hD nT
      have sT : Same H2 (upd H2 T (.tup [.int key, .int i])) := same_upd nT
      refine ⟨zs, sT _ _ hD, ?_, zs ++ [.ref T], upd_same, ?_, ?_, fun j x hj => ?_⟩
      · exact Nat.lt_of_le_of_lt (m := 10000) (by omega) (by decide)
      · rw [but_upd]
        exact s2.trans (but_mono sT)
      · rw [List.length_append, hz]
        rfl
      · rw [but_upd]
        by_cases hji : j < zs.length
        · rw [List.getElem?_append_left hji] at hj
          obtain ⟨t, key', h1, h2⟩ := hA j x hj
          exact ⟨t, key', h1, but_mono sT _ _ h2⟩
        · rw [List.getElem?_append_right (by omega)] at hj
          have e0 : j - zs.length = 0 := by
            have := (List.getElem?_eq_some_iff.mp hj).1
            simp at this
            omega
          rw [e0] at hj
          cases Option.some.inj hj
          refine ⟨T, key, rfl, ?_⟩
          rw [but_ne DT.symm, upd_same, show j = i by omega]
    · obtain ⟨zs, hD, s2, hz, hA⟩ := hP
      have sH := s2.trans but_same
      refine ⟨D, zs, rfl, .of hD, fun x hx => ?_, fun ys p hp np => ?_⟩
      · obtain ⟨j, hj, e⟩ := List.getElem_of_mem hx
        obtain ⟨t, key, h1, h2⟩ := hA j x (by rw [List.getElem?_eq_getElem hj, e])
        exact ⟨t, key, (j : Nat), h1, but_same _ _ h2⟩
      · have sp : Same H2 (upd H2 p (.lst ys)) := same_upd np
        have perm : OrdOk n (ys.map (sndOf H2)) := by
          unfold OrdOk
          refine (hp.map _).trans ?_
          have e : zs.map (sndOf H2) = rng n := by
            refine List.ext_getElem? fun j => ?_
            rw [List.getElem?_map]
            cases hj : zs[j]? with
            | none =>
              have := List.getElem?_eq_none_iff.mp hj
              rw [List.getElem?_eq_none (by rw [len_rng]; omega)]
              rfl
            | some x =>
              have hjl := (List.getElem?_eq_some_iff.mp hj).1
              obtain ⟨t, key, h1, h2⟩ := hA j x hj
              subst h1
              have e2 : sndOf H2 (.ref t) = (j : Int) := sndOf_eq (but_same _ _ h2)
              rw [List.getElem?_eq_getElem (by rw [len_rng]; omega), rng_get]
              show some (sndOf H2 (.ref t)) = _
              rw [e2]
          rw [e]
        have all : ∀ x ∈ ys, ∃ t key, x = .ref t ∧ H2 t = some (.tup [.int key, .int (sndOf H2 x)]) := fun x hx => by
          obtain ⟨j, hj, e⟩ := List.getElem_of_mem (hp.mem_iff.mp hx)
          obtain ⟨t, key, h1, h2⟩ := hA j x (by rw [List.getElem?_eq_getElem hj, e])
          subst h1
          have h3 := but_same _ _ h2
          refine ⟨t, key, rfl, ?_⟩
          rw [sndOf_eq h3]
          exact h3
        refine ⟨.ref p, rfl, p, rfl, ⟨_, .of upd_same⟩, fun D2 nD2 => lc_list (K := K) (a := p) (xs := ys) (fun i H' => H' D2 = some (.lst (((ys.take i).map (sndOf H2)).map V.int)) ∧ Same (upd H2 p (.lst ys)) H') ⟨upd_same, same_upd nD2⟩ (fun i H' _ hP => .of (hP.2 _ _ upd_same)) (fun i x H' hi hP => ?_) (fun H' hP => ?_)⟩
        · obtain ⟨hD2, s'⟩ := hP
          obtain ⟨t, key, h1, h2⟩ := all x (List.mem_of_getElem? hi)
          have hil := (List.getElem?_eq_some_iff.mp hi).1
          have yl : ys.length ≤ 40 := by
            rw [hp.length_eq]
            omega
          refine ⟨t, _, h1, .of ((sp.trans s') _ _ h2), rfl, _, _, rfl, _, _, rfl, rfl, rfl, iteT (B := H' D2 = some (.lst (((ys.take (i + 1)).map (sndOf H2)).map V.int)) ∧ Same (upd H2 p (.lst ys)) H') ⟨_, rfl, _, hD2, ?_, ?_, same_upd' s' nD2⟩⟩
          · rw [List.length_map, List.length_map, List.length_take]
            exact Nat.lt_of_le_of_lt (m := 10000) (by omega) (by decide)
          · rw [upd_same, take_snoc hi, List.map_append, List.map_append]
            rfl
        · obtain ⟨hD2, s'⟩ := hP
          rw [List.take_length] at hD2
          exact q H' D2 _ ((sH.trans sp).trans s') (Same.free (sH.trans sp) nD2) hD2 perm
end
/-! ### a list of lists that are changed -/
structure NearL (G H : Hp) (o : Addr) (n : Nat) (refs : List V) (near : Int → List Int) : Prop where
  ho : H o = some (.lst refs)
  len : refs.length = n
  row : ∀ k : Nat, k < n → ∃ a, refs[k]? = some (.ref a) ∧ G a = none ∧ a ≠ o ∧ H a = some (.lst ((near k).map V.int))
  inj : ∀ (i j : Nat) (a : Addr), refs[i]? = some (.ref a) → refs[j]? = some (.ref a) → i = j
section
variable {G H H' : Hp} {o : Addr} {n : Nat} {refs : List V} {near : Int → List Int}
theorem NearL.to (h : NearL G H o n refs near) (s : Same H H') : NearL G H' o n refs near := ⟨s _ _ h.ho, h.len, fun k hk => let ⟨a, h1, h2, h3, h4⟩ := h.row k hk; ⟨a, h1, h2, h3, s _ _ h4⟩, h.inj⟩
theorem NearL.app (h : NearL G H o n refs near) {k : Nat} {a : Addr} {b : Int} (ha : refs[k]? = some (.ref a)) (hk : k < n) (hH : H a = some (.lst ((near k).map V.int))) : NearL G (upd H a (.lst ((near k).map V.int ++ [.int b]))) o n refs (fun x => if x = (k : Int) then near k ++ [b] else near x) := by
  obtain ⟨a', h1, h2, h3, h4⟩ := h.row k hk
  cases Option.some.inj (ha.symm.trans h1)
  refine ⟨by rw [upd_ne h3.symm]; exact h.ho, h.len, fun j hj => ?_, h.inj⟩
  obtain ⟨c, c1, c2, c3, c4⟩ := h.row j hj
  refine ⟨c, c1, c2, c3, ?_⟩
  by_cases e : j = k
  · subst e
    cases Option.some.inj (c1.symm.trans ha)
    rw [upd_same, if_pos rfl, List.map_append]
    rfl
  · have ne : c ≠ a := fun z => by
      subst z
      exact e (h.inj _ _ _ c1 ha)
    rw [upd_ne ne, if_neg (fun z => e (by omega))]
    exact c4
theorem NearL.put (h : NearL G H o n refs near) {k : Nat} {b : Addr} {ns : List Int} (s : Same H H') (hk : k < n) (nb : H b = none) (eb : H' b = some (.lst (ns.map V.int))) (nG : G b = none) : NearL G (upd H' o (.lst (refs.set k (.ref b)))) o n (refs.set k (.ref b)) (fun x => if x = (k : Int) then ns else near x) := by
  have bo : b ≠ o := (ne_of_none h.ho nb).symm
  have old : ∀ (j : Nat) (a : Addr), refs[j]? = some (.ref a) → j < n → a ≠ b := fun j a e hj z => by
    obtain ⟨c, c1, _, _, c4⟩ := h.row j hj
    cases Option.some.inj (e.symm.trans c1)
    rw [z, nb] at c4
    cases c4
  refine ⟨upd_same, by rw [List.length_set]; exact h.len, fun j hj => ?_, fun i j a e1 e2 => ?_⟩
  · by_cases e : j = k
    · subst e
      refine ⟨b, List.getElem?_set_self (by rw [h.len]; exact hk), nG, bo, ?_⟩
      rw [upd_ne bo, if_pos rfl]
      exact eb
    · obtain ⟨c, c1, c2, c3, c4⟩ := h.row j hj
      refine ⟨c, by rw [List.getElem?_set_ne (fun z => e z.symm)]; exact c1, c2, c3, ?_⟩
      rw [upd_ne c3, if_neg (fun z => e (by omega))]
      exact s _ _ c4
  · have il : ∀ {m : Nat}, (refs.set k (.ref b))[m]? = some (.ref a) → m < n := fun {m} e => by
      have := (List.getElem?_eq_some_iff.mp e).1
      rw [List.length_set, h.len] at this
      exact this
    by_cases ei : i = k
    · subst ei
      rw [List.getElem?_set_self (by rw [h.len]; exact hk)] at e1
      cases Option.some.inj e1
      by_cases ej : j = i
      · exact ej.symm
      · have := il e2
        rw [List.getElem?_set_ne (fun z => ej z.symm)] at e2
        exact absurd rfl (old j b e2 this)
    · have hi := il e1
      rw [List.getElem?_set_ne (fun z => ei z.symm)] at e1
      by_cases ej : j = k
      · subst ej
        rw [List.getElem?_set_self (by rw [h.len]; exact hk)] at e2
        cases Option.some.inj e2
        exact absurd rfl (old i b e1 hi)
      · rw [List.getElem?_set_ne (fun z => ej z.symm)] at e2
        exact h.inj _ _ _ e1 e2
theorem NearL.congr {near' : Int → List Int} (h : NearL G H o n refs near) (e : ∀ k : Nat, k < n → near k = near' k) : NearL G H o n refs near' := ⟨h.ho, h.len, fun k hk => let ⟨a, h1, h2, h3, h4⟩ := h.row k hk; ⟨a, h1, h2, h3, by rw [← e k hk]; exact h4⟩, h.inj⟩
end
/-! ### pairs by taking places out -/
def NearI (N : Net) (os : List Int) (i : Nat) (near : Int → List Int) : Prop := ∀ x y, x ∈ os → y ∈ os → i ≤ posOf x os → i ≤ posOf y os → (y ∈ near x ↔ x ≠ y ∧ (adj0 N.ls x y = true ∨ ∃ w, posOf w os < i ∧ PairP N.ls os w x ∧ PairP N.ls os w y))
section
variable {N : Net} {os : List Int} {i : Nat} {near : Int → List Int} {u : Int}
theorem near_up (ok : NetOk N) (oo : OrdOk N.n os) (h : NearI N os i near) (hu : os[i]? = some u) {x : Int} (hx : x ∈ os) (lt : i < posOf x os) : x ∈ near u ↔ PairP N.ls os u x := by
  have hp := posOf_get oo.nodup hu
  rw [h u x (List.mem_of_getElem? hu) hx (by omega) (by omega), pair_rec ok oo]
  constructor
  · rintro ⟨_, h1 | ⟨w, _, h2, h3⟩⟩
    · exact ⟨by omega, .inl h1⟩
    · exact ⟨by omega, .inr ⟨w, h2, h3⟩⟩
  · rintro ⟨_, h1 | ⟨w, h2, h3⟩⟩
    · exact ⟨fun z => by rw [z] at hp; omega, .inl h1⟩
    · have := h2.1
      exact ⟨fun z => by rw [z] at hp; omega, .inr ⟨w, by omega, h2, h3⟩⟩
open Classical in
theorem ups_eq (ok : NetOk N) (oo : OrdOk N.n os) (h : NearI N os i near) (hu : os[i]? = some u) : (os.drop (i + 1)).filter (fun x => decide (x ∈ near u)) = upP N.ls os u := by
  have hp := posOf_get oo.nodup hu
  unfold upP
  have e := List.take_append_drop (i + 1) os
  have e2 : os.filter (fun v => decide (PairP N.ls os u v)) = (os.take (i + 1)).filter (fun v => decide (PairP N.ls os u v)) ++ (os.drop (i + 1)).filter (fun v => decide (PairP N.ls os u v)) := by
    rw [← List.filter_append, e]
  have e3 : (os.take (i + 1)).filter (fun v => decide (PairP N.ls os u v)) = [] := by
    rw [List.filter_eq_nil_iff]
    intro x hx
    rw [decide_eq_true_eq]
    intro p
    obtain ⟨j, hj, ej⟩ := List.getElem_of_mem hx
    rw [List.length_take] at hj
    have hg : os[j]? = some x := by
      rw [List.getElem?_eq_getElem (by omega), ← ej, List.getElem_take]
    have := posOf_get oo.nodup hg
    have := p.1
    omega
  rw [e2, e3, List.nil_append]
  refine List.filter_congr fun x hx => ?_
  rw [Bool.eq_iff_iff, decide_eq_true_eq, decide_eq_true_eq]
  obtain ⟨j, hj, ej⟩ := List.getElem_of_mem hx
  rw [List.length_drop] at hj
  have hg : os[i + 1 + j]? = some x := by
    rw [List.getElem?_eq_getElem (by omega), ← ej, List.getElem_drop]
  have := posOf_get oo.nodup hg
  exact near_up ok oo h hu (List.mem_of_getElem? hg) (by omega)
def nearUp (near : Int → List Int) (ups : List Int) (x : Int) : List Int := near x ++ ups.filter fun w => !decide (w = x) && !decide (w ∈ near x)
theorem near_step (ok : NetOk N) (oo : OrdOk N.n os) (h : NearI N os i near) (hu : os[i]? = some u) : NearI N os (i + 1) (fun x => if x ∈ upP N.ls os u then nearUp near (upP N.ls os u) x else near x) := fun x y hx hy h1 h2 => by
  have hp := posOf_get oo.nodup hu
  have hI := h x y hx hy (by omega) (by omega)
  have key : (∃ w, posOf w os < i + 1 ∧ PairP N.ls os w x ∧ PairP N.ls os w y) ↔ (∃ w, posOf w os < i ∧ PairP N.ls os w x ∧ PairP N.ls os w y) ∨ (PairP N.ls os u x ∧ PairP N.ls os u y) := by
    constructor
    · rintro ⟨w, hw, p1, p2⟩
      by_cases e : posOf w os = i
      · have : w = u := pos_inj (oo.mem.mpr (p1.ins ok).1) (List.mem_of_getElem? hu) (by omega)
        subst this
        exact .inr ⟨p1, p2⟩
      · exact .inl ⟨w, by omega, p1, p2⟩
    · rintro (⟨w, hw, p⟩ | p)
      · exact ⟨w, by omega, p⟩
      · exact ⟨u, by omega, p⟩
  rw [key]
  show y ∈ (if x ∈ upP N.ls os u then nearUp near (upP N.ls os u) x else near x) ↔ _
  by_cases c : x ∈ upP N.ls os u
  · rw [if_pos c]
    unfold nearUp
    rw [List.mem_append, List.mem_filter, Bool.and_eq_true, Bool.not_eq_true', Bool.not_eq_true', decide_eq_false_iff_not, decide_eq_false_iff_not, mem_upP ok oo, hI]
    have cx := (mem_upP ok oo).mp c
    constructor
    · rintro (⟨h1, h2 | h2⟩ | ⟨h1, h2, _⟩)
      · exact ⟨h1, .inl h2⟩
      · exact ⟨h1, .inr (.inl h2)⟩
      · exact ⟨fun z => h2 z.symm, .inr (.inr ⟨cx, h1⟩)⟩
    · rintro ⟨h1, h2 | h2 | h2⟩
      · exact .inl ⟨h1, .inl h2⟩
      · exact .inl ⟨h1, .inr h2⟩
      · by_cases d : adj0 N.ls x y = true ∨ ∃ w, posOf w os < i ∧ PairP N.ls os w x ∧ PairP N.ls os w y
        · exact .inl ⟨h1, d⟩
        · exact .inr ⟨h2.2, fun z => h1 z.symm, fun z => d z.2⟩
  · rw [if_neg c, hI]
    have cx : ¬ PairP N.ls os u x := fun p => c ((mem_upP ok oo).mpr p)
    constructor
    · rintro ⟨h1, h2 | h2⟩
      · exact ⟨h1, .inl h2⟩
      · exact ⟨h1, .inr (.inl h2)⟩
    · rintro ⟨h1, h2 | h2 | h2⟩
      · exact ⟨h1, .inl h2⟩
      · exact ⟨h1, .inr h2⟩
      · exact absurd h2.1 cx
end
/-! ### lists of pairs -/
noncomputable def pairsL (ls : List Lnk) (os : List Int) : List (Int × Int) := os.flatMap fun u => (upP ls os u).map fun v => (u, v)
theorem mem_pairsL {N : Net} {os : List Int} (ok : NetOk N) (oo : OrdOk N.n os) {u v : Int} : (u, v) ∈ pairsL N.ls os ↔ PairP N.ls os u v := by
  unfold pairsL
  rw [List.mem_flatMap]
  constructor
  · rintro ⟨x, hx, h⟩
    obtain ⟨y, hy, e⟩ := List.mem_map.mp h
    cases e
    exact (mem_up.mp hy).2
  · intro h
    exact ⟨u, oo.mem.mpr (h.ins ok).1, List.mem_map.mpr ⟨v, (mem_upP ok oo).mpr h, rfl⟩⟩
/-- a list of new tuples of two ints -/
structure TupsAt (H : Hp) (ts : List V) (L : List (Int × Int)) : Prop where
  len : ts.length = L.length
  at_ : ∀ (i : Nat) (u v : Int), L[i]? = some (u, v) → ∃ t, ts[i]? = some (.ref t) ∧ H t = some (.tup [.int u, .int v])
theorem TupsAt.to {H H' : Hp} {ts : List V} {L : List (Int × Int)} (h : TupsAt H ts L) (s : Same H H') : TupsAt H' ts L := ⟨h.len, fun i u v e => let ⟨t, h1, h2⟩ := h.at_ i u v e; ⟨t, h1, s _ _ h2⟩⟩
def pairD2 (x : Int × Int) : PyData := .tuple [.int x.1, .int x.2]
theorem TupsAt.dp {K : PySem.W.Frag} {H : Hp} : ∀ {ts : List V} {L : List (Int × Int)}, TupsAt H ts L → DpAll K H ts (L.map pairD2)
  | [], [], _ => .nil
  | [], _ :: _, h => absurd h.len (by simp)
  | _ :: _, [], h => absurd h.len (by simp)
  | x :: ts, (u, v) :: L, h => by
    obtain ⟨t, h1, h2⟩ := h.at_ 0 u v rfl
    cases Option.some.inj h1
    exact .cons (.tup (.of h2) (.cons (.int u) (.cons (.int v) .nil))) (TupsAt.dp ⟨Nat.succ.inj h.len, fun i a b e => h.at_ (i + 1) a b e⟩)
theorem pairsL_len {N : Net} {os : List Int} (ok : NetOk N) (oo : OrdOk N.n os) : (pairsL N.ls os).length ≤ 1600 := by
  unfold pairsL
  have h : ∀ xs : List Int, (xs.flatMap fun u => (upP N.ls os u).map fun v => (u, v)).length ≤ xs.length * 40 := by
    intro xs
    induction xs with
    | nil => exact Nat.zero_le _
    | cons x r ih =>
      rw [List.flatMap_cons, List.length_append, List.length_map, List.length_cons, Nat.succ_mul]
      have := up_len (u := x) ok oo
      omega
  have := h os
  have := oo.len
  have := ok.n40
  omega
theorem TupsAt.upd {H : Hp} {ts zs : List V} {L : List (Int × Int)} {D : Addr} {u : HO} (h : TupsAt H ts L) (hD : H D = some (.lst zs)) : TupsAt (L2.upd H D u) ts L := ⟨h.len, fun i a b e => by
  obtain ⟨t, h1, h2⟩ := h.at_ i a b e
  refine ⟨t, h1, ?_⟩
  rw [upd_ne (fun z => by
    rw [z, hD] at h2
    cases h2)]
  exact h2⟩
theorem TupsAt.but {H : Hp} {ts zs : List V} {L : List (Int × Int)} {D : Addr} (h : TupsAt H ts L) (hD : H D = some (.lst zs)) : TupsAt (Ovc.but H D) ts L := ⟨h.len, fun i a b e => by
  obtain ⟨t, h1, h2⟩ := h.at_ i a b e
  refine ⟨t, h1, ?_⟩
  rw [but_ne (fun z => by
    rw [z, hD] at h2
    cases h2)]
  exact h2⟩
theorem TupsAt.app {H : Hp} {ts zs : List V} {L M : List (Int × Int)} (h : TupsAt H ts L) (k : TupsAt H zs M) : TupsAt H (ts ++ zs) (L ++ M) := ⟨by
  rw [List.length_append, List.length_append, h.len, k.len], fun i u v e => by
  by_cases hi : i < L.length
  · rw [List.getElem?_append_left hi] at e
    rw [List.getElem?_append_left (by rw [h.len]; exact hi)]
    exact h.at_ i u v e
  · rw [List.getElem?_append_right (by omega)] at e
    rw [List.getElem?_append_right (by rw [h.len]; omega), h.len]
    exact k.at_ _ u v e⟩
theorem TupsAt.nil {H : Hp} : TupsAt H [] [] := ⟨rfl, fun i u v e => by simp at e⟩
theorem TupsAt.one {H : Hp} {t : Addr} {u v : Int} (h : H t = some (.tup [.int u, .int v])) : TupsAt H [.ref t] [(u, v)] := ⟨rfl, fun i a b e => by
  cases i with
  | zero =>
    cases Option.some.inj e
    exact ⟨t, rfl, h⟩
  | succ i => simp at e⟩
section
variable {K : PySem.W.Frag} {σ : L2.St} {H : Hp} {ta tb te tl : TE} {tr : TA} {D : Ends} {tw : TS} {tt : TT} {x y : V}
/-- [e for x in range(n)], e told by f -/
theorem vn_lcRV {j : Nat} {n : Int} {f : Int → V} (hl : Va tr σ H [.int n]) (h0 : 0 ≤ n) (hz : n ≤ 1000000) (he : ∀ x : Int, 0 ≤ x → x < n → ∀ H', Same H H' → Ve te ((σ.set j none).set j (some (.int x))) H' (f x)) :
    Vn (tLc (iRng1 tr) (gName j) tYes te [j]) σ H ((rng n).map f) := fun Q q => by
  refine hl _ ⟨n, rfl, by omega, by omega, fun D nD => lc_range (lo := 0) (n := n.toNat) (fun i H' => H' D = some (.lst (((List.range i).map fun (i : Nat) => (i : Int)).map f)) ∧ Same H H') ⟨upd_same, same_upd nD⟩ (fun i H2 hi hP => ?_) (fun H2 hP => ?_)⟩
  · obtain ⟨hD, s2⟩ := hP
    rw [Int.zero_add]
    refine ⟨?_, iteT (B := H2 D = some (.lst (((List.range (i + 1)).map fun (i : Nat) => (i : Int)).map f)) ∧ Same H H2) (he i (by omega) (by omega) H2 s2 _ fun H3 s3 => ⟨_, s3 _ _ hD, ?_, ?_, same_upd' (s2.trans s3) nD⟩)⟩
    · show ((σ.set j none).set j (some (V.int i))).set j none = σ.set j none
      rw [List.set_set, List.set_set]
    · rw [List.length_map, List.length_map, List.length_range]
      exact Nat.lt_of_le_of_lt (m := 1000000) (by omega) (by decide)
    · rw [upd_same, List.range_succ, List.map_append, List.map_append]
      rfl
  · obtain ⟨hD, s2⟩ := hP
    exact q D H2 s2 nD hD
theorem ax_neV2 (ha : Ve ta σ H x) (hb : ∀ H', Same H H' → Vl tb σ H' y) (hs : scal x y = true) : Ax (tTest (tOp rNe ta tb)) σ H (!decide (x = y)) := fun Q k => ha _ fun H' s' => hb H' s' _ ⟨hs, _, rfl, k H' s'⟩
theorem q_appT2 {l : Addr} {xs : List V} {i j : Int} (ho : Vl ta σ H (.ref l)) (hl : H l = some (.lst xs)) (hz : xs.length < sizeLine) (k : ∀ T H', Same H H' → H T = none → tw D σ (L2.upd H' l (.lst (xs ++ [.ref T])))) :
    tSeq (tDrop (tBM K "list" rAppend ta (tCons (tTup (tCons (tC (.int i)) (tCons (tC (.int j)) tNil))) tNil))) tw D σ H := ho _ ⟨.inl ⟨rfl, _, .inl (.inl hl)⟩, by show 2 ≤ sizeLine; decide, fun T nT => ⟨l, xs, .ref T, rfl, rfl, same_upd nT _ _ hl, hz, k T _ (same_upd nT) nT⟩⟩
/-- [(u, v) for v in xs] -/
theorem vt_lcG {j : Nat} {u : Int} {ns : List Int} {a : Addr} (hu : ∀ x H', Same H H' → Vl ta ((σ.set j none).set j (some x)) H' (.int u)) (hw : ∀ x, ((σ.set j none).set j (some x))[j]? = some (some x)) (hl : Vl tl σ H (.ref a)) (hx : SqL K H a (ns.map V.int)) (hz : ns.length ≤ 10000) (Q : VK)
    (q : ∀ D H' zs, Same H H' → H D = none → H' D = some (.lst zs) → TupsAt H' zs (ns.map fun v => (u, v)) → Q (.ref D) H') : tLc (iList K tl) (gName j) tYes (tTup (tCons ta (tCons (tVar j) tNil))) [j] σ H Q := by
  refine hl _ ⟨a, rfl, ⟨_, hx⟩, fun D nD => lc_list (K := K) (a := a) (xs := ns.map V.int) (fun k H' => ∃ zs, H' D = some (.lst zs) ∧ Same H H' ∧ TupsAt H' zs ((ns.take k).map fun v => (u, v))) ⟨[], upd_same, same_upd nD, TupsAt.nil⟩ (fun k H' _ hP => hP.choose_spec.2.1.seq hx) (fun k x H' hk hP => ?_) (fun H' hP => ?_)⟩
  · obtain ⟨zs, hD, s', hT⟩ := hP
    rw [List.getElem?_map] at hk
    cases hg : ns[k]? with
    | none =>
      rw [hg] at hk
      cases hk
    | some v =>
      rw [hg] at hk
      cases hk
      refine ⟨?_, iteT (B := ∃ zs, H' D = some (.lst zs) ∧ Same H H' ∧ TupsAt H' zs ((ns.take (k + 1)).map fun v => (u, v))) ((hu _ H' s') _ ⟨_, hw _, by show 2 ≤ sizeLine; decide, fun T nT => ⟨zs, same_upd nT _ _ hD, ?_, zs ++ [.ref T], upd_same, same_upd' (s'.trans (same_upd nT)) nD, ?_⟩⟩)⟩
      · show ((σ.set j none).set j (some (V.int v))).set j none = σ.set j none
        rw [List.set_set, List.set_set]
      · rw [hT.len, List.length_map, List.length_take]
        exact Nat.lt_of_le_of_lt (m := 10000) (by omega) (by decide)
      · rw [take_snoc hg, List.map_append]
        exact ((hT.to (same_upd nT)).app (TupsAt.one upd_same)).upd (same_upd nT _ _ hD)
  · obtain ⟨zs, hD, s', hT⟩ := hP
    rw [List.length_map, List.take_length] at hT
    exact q D H' zs s' nD hD hT
/-- [order[j] for j in range(lo, len(order)) if ..] -/
theorem vn_lcIx {j lo : Nat} {os : List Int} {pb : Int → Bool} (hl : Va tr σ H [.int (lo : Nat), .int (os.length : Nat)]) (hlo : lo ≤ os.length) (hz : os.length ≤ 1000) (ht : ∀ (k : Nat) x, os[k]? = some x → ∀ H', Same H H' → An tt ((σ.set j none).set j (some (.int (k : Nat)))) H' (pb x))
    (he : ∀ (k : Nat) x, os[k]? = some x → ∀ H', Same H H' → Vl te ((σ.set j none).set j (some (.int (k : Nat)))) H' (.int x)) : Vn (tLc (iRng2 tr) (gName j) tt te [j]) σ H (((os.drop lo).filter pb).map V.int) := fun Q q => by
  refine hl _ ⟨(lo : Nat), (os.length : Nat), rfl, ⟨by omega, by omega, by omega, by omega⟩, fun D nD => lc_range (lo := (lo : Nat)) (n := ((os.length : Int) - (lo : Int)).toNat) (fun i H' => H' D = some (.lst ((((os.drop lo).take i).filter pb).map V.int)) ∧ Same H H') ⟨upd_same, same_upd nD⟩ (fun i H2 hi hP => ?_) (fun H2 hP => ?_)⟩
  · obtain ⟨hD, s2⟩ := hP
    have hil : lo + i < os.length := by omega
    have hg : os[lo + i]? = some os[lo + i] := List.getElem?_eq_getElem hil
    have hg2 : (os.drop lo)[i]? = some os[lo + i] := by
      rw [List.getElem?_drop]
      exact hg
    generalize os[lo + i] = n at hg hg2
    have e : ((os.drop lo).take (i + 1)).filter pb = ((os.drop lo).take i).filter pb ++ [n].filter pb := by
      rw [take_snoc hg2]
      exact List.filter_append ..
    have ek : ((lo : Nat) : Int) + (i : Int) = ((lo + i : Nat) : Int) := by omega
    rw [ek]
    refine ⟨?_, ht _ n hg H2 s2 _ ?_⟩
    · show ((σ.set j none).set j (some (V.int ((lo + i : Nat) : Int)))).set j none = σ.set j none
      rw [List.set_set, List.set_set]
    · cases hp : pb n with
      | true =>
        have e2 : [n].filter pb = [n] := by
          rw [List.filter_cons, hp]
          rfl
        refine iteT (B := H2 D = some (.lst ((((os.drop lo).take (i + 1)).filter pb).map V.int)) ∧ Same H H2) (he _ n hg H2 s2 _ ⟨_, hD, ?_, ?_, same_upd' s2 nD⟩)
        · rw [List.length_map]
          have h1 : (((os.drop lo).take i).filter pb).length ≤ os.length := Nat.le_trans (List.length_filter_le _ _) (by rw [List.length_take, List.length_drop]; omega)
          exact Nat.lt_of_le_of_lt (m := 10000) (by omega) (by decide)
        · rw [upd_same, e, e2, List.map_append]
          rfl
      | false =>
        have e2 : [n].filter pb = [] := by
          rw [List.filter_cons, hp]
          rfl
        refine iteF ⟨?_, s2⟩
        rw [e, e2, List.append_nil]
        exact hD
  · obtain ⟨hD, s2⟩ := hP
    rw [List.take_of_length_le (by rw [List.length_drop]; omega)] at hD
    exact q D H2 s2 nD hD
end
abbrev sLPairs : Stmt := topS 36
theorem scLPairs : FnScope ["net", "order", "near", "a", "b", "there", "back", "out", "i", "ups", "v", "j", "w", "k"] ["net", "order"] (defScope sLPairs) := ⟨rfl, rfl, rfl, by decide +kernel, rfl, by decide +kernel, by decide +kernel⟩
def spLPairs (K : PySem.W.Frag) : Sp := fun vs H Q _ => ∃ (v : V) (N : Net) (p : Addr) (os : List Int), vs = [v, .ref p] ∧ Dp K H v (netD N) ∧ NetOk N ∧ SqL K H p (os.map V.int) ∧ OrdOk N.n os ∧ ∀ H' q ts, Same H H' → H q = none → H' q = some (.lst ts) → TupsAt H' ts (pairsL N.ls os) → Q (.ref q) H'
theorem adj_take2 {ls : List Lnk} {i : Nat} {l : Lnk} (h : ls[i]? = some l) {x y : Int} : adj0 (ls.take (i + 1)) x y = true ↔ adj0 (ls.take i) x y = true ∨ (l.a = x ∧ l.b = y) ∨ (l.a = y ∧ l.b = x) := by
  rw [take_snoc h, adj0_iff, adj0_iff]
  constructor
  · rintro ⟨m, hm, e⟩
    rcases List.mem_append.mp hm with hm | hm
    · exact .inl ⟨m, hm, e⟩
    · rw [List.mem_singleton.mp hm] at e
      exact .inr e
  · rintro (⟨m, hm, e⟩ | e)
    · exact ⟨m, List.mem_append.mpr (.inl hm), e⟩
    · exact ⟨l, List.mem_append.mpr (.inr (List.mem_singleton.mpr rfl)), e⟩
section
variable {P : Program} {w : World} {K : PySem.W.Frag} {mg : Str → Option Value} {base : Heap}
theorem ok_lpairs {f : Addr} {fd : FuncData} {k : Nat} (F : Fun K "_law_pairs" "_law_pairs" sLPairs f fd) (ml : mg "len" = none) (mr : mg "range" = none) : FnOk P w K mg base CX0 (k + 1) f fd ["net", "order"] (spLPairs K) := by
  refine F.ok scLPairs (fun vs H Q E h => ?_) (fun cdv A outer s H vs Q E hr h => ?_)
  · obtain ⟨v, N, p, os, rfl, _⟩ := h
    rfl
  · obtain ⟨v, N, p, os, rfl, hN, ok, hS, oo, q⟩ := h
    refine ⟨_, pss_cons (ps_set (i := 2) scLPairs.nd rfl (.inr rfl) (pe_lc (own := [("k", 13)]) (g := gName 13) (tt := tYes) (te := (tLst tNil)) (by rfl) scLPairs.nd (pi_range1 (by rfl) mr (pa_cons (pe_ix ix_tup (pv 0) pe_int (fun _ _ => rfl)) pa_nil)) (blkOk_by (own := [("k", 13)]) (N := ["net", "order", "near", "a", "b", "there", "back", "out", "i", "ups", "v", "j", "w", "k"]) (sc := defScope sLPairs) (by decide +kernel)) (fun _ _ _ _ _ => pg_name (i := 13) scLPairs.nd rfl (Or.inl rfl)) (fun _ _ _ _ _ => by exact pts_nil) (fun _ _ _ _ _ => by exact (pe_lst pa_nil))))
      (pss_cons (ps_for PassesOwn.never rfl (pi_list (pe_ix ix_tup (pv 0) pe_int (fun _ _ => rfl))) (pg_tup rfl (pgs_cons (pg_name (i := 3) scLPairs.nd rfl (.inl rfl)) (pgs_cons (pg_name (i := 4) scLPairs.nd rfl (.inl rfl)) (pgs_cons (pg_name (i := 5) scLPairs.nd rfl (.inl rfl)) (pgs_cons (pg_name (i := 6) scLPairs.nd rfl (.inl rfl)) pgs_nil)))))
      (pss_cons (ps_expr (pe_bm PySem.F.plainAttrs_list PySem.F.slot_list_append PySem.F.type_list_append mt_append (pe_ix ix_list (pv 2) (pv 3) (fun _ _ => rfl)) (pa_cons (pv 4) pa_nil)))
        (pss_one (ps_expr (pe_bm PySem.F.plainAttrs_list PySem.F.slot_list_append PySem.F.type_list_append mt_append (pe_ix ix_list (pv 2) (pv 4) (fun _ _ => rfl)) (pa_cons (pv 3) pa_nil))))))
      (pss_cons (ps_set (i := 7) scLPairs.nd rfl (.inl rfl) (pe_lst pa_nil))
      (pss_cons (ps_for PassesOwn.never rfl (pi_range1 (by rfl) mr (pa_cons (pe_callB call_len_seq (by rfl) ml PySem.boot_len (pa_cons (pv 1) pa_nil)) pa_nil)) (pg_name (i := 8) scLPairs.nd rfl (.inr rfl))
      (pss_cons (ps_setLc (i := 9) (own := [("j", 11)]) (g := gName 11) (tt := (tTest (tOp (rIn K false) (tOp (rIxL K) (tVar 1) (tVar 11)) (tOp (rIxL K) (tVar 2) (tOp (rIxL K) (tVar 1) (tVar 8)))))) (te := (tOp (rIxL K) (tVar 1) (tVar 11))) (by rfl) scLPairs.nd rfl rfl (sw_true rfl rfl rfl (by decide +kernel)) (pi_range2 (by rfl) mr (pa_cons (pe_op op_add (pv 8) pe_int) (pa_cons (pe_callB call_len_seq (by rfl) ml PySem.boot_len (pa_cons (pv 1) pa_nil)) pa_nil))) (blkOk_by (own := [("j", 11)]) (N := ["net", "order", "near", "a", "b", "there", "back", "out", "i", "ups", "v", "j", "w", "k"]) (sc := defScope sLPairs) (by decide +kernel)) (fun _ _ _ _ _ => pg_name (i := 11) scLPairs.nd rfl (Or.inl rfl)) (fun _ _ _ _ _ => by exact (pts_one (pt_cmpR op_in_seq (pe_ix ix_list (pv 1) (pv 11) (fun _ _ => rfl)) (pe_ix ix_list (pv 2) (pe_ix ix_list (pv 1) (pv 8) (fun _ _ => rfl)) (fun _ _ => rfl)) (by rfl)))) (fun _ _ _ _ _ => by exact (pe_ix ix_list (pv 1) (pv 11) (fun _ _ => rfl))))
        (pss_cons (ps_set (i := 7) scLPairs.nd rfl (.inl rfl) (pe_op op_cat (pv 7) (pe_lc (own := [("v", 10)]) (g := gName 10) (tt := tYes) (te := (tTup (tCons (tOp (rIxL K) (tVar 1) (tVar 8)) (tCons (tVar 10) tNil)))) (by rfl) scLPairs.nd (pi_list (pv 9)) (blkOk_by (own := [("v", 10)]) (N := ["net", "order", "near", "a", "b", "there", "back", "out", "i", "ups", "v", "j", "w", "k"]) (sc := defScope sLPairs) (by decide +kernel)) (fun _ _ _ _ _ => pg_name (i := 10) scLPairs.nd rfl (Or.inl rfl)) (fun _ _ _ _ _ => by exact pts_nil) (fun _ _ _ _ _ => by exact (pe_tup (pa_cons (pe_ix ix_list (pv 1) (pv 8) (fun _ _ => rfl)) (pa_cons (pv 10) pa_nil)))))))
        (pss_one (ps_for PassesOwn.never rfl (pi_list (pv 9)) (pg_name (i := 10) scLPairs.nd rfl (.inr rfl))
        (pss_one (ps_asg (pe_op op_cat (pe_ix ix_list (pv 2) (pv 10) (fun _ _ => rfl)) (pe_lc (own := [("w", 12)]) (g := gName 12) (tt := (tAnd (tTest (tOp rNe (tVar 12) (tVar 10))) (tTest (tOp (rIn K true) (tVar 12) (tOp (rIxL K) (tVar 2) (tVar 10)))))) (te := (tVar 12)) (by rfl) scLPairs.nd (pi_list (pv 9)) (blkOk_by (own := [("w", 12)]) (N := ["net", "order", "near", "a", "b", "there", "back", "out", "i", "ups", "v", "j", "w", "k"]) (sc := defScope sLPairs) (by decide +kernel)) (fun _ _ _ _ _ => pg_name (i := 12) scLPairs.nd rfl (Or.inl rfl)) (fun _ _ _ _ _ => by exact (pts_one (PW.pt (pw_and (pt_cmpR op_ne (pv 12) (pv 10) (nomark _)) (pw_and1 (pt_cmpR op_notIn_seq (pv 12) (pe_ix ix_list (pv 2) (pv 10) (fun _ _ => rfl)) (by rfl))))))) (fun _ _ _ _ _ => by exact (pv 12)))) (pg_sub (pv 2) (pv 10) set_list))))))))
      (pss_one (ps_ret (pv 7)))))), ?_⟩
    obtain ⟨np_, c, xs, rfl, hp, hc, hx⟩ := Dp.net_inv hN
    have n1 := ok.n1
    have n40 := ok.n40
    have l16 := ok.len
    have ol := oo.len
    -- near
    refine q_asgE ((vl_ixT (K := K) (vl_var rfl) vl_c hp (atI_nat (j := 0) rfl)) _ ⟨N.n, rfl, by omega, by omega, fun o no => lc_range (lo := 0) (n := N.n.toNat) (fun i H' => ∃ refs, Same H H' ∧ NearL H H' o i refs (fun _ => [])) ⟨[], same_upd no, upd_same, rfl, fun k hk => absurd hk (Nat.not_lt_zero _), fun i j a e => by simp at e⟩ (fun i H2 hi hP => ?_) (fun H2 hP => ?_)⟩)
    · obtain ⟨refs, s2, hL⟩ := hP
      rw [Int.zero_add]
      refine ⟨rfl, iteT (B := ∃ refs, Same H H2 ∧ NearL H H2 o (i + 1) refs (fun _ => [])) ⟨Nat.zero_le _, fun b nb => ?_⟩⟩
      have sb : Same H2 (upd H2 b (.lst [])) := same_upd nb
      have bo : b ≠ o := (ne_of_none hL.ho nb).symm
      refine ⟨refs, sb _ _ hL.ho, ?_, refs ++ [.ref b], same_upd' (s2.trans sb) no, upd_same, ?_, fun k hk => ?_, fun k j a e1 e2 => ?_⟩
      · rw [hL.len]
        exact Nat.lt_of_le_of_lt (m := 10000) (by omega) (by decide)
      · rw [List.length_append, hL.len]
        rfl
      · by_cases e : k < i
        · obtain ⟨a, h1, h2, h3, h4⟩ := hL.row k e
          refine ⟨a, by rw [List.getElem?_append_left (by rw [hL.len]; exact e)]; exact h1, h2, h3, ?_⟩
          rw [upd_ne h3]
          exact sb _ _ h4
        · have e : k = i := by omega
          subst e
          refine ⟨b, by rw [List.getElem?_append_right (by rw [hL.len]; exact Nat.le_refl _), hL.len, Nat.sub_self]; rfl, Same.free s2 nb, bo, ?_⟩
          rw [upd_ne bo, upd_same]
          rfl
      · have old : ∀ {m : Nat}, (refs ++ [.ref b])[m]? = some (.ref a) → (m < i ∧ refs[m]? = some (.ref a) ∧ a ≠ b) ∨ (m = i ∧ a = b) := fun {m} e => by
          by_cases hm : m < i
          · rw [List.getElem?_append_left (by rw [hL.len]; exact hm)] at e
            obtain ⟨c, c1, _, _, c4⟩ := hL.row m hm
            cases Option.some.inj (e.symm.trans c1)
            exact .inl ⟨hm, e, fun z => by
              rw [z, nb] at c4
              cases c4⟩
          · rw [List.getElem?_append_right (by rw [hL.len]; omega), hL.len] at e
            have hm2 := (List.getElem?_eq_some_iff.mp e).1
            have e0 : m - i = 0 := by
              have h1 : ([.ref b] : List V).length = 1 := rfl
              omega
            rw [e0] at e
            cases Option.some.inj e
            exact .inr ⟨by omega, rfl⟩
        rcases old e1 with ⟨h1, h2, h3⟩ | ⟨h1, h2⟩
        · rcases old e2 with ⟨g1, g2, g3⟩ | ⟨g1, g2⟩
          · exact hL.inj _ _ _ h2 g2
          · exact absurd g2 h3
        · rcases old e2 with ⟨g1, g2, g3⟩ | ⟨g1, g2⟩
          · exact absurd h2 g3
          · omega
    · obtain ⟨refs, s2, hL⟩ := hP
      have noH := no
      -- near[x], a variable
      have vrow : ∀ {H' : Hp} {refs : List V} {near : Int → List Int} {σ' : L2.St} {te : TE} {x : Int} {a : Addr}, NearL H H' o N.n.toNat refs near → σ'[2]? = some (some (.ref o)) → Vl te σ' H' (.int x) → 0 ≤ x → refs[x.toNat]? = some (.ref a) → Vl (tOp (rIxL K) (tVar 2) te) σ' H' (.ref a) := fun {H' refs near σ' te x a} hL e1 e2 h0 e3 => vl_ixL (vl_var e1) e2 (.of hL.ho) (by
        have := atI_nat e3
        rw [show ((x.toNat : Nat) : Int) = x by omega] at this
        exact this)
      have row : ∀ {H' : Hp} {refs : List V} {near : Int → List Int} {x : Int}, NearL H H' o N.n.toNat refs near → 0 ≤ x → x < N.n → ∃ a, refs[x.toNat]? = some (.ref a) ∧ H a = none ∧ a ≠ o ∧ H' a = some (.lst ((near x).map V.int)) := fun {H' refs near x} hL h0 h1 => by
        have := hL.row x.toNat (by omega)
        rw [show ((x.toNat : Nat) : Int) = x by omega] at this
        exact this
      refine q_forLnk (j1 := 3) (j2 := 4) (j3 := 5) (j4 := 6) (Hb := H) (vl_ixT (vl_var rfl) vl_c (seqT s2 hp) (atI_nat (j := 1) rfl)) hc hx s2
        (fun i σ H3 => ∃ y3 y4 y5 y6 near, σ = [some (.ref np_), some (.ref p), some (.ref o), y3, y4, y5, y6, none, none, none, none, none, none, none] ∧ Same H H3 ∧ NearL H H3 o N.n.toNat refs near ∧ ∀ x : Int, 0 ≤ x → x < N.n → (near x).length ≤ i ∧ ∀ y, y ∈ near x ↔ adj0 (N.ls.take i) x y = true)
        ⟨_, _, _, _, fun _ => [], rfl, s2, hL, fun x _ _ => ⟨Nat.le_refl _, fun y => ⟨fun h => (nomatch h), fun h => (nomatch h)⟩⟩⟩ (fun i σ H3 hP => ?_) (fun i l σ H3 hl hP => ?_) (fun σ H3 hP => ?_)
      · obtain ⟨_, _, _, _, _, _, s3, _⟩ := hP
        exact s3
      · obtain ⟨y3, y4, y5, y6, near, rfl, s3, hL3, hA⟩ := hP
        have hi := (List.getElem?_eq_some_iff.mp hl).1
        have hlk := ok.ok l (List.mem_of_getElem? hl)
        have h0 := hlk.a0
        have hab := hlk.ab
        have hbn := hlk.bn
        obtain ⟨aa, ha1, ha2, ha3, ha4⟩ := row hL3 h0 (show l.a < N.n by omega)
        have hla := (hA l.a h0 (by omega)).1
        have hlb := (hA l.b (by omega) hbn).1
        have e1 : ((l.a.toNat : Nat) : Int) = l.a := by omega
        have e2 : ((l.b.toNat : Nat) : Int) = l.b := by omega
        refine q_app (vrow hL3 rfl (vl_var rfl) h0 ha1) ha4 (vl_var rfl) ?_ ?_
        · rw [List.length_map]
          exact Nat.lt_of_le_of_lt (m := 10000) (by omega) (by decide)
        have hL4 := hL3.app (k := l.a.toNat) (b := l.b) ha1 (by omega) (by rw [e1]; exact ha4)
        rw [e1] at hL4
        have s4 : Same H (upd H3 aa (.lst ((near l.a).map V.int ++ [.int l.b]))) := same_upd' s3 ha2
        generalize upd H3 aa (.lst ((near l.a).map V.int ++ [.int l.b])) = H4 at hL4 s4 ⊢
        obtain ⟨ab, hb1, hb2, hb3, hb4⟩ := row hL4 (show 0 ≤ l.b by omega) hbn
        have nb4 : (if l.b = l.a then near l.a ++ [l.b] else near l.b) = near l.b := if_neg (by omega)
        refine g_app (vrow hL4 rfl (vl_var rfl) (by omega) hb1) hb4 (vl_var rfl) ?_ ?_
        · rw [List.length_map, nb4]
          exact Nat.lt_of_le_of_lt (m := 10000) (by omega) (by decide)
        have hL5 := hL4.app (k := l.b.toNat) (b := l.a) hb1 (by omega) (by rw [e2]; exact hb4)
        rw [e2] at hL5
        refine ⟨_, _, _, _, fun x => if x = l.b then near l.b ++ [l.a] else if x = l.a then near l.a ++ [l.b] else near x, rfl, same_upd' s4 hb2, hL5.congr fun k hk => ?_, fun x hx0 hx1 => ?_⟩
        · show (if (k : Int) = l.b then (if l.b = l.a then near l.a ++ [l.b] else near l.b) ++ [l.a] else if (k : Int) = l.a then near l.a ++ [l.b] else near k) = _
          rw [nb4]
        · obtain ⟨hxl, hxm⟩ := hA x hx0 hx1
          show ((if x = l.b then near l.b ++ [l.a] else if x = l.a then near l.a ++ [l.b] else near x) : List Int).length ≤ i + 1 ∧ ∀ y, y ∈ ((if x = l.b then near l.b ++ [l.a] else if x = l.a then near l.a ++ [l.b] else near x) : List Int) ↔ _
          by_cases e : x = l.b
          · subst e
            rw [if_pos rfl]
            refine ⟨?_, fun y => ?_⟩
            · rw [List.length_append]
              exact Nat.succ_le_succ hxl
            · rw [adj_take2 hl, List.mem_append, List.mem_singleton, hxm y]
              constructor
              · rintro (h | h)
                · exact .inl h
                · exact .inr (.inr ⟨h.symm, rfl⟩)
              · rintro (h | h | h)
                · exact .inl h
                · omega
                · exact .inr h.1.symm
          · rw [if_neg e]
            by_cases e2 : x = l.a
            · subst e2
              rw [if_pos rfl]
              refine ⟨?_, fun y => ?_⟩
              · rw [List.length_append]
                exact Nat.succ_le_succ hxl
              · rw [adj_take2 hl, List.mem_append, List.mem_singleton, hxm y]
                constructor
                · rintro (h | h)
                  · exact .inl h
                  · exact .inr (.inl ⟨rfl, h.symm⟩)
                · rintro (h | h | h)
                  · exact .inl h
                  · exact .inr h.2.symm
                  · omega
            · rw [if_neg e2]
              refine ⟨by omega, fun y => ?_⟩
              rw [adj_take2 hl, hxm y]
              constructor
              · exact .inl
              · rintro (h | h | h)
                · exact h
                · exact absurd h.1.symm e2
                · exact absurd h.2.symm e
      · obtain ⟨y3, y4, y5, y6, near, rfl, s3, hL3, hA⟩ := hP
        rw [List.take_length] at hA
        have hI0 : NearI N os 0 near := fun x y hx hy _ _ => by
          have hxr := oo.mem.mp hx
          rw [(hA x hxr.1 hxr.2).2 y]
          constructor
          · intro h
            exact ⟨(adj0_in ok h).2.2, .inl h⟩
          · rintro ⟨_, h | ⟨w, hw, _⟩⟩
            · exact h
            · exact absurd hw (Nat.not_lt_zero _)
        refine q_lnew fun q0 nq0 => ?_
        have sq0 : Same H3 (upd H3 q0 (.lst [])) := same_upd nq0
        refine q_forR (n := (os.length : Int)) (va_cons (vl_lenI (vl_var rfl) ((s3.trans sq0).seq hS)) va_nil) ⟨by omega, by omega⟩
          (fun i σ H' => ∃ y8 y9 y10 out ys refs near, σ = [some (.ref np_), some (.ref p), some (.ref o), y3, y4, y5, y6, some (.ref out), y8, y9, y10, none, none, none] ∧ Same H H' ∧ H out = none ∧ H' out = some (.lst ys) ∧ TupsAt H' ys ((os.take i).flatMap fun u => (upP N.ls os u).map fun v => (u, v)) ∧ out ≠ o ∧ (∀ k : Nat, k < N.n.toNat → refs[k]? ≠ some (.ref out)) ∧ NearL H H' o N.n.toNat refs near ∧ NearI N os i near ∧ ∀ x : Int, 0 ≤ x → x < N.n → (near x).length ≤ 1600 + 40 * i)
          ⟨_, _, _, q0, [], refs, near, rfl, s3.trans sq0, Same.free s3 nq0, upd_same, TupsAt.nil, (ne_of_none hL3.ho nq0).symm, (fun k hk e => by
            obtain ⟨a, h1, _, _, h4⟩ := hL3.row k hk
            cases Option.some.inj (e.symm.trans h1)
            rw [nq0] at h4
            cases h4), hL3.to sq0, hI0, fun x h0 h1 => by
            have := (hA x h0 h1).1
            omega⟩ (fun i σ H4 hi hP => ?_) (fun σ H4 hP => ?_)
        · obtain ⟨y8, y9, y10, out, ys, refs, near, rfl, s4, nout, eout, hT, outo, outr, hL4, hI, hnl⟩ := hP
          have hil : i < os.length := by omega
          have hg : os[i]? = some os[i] := List.getElem?_eq_getElem hil
          generalize os[i] = u at hg
          have hur := oo.mem.mp (List.mem_of_getElem? hg)
          have hS4 := s4.seq hS
          obtain ⟨au, u1, u2, u3, u4⟩ := row hL4 hur.1 hur.2
          have ulen := up_len (u := u) ok oo
          have eu := ups_eq ok oo hI hg
          -- ups
          refine q_asgN (xs := (upP N.ls os u).map V.int) (by
            rw [← eu]
            exact vn_lcIx (lo := i + 1) (pb := fun x => decide (x ∈ near u)) (va_cons ((vl_I0 (vl_var rfl) vl_c).is (by
              show V.int ((i : Int) + 1) = V.int ((i + 1 : Nat) : Int)
              rfl)) (va_cons (vl_lenI (vl_var rfl) hS4) va_nil)) (by omega) (by omega) (fun k x hk H' s' => an_test (vl_inI (vl_ixI (vl_var rfl) (vl_var rfl) (s'.seq hS4) hk) (vrow (hL4.to s') rfl (vl_ixI (vl_var rfl) (vl_var rfl) (s'.seq hS4) hg) hur.1 u1) (.of (s' _ _ u4)))) (fun k x hk H' s' => vl_ixI (vl_var rfl) (vl_var rfl) (s'.seq hS4) hk)) fun pu H5 s5 npu epu => ?_
          have eout5 := s5 _ _ eout
          -- out
          refine q_asgE ⟨.ref out, rfl, ?_⟩
          refine vt_lcG (K := K) (j := 10) (u := u) (ns := upP N.ls os u) (a := pu) (fun x H' s' => vl_ixI (vl_var rfl) (vl_var rfl) ((s5.trans s').seq hS4) hg) (fun _ => rfl) (vl_var rfl) (.of epu) (by omega) _ fun D H6 zs s6 nD eD hZ => ?_
          refine ⟨out, D, ys, zs, rfl, rfl, s6 _ _ eout5, eD, ?_, fun out2 no2 => ?_⟩
          · rw [hT.len, hZ.len, List.length_map]
            have : ((os.take i).flatMap fun u => (upP N.ls os u).map fun v => (u, v)).length ≤ 1600 := by
              have e : pairsL N.ls os = ((os.take i).flatMap fun u => (upP N.ls os u).map fun v => (u, v)) ++ ((os.drop i).flatMap fun u => (upP N.ls os u).map fun v => (u, v)) := by
                unfold pairsL
                rw [← List.flatMap_append, List.take_append_drop]
              have plen := pairsL_len ok oo
              rw [e, List.length_append] at plen
              omega
            exact Nat.le_trans (show _ ≤ 10000 by omega) (by decide)
          have hT7 : TupsAt (upd H6 out2 (.lst (ys ++ zs))) (ys ++ zs) ((os.take (i + 1)).flatMap fun u => (upP N.ls os u).map fun v => (u, v)) := by
            rw [take_snoc hg, List.flatMap_append]
            have e : ([u].flatMap fun u => (upP N.ls os u).map fun v => (u, v)) = (upP N.ls os u).map fun v => (u, v) := by
              rw [List.flatMap_cons, List.flatMap_nil, List.append_nil]
            rw [e]
            exact ((hT.to (s5.trans s6)).app hZ).to (same_upd no2)
          have s7 : Same H6 (upd H6 out2 (.lst (ys ++ zs))) := same_upd no2
          have s47 := (s5.trans s6).trans s7
          have hL7 := hL4.to s47
          have hL6 := hL4.to (s5.trans s6)
          have out2o : out2 ≠ o := (ne_of_none hL6.ho no2).symm
          have out2r : ∀ k : Nat, k < N.n.toNat → refs[k]? ≠ some (.ref out2) := fun k hk e => by
            obtain ⟨a, h1, _, _, h4⟩ := hL6.row k hk
            cases Option.some.inj (e.symm.trans h1)
            rw [no2] at h4
            cases h4
          have epu7 := s7 _ _ (s6 _ _ epu)
          have puo : pu ≠ o := (ne_of_none hL4.ho npu).symm
          have puG : H pu = none := Same.free s4 npu
          have out2G : H out2 = none := Same.free (s4.trans (s5.trans s6)) no2
          have pur : ∀ k : Nat, k < N.n.toNat → refs[k]? ≠ some (.ref pu) := fun k hk e => by
            obtain ⟨a, h1, _, _, h4⟩ := hL4.row k hk
            cases Option.some.inj (e.symm.trans h1)
            rw [npu] at h4
            cases h4
          have eout7 : upd H6 out2 (.lst (ys ++ zs)) out2 = some (.lst (ys ++ zs)) := upd_same
          have s07 := s4.trans s47
          generalize upd H6 out2 (.lst (ys ++ zs)) = H7 at hT7 s47 hL7 epu7 eout7 s07 ⊢
          clear hL6 s7 hT
          -- for v in ups
          refine g_forL (xs := (upP N.ls os u).map V.int) (vl_var rfl) (.of epu7)
            (fun t σ H' => ∃ y10 refs, σ = [some (.ref np_), some (.ref p), some (.ref o), y3, y4, y5, y6, some (.ref out2), some (.int i), some (.ref pu), y10, none, none, none] ∧ Same H H' ∧ Same (but H7 o) (but H' o) ∧ (∀ k : Nat, k < N.n.toNat → refs[k]? ≠ some (.ref out2)) ∧ NearL H H' o N.n.toNat refs (fun x => if x ∈ (upP N.ls os u).take t then nearUp near (upP N.ls os u) x else near x))
            ⟨_, refs, rfl, s07, Same.refl _, out2r, hL7.congr fun k hk => by rw [List.take_zero, if_neg List.not_mem_nil]⟩ (fun t σ H' hP => ?_) (fun t y σ H' hy hP => ?_) (fun σ H' hP => ?_)
          · obtain ⟨_, _, _, _, s', _⟩ := hP
            exact .of (but_same _ _ (s' _ _ (by rw [but_ne puo]; exact epu7)))
          · obtain ⟨y10, refs, rfl, s', sb, hr2, hL'⟩ := hP
            rw [List.getElem?_map] at hy
            cases hgz : (upP N.ls os u)[t]? with
            | none =>
              rw [hgz] at hy
              cases hy
            | some z =>
              rw [hgz] at hy
              cases hy
              have hzu := List.mem_of_getElem? hgz
              have hzr := (((mem_upP ok oo).mp hzu).ins ok).2
              have hzt : z ∉ (upP N.ls os u).take t := fun h => by
                have hn := up_nodup (u := u) (N := N) oo
                have e := split_at hgz
                rw [e] at hn
                exact (List.nodup_append.mp hn).2.2 z h z List.mem_cons_self rfl
              obtain ⟨az, z1, z2, z3, z4⟩ := row hL' hzr.1 hzr.2
              rw [if_neg hzt] at z4
              have hnz := hnl z hzr.1 hzr.2
              have epu' := but_same _ _ (sb _ _ (show but H7 o pu = _ by rw [but_ne puo]; exact epu7))
              have fl : ((upP N.ls os u).filter fun w => !decide (w = z) && !decide (w ∈ near z)).length ≤ 40 := Nat.le_trans (List.length_filter_le _ _) ulen
              refine (vn_catL (ms := near z) (ns := (upP N.ls os u).filter fun w => !decide (w = z) && !decide (w ∈ near z)) (vrow hL' rfl (vl_var rfl) hzr.1 z1) z4 (vn_lcI (K := K) (j := 12) (ns := upP N.ls os u) (pb := fun w => !decide (w = z) && !decide (w ∈ near z)) (f := V.int) (vx_list (vl_var rfl) (.of epu')) (by omega) (fun x hx H'' s'' => an_and ((an_test (vl_ne (vl_var rfl) (vl_var rfl) rfl)).is (by rw [dI])) fun _ => an_test (vl_notInI (vl_var rfl) (vrow (hL'.to s'') rfl (vl_var rfl) hzr.1 z1) (.of (s'' _ _ z4)))) (fun x hx H'' s'' => vl_var rfl)) (by omega)) _ fun b H8 s8 nb eb => ?_
              have eb : H8 b = some (.lst ((nearUp near (upP N.ls os u) z).map V.int)) := eb
              have hput := hL'.put (k := z.toNat) (ns := nearUp near (upP N.ls os u) z) s8 (by omega) nb eb (Same.free s' nb)
              refine ⟨.ref o, rfl, .int z, rfl, o, refs, z, z.toNat, rfl, rfl, s8 _ _ hL'.ho, ?_, ?_⟩
              · unfold ixN
                rw [if_pos hzr.1, hL'.len, if_pos (by omega)]
              · refine ⟨_, _, rfl, same_upd' (s'.trans s8) noH, ?_, fun k hk e => ?_, hput.congr fun k hk => ?_⟩
                · rw [but_upd]
                  exact sb.trans (but_mono s8)
                · by_cases e2 : k = z.toNat
                  · subst e2
                    rw [List.getElem?_set_self (by rw [hL'.len]; exact hk)] at e
                    have e3 : b = out2 := V.ref.inj (Option.some.inj e)
                    have := but_same _ _ (sb _ _ (show but H7 o out2 = _ by rw [but_ne out2o]; exact eout7))
                    rw [e3, this] at nb
                    cases nb
                  · rw [List.getElem?_set_ne (fun z => e2 z.symm)] at e
                    exact hr2 k hk e
                · rw [take_snoc hgz]
                  by_cases e2 : (k : Int) = z
                  · rw [if_pos (by omega), if_pos (List.mem_append.mpr (.inr (List.mem_singleton.mpr e2))), e2]
                  · rw [if_neg (by omega)]
                    have e3 : ((k : Int) ∈ (upP N.ls os u).take t ++ [z]) ↔ (k : Int) ∈ (upP N.ls os u).take t := by
                      rw [List.mem_append, List.mem_singleton]
                      exact ⟨fun h => h.elim id fun q => absurd q e2, .inl⟩
                    simp only [e3]
          · obtain ⟨y10, refs, rfl, s', sb, hr2, hL'⟩ := hP
            rw [List.length_map, List.take_length] at hL'
            have bo : ∀ {a : Addr} {u : HO}, H7 a = some u → a ≠ o → H' a = some u := fun {a u} e ne => but_same _ _ (sb _ _ (by rw [but_ne ne]; exact e))
            refine ⟨_, _, _, out2, ys ++ zs, refs, fun x => if x ∈ upP N.ls os u then nearUp near (upP N.ls os u) x else near x, rfl, s', out2G, bo eout7 out2o, ⟨hT7.len, fun i a b e => ?_⟩, out2o, hr2, hL', near_step ok oo hI hg, fun x h0 h1 => ?_⟩
            · obtain ⟨t, t1, t2⟩ := hT7.at_ i a b e
              refine ⟨t, t1, bo t2 fun z => ?_⟩
              rw [z, hL7.ho] at t2
              cases t2
            · have := hnl x h0 h1
              show ((if x ∈ upP N.ls os u then nearUp near (upP N.ls os u) x else near x) : List Int).length ≤ 1600 + 40 * (i + 1)
              by_cases c : x ∈ upP N.ls os u
              · rw [if_pos c]
                unfold nearUp
                rw [List.length_append]
                have : ((upP N.ls os u).filter fun w => !decide (w = x) && !decide (w ∈ near x)).length ≤ 40 := Nat.le_trans (List.length_filter_le _ _) ulen
                omega
              · rw [if_neg c]
                omega
        · obtain ⟨y8, y9, y10, out, ys, refs, near, rfl, s4, nout, eout, hT, outo, outr, hL4, hI, hnl⟩ := hP
          rw [Int.toNat_natCast, List.take_length] at hT
          exact g_ret (vl_var rfl) (q H4 out ys s4 nout eout hT)
end
/-! ### the program's ranks -/
def spRk (K : PySem.W.Frag) (CN : Addr) : Sp := fun vs H Q E => ∃ (p : Addr) (os : List Int), vs = [.ref p] ∧ SqL K H p (os.map V.int) ∧ os.length ≤ 100 ∧
  match badAt os with
  | some k => RaiseTo E H CN (k : Nat)
  | none => ∀ H' q, Same H H' → H q = none → H' q = some (.lst ((rk os).map V.int)) → Q (.ref q) H'
theorem posOf_new : ∀ {os : List Int} {i : Nat} {x : Int}, os[i]? = some x → x ∉ os.take i → posOf x os = i
  | [], _, _, h, _ => by simp at h
  | y :: ys, 0, x, h, _ => if_pos (Option.some.inj h)
  | y :: ys, i + 1, x, h, hn => by
    have h : ys[i]? = some x := h
    rw [List.take_succ_cons, List.mem_cons, not_or] at hn
    show (if y = x then 0 else posOf x ys + 1) = i + 1
    rw [if_neg (fun z => hn.1 z.symm), posOf_new h hn.2]
def fnd (os : List Int) (i : Nat) : List V := (rng os.length).map fun p => if p ∈ os.take i then V.int (posOf p os) else V.non
theorem fnd_len {os : List Int} {i : Nat} : (fnd os i).length = os.length := by
  unfold fnd
  rw [List.length_map, len_rng, Int.toNat_natCast]
theorem fnd_zero {os : List Int} : fnd os 0 = List.replicate os.length V.non := by
  refine List.ext_getElem (by rw [fnd_len, List.length_replicate]) fun p h1 h2 => ?_
  simp only [fnd, List.getElem_map, List.take_zero, List.not_mem_nil, if_false, List.getElem_replicate]
theorem fnd_get {os : List Int} {i : Nat} {x : Int} (h0 : 0 ≤ x) (h1 : x < (os.length : Int)) : (fnd os i)[x.toNat]? = some (if x ∈ os.take i then V.int (posOf x os) else V.non) := by
  have hl : x.toNat < (rng os.length).length := by
    rw [len_rng, Int.toNat_natCast]
    omega
  unfold fnd
  rw [List.getElem?_map, List.getElem?_eq_getElem hl, rng_get hl, show ((x.toNat : Nat) : Int) = x by omega]
  rfl
theorem fnd_succ {os : List Int} {i : Nat} {x : Int} (hx : 0 ≤ x ∧ x < (os.length : Int)) (h : os[i]? = some x) (hn : x ∉ os.take i) : fnd os (i + 1) = (fnd os i).set x.toNat (V.int i) := by
  refine List.ext_getElem (by rw [List.length_set, fnd_len, fnd_len]) fun p h1 h2 => ?_
  rw [List.getElem_set]
  simp only [fnd, List.getElem_map, rng_get]
  rw [take_snoc h]
  by_cases e : x.toNat = p
  · have e2 : (p : Int) = x := by omega
    rw [if_pos e, e2, if_pos (List.mem_append.mpr (.inr (List.mem_singleton.mpr rfl))), posOf_new h hn]
  · have e2 : ¬ (p : Int) = x := fun z => e (by omega)
    rw [if_neg e]
    by_cases c : (p : Int) ∈ os.take i
    · rw [if_pos c, if_pos (List.mem_append.mpr (.inl c))]
    · rw [if_neg c, if_neg (fun z => by
        rcases List.mem_append.mp z with z | z
        · exact c z
        · exact e2 (List.mem_singleton.mp z))]
theorem fnd_end {os : List Int} (ok : OrdOk os.length os) : fnd os os.length = (rk os).map V.int := by
  unfold fnd rk
  rw [List.take_length, List.map_map]
  exact List.map_congr_left fun p hp => if_pos (ok.mem.mpr (mem_rng.mp hp))
theorem flat_rep {x : V} : ∀ n : Nat, (List.replicate n [x]).flatten = List.replicate n x
  | 0 => rfl
  | n + 1 => by
    rw [List.replicate_succ, List.flatten_cons, flat_rep n]
    rfl
theorem vn_rep {σ : L2.St} {H : Hp} {ta tb : TE} {x : V} {n : Nat} (ha : Vl ta σ H x) (hb2 : ∀ H', Same H H' → Vl tb σ H' (.int (n : Nat))) (hn : n ≤ 1000) : Vn (tOp rRep (tLst (tCons ta tNil)) tb) σ H (List.replicate n x) := fun Q q =>
  ha _ ⟨by show 1 ≤ sizeLine; decide, fun p np => hb2 _ (same_upd np) _ ⟨p, _, _, rfl, rfl, upd_same, by omega, by omega, by
    rw [Int.toNat_natCast]
    show 1 * n ≤ sizeLine
    rw [Nat.one_mul]
    exact Nat.le_trans hn (by decide), fun t nt => by
    rw [Int.toNat_natCast, flat_rep]
    exact q t _ ((same_upd np).trans (same_upd nt)) (Same.free (same_upd np) nt) upd_same⟩⟩
abbrev sRanks : Stmt := topS 14
theorem scRanks : FnScope ["order", "n", "found", "rank", "place"] ["order"] (defScope sRanks) := ⟨rfl, rfl, rfl, by decide +kernel, rfl, by decide +kernel, by decide +kernel⟩
section
variable {P : Program} {w : World} {K : PySem.W.Frag} {mg : Str → Option Value} {base : Heap} {CN fI : Addr}
theorem ok_ranks {f : Addr} {fd : FuncData} (F : Fun K "ranks" "ranks" sRanks f fd) (hN : PySem.LowX.LowTxt K mg "NotAnOrder" CN fI) (ml : mg "len" = none) (me : mg "enumerate" = none) : FnOk P w K mg base (L2.CX P w) 2 f fd ["order"] (spRk K CN) := by
  refine F.okX scRanks (fun vs H Q E h => ?_) (fun cdv A outer s H vs Q E hr h => ?_)
  · obtain ⟨p, os, rfl, _⟩ := h
    rfl
  · obtain ⟨p, os, rfl, hS, hl, q⟩ := h
    refine ⟨_, pss_cons (ps_set (i := 1) scRanks.nd rfl (.inl rfl) (pe_callB call_len_seq (by rfl) ml PySem.boot_len (pa_cons (pv 0) pa_nil)))
      (pss_cons (ps_set (i := 2) scRanks.nd rfl (.inl rfl) (pe_op op_rep (pe_lst (pa_cons pe_non pa_nil)) (pv 1)))
      (pss_cons (ps_for (passes_of rfl) rfl (pi_enum (by rfl) me (pa_cons (pv 0) pa_nil)) (pg_tup rfl (pgs_cons (pg_name (i := 3) scRanks.nd rfl (.inl rfl)) (pgs_cons (pg_name (i := 4) scRanks.nd rfl (.inl rfl)) pgs_nil)))
      (pss_cons (ps_if (PW.pt (pw_or (pt_not (pt_chain op_le op_lt pe_int (pv 4) (pv 1))) (pw_or1 (pt_cmpR op_notN (pe_ix ix_list (pv 2) (pv 4) (fun _ _ => rfl)) pe_non (nomark _)))))
        (pss_one (ps_raiseLow rfl hN hr (takes_of rfl rfl rfl rfl) (by exact (pa_cons (pv 3) pa_nil))))
        pss_nil)
        (pss_one (ps_asg (pv 3) (pg_sub (pv 2) (pv 4) set_list)))))
      (pss_one (ps_ret (pv 2))))), ?_⟩
    refine q_asg (vl_lenI (vl_var rfl) hS) ?_
    refine q_asgN (xs := fnd os 0) (by
      rw [fnd_zero]
      exact vn_rep vl_c (fun _ _ => vl_var rfl) (by omega)) fun o H2 s2 no ho => ?_
    refine ⟨.ref p, rfl, p, _, rfl, s2.seq hS, for_en (xs := os.map V.int)
      (fun i σ H4 => ∃ y3 y4, σ = [some (.ref p), some (.int os.length), some (.ref o), y3, y4] ∧ Same H (but H4 o) ∧ H4 o = some (.lst (fnd os i)) ∧ badAt os = fb os.length (os.take i) (os.drop i) i)
      ⟨none, none, rfl, same_but s2 no, ho, rfl⟩ (fun i σ H4 hP => ?_) (fun i x T2 σ H4 hi hP nT2 => ?_) (fun σ H4 hP => ?_)⟩
    · obtain ⟨_, _, _, s4, _⟩ := hP
      exact (s4.trans but_same).seq hS
    · obtain ⟨y3, y4, rfl, s4, ho4, eb⟩ := hP
      have hi2 : i < os.length := by
        have := (List.getElem?_eq_some_iff.mp hi).1
        rw [List.length_map] at this
        exact this
      have hg : os[i]? = some os[i] := List.getElem?_eq_getElem hi2
      rw [List.getElem?_map, hg] at hi
      cases hi
      have ed : os.drop i = os[i] :: os.drop (i + 1) := List.drop_eq_getElem_cons hi2
      rw [ed] at eb
      generalize os[i] = x at hg eb ⊢
      have eb : badAt os = if (0 ≤ x ∧ x < (os.length : Int)) ∧ x ∉ os.take i then fb os.length (os.take i ++ [x]) (os.drop (i + 1)) (i + 1) else some i := eb
      have sH := s4.trans but_same
      refine ⟨T2, _, rfl, .of upd_same, rfl, _, _, rfl, _, _, rfl, rfl, ?_⟩
      have s6 : Same H4 (upd H4 T2 (.tup [.int (i : Nat), .int x])) := same_upd nT2
      have ho5 := s6 _ _ ho4
      have s46 : Same (but H4 o) (but (upd H4 T2 (.tup [.int (i : Nat), .int x])) o) := but_mono s6
      generalize upd H4 T2 (.tup [.int (i : Nat), .int x]) = H5 at s6 ho5 s46 ⊢
      refine q_when (b := !(decide ((0 : Int) ≤ x) && decide (x < (os.length : Int))) || decide (x ∈ os.take i)) ?_ (fun hb => ?_) (fun hb => ?_)
      · refine an_or (an_not (an_test (vl_chainI vl_c (vl_var rfl) (vl_var rfl)))) fun hk => ?_
        rw [Bool.not_eq_false', Bool.and_eq_true, decide_eq_true_eq, decide_eq_true_eq] at hk
        have g := atI_nat (fnd_get (i := i) hk.1 hk.2)
        rw [show ((x.toNat : Nat) : Int) = x by omega] at g
        refine (an_test (vl_notN (vl_ixL (K := K) (vl_var rfl) (vl_var rfl) (.of ho5) g))).is ?_
        by_cases c : x ∈ os.take i
        · rw [if_pos c, decide_eq_true c]
          rfl
        · rw [if_neg c, decide_eq_false c]
          rfl
      · rw [if_neg (fun c => by
          rw [decide_eq_true c.1.1, decide_eq_true c.1.2, decide_eq_false c.2] at hb
          exact absurd hb (by decide))] at eb
        rw [eb] at q
        exact raise_now (va_cons (vl_var rfl) va_nil) (q.to (sH.trans s6))
      · rw [Bool.or_eq_false_iff, Bool.not_eq_false', Bool.and_eq_true, decide_eq_true_eq, decide_eq_true_eq, decide_eq_false_iff_not] at hb
        rw [if_pos hb] at eb
        refine ⟨.int i, rfl, .ref o, rfl, .int x, rfl, o, _, x, x.toNat, rfl, rfl, ho5, ?_, ?_⟩
        · unfold ixN
          rw [if_pos hb.1.1, fnd_len, if_pos (by omega)]
        · refine ⟨_, _, rfl, ?_, ?_, ?_⟩
          · rw [but_upd]
            exact s4.trans s46
          · rw [upd_same, fnd_succ hb.1 hg hb.2]
          · rw [eb, take_snoc hg]
    · obtain ⟨y3, y4, rfl, s4, ho4, eb⟩ := hP
      rw [List.length_map] at ho4 eb
      rw [List.take_length, List.drop_length] at eb
      have eb : badAt os = none := eb
      rw [eb] at q
      rw [fnd_end (bad_none eb)] at ho4
      exact g_ret (vl_var rfl) (q H4 o (s4.trans but_same) no ho4)
end
end Ovc
namespace CpCmb
def cmbs {α : Type} : List α → List (α × α)
  | [] => []
  | x :: xs => xs.map (fun y => (x, y)) ++ cmbs xs
theorem cmbs_map {α β : Type} (f : α → β) : ∀ xs : List α, cmbs (xs.map f) = (cmbs xs).map fun p => (f p.1, f p.2)
  | [] => rfl
  | x :: xs => by
    show (xs.map f).map (fun y => (f x, y)) ++ cmbs (xs.map f) = (xs.map (fun y => (x, y)) ++ cmbs xs).map fun p => (f p.1, f p.2)
    rw [List.map_append, cmbs_map f xs, List.map_map, List.map_map]
    rfl
theorem mem_cmbs_lt {α : Type} : ∀ (xs : List α) (p : α × α), p ∈ cmbs xs → p.1 ∈ xs ∧ p.2 ∈ xs
  | x :: xs, p, h => by
    rcases List.mem_append.mp h with h | h
    · obtain ⟨y, hy, rfl⟩ := List.mem_map.mp h
      exact ⟨List.mem_cons_self, List.mem_cons_of_mem _ hy⟩
    · have := mem_cmbs_lt xs p h
      exact ⟨List.mem_cons_of_mem _ this.1, List.mem_cons_of_mem _ this.2⟩
def nx2 (n : Nat) (p : Nat × Nat) : Option (Nat × Nat) :=
  if p.2 ≠ n - 1 then some (p.1, p.2 + 1) else if p.1 ≠ n - 2 then some (p.1 + 1, p.1 + 2) else none
theorem nx2_run {n : Nat} : ∀ (m a k : Nat) (p : Nat × Nat), a + m = n → (cmbs (List.range' a m))[k]? = some p → nx2 n p = (cmbs (List.range' a m))[k + 1]?
  | 0, a, k, p, _, h => by cases h
  | m + 1, a, k, p, e, h => by
    have e1 : cmbs (List.range' a (m + 1)) = (List.range' (a + 1) m).map (fun y => (a, y)) ++ cmbs (List.range' (a + 1) m) := by
      rw [List.range'_succ] <;> rfl
    rw [e1] at h ⊢
    have hl : ((List.range' (a + 1) m).map fun y => (a, y)).length = m := by rw [List.length_map, List.length_range']
    by_cases hk : k < m
    · rw [List.getElem?_append_left (by rw [hl]; exact hk), List.getElem?_map, List.getElem?_range' hk] at h
      have hp : p = (a, a + 1 + 1 * k) := (Option.some.inj h).symm
      subst hp
      by_cases hk1 : k + 1 < m
      · rw [List.getElem?_append_left (by rw [hl]; exact hk1), List.getElem?_map, List.getElem?_range' hk1]
        show (if a + 1 + 1 * k ≠ n - 1 then some (a, a + 1 + 1 * k + 1) else _) = _
        rw [if_pos (by omega)]
        show some (a, a + 1 + 1 * k + 1) = some (a, a + 1 + 1 * (k + 1))
        congr 2
      · rw [List.getElem?_append_right (by rw [hl]; omega), hl]
        have ek : k + 1 - m = 0 := by omega
        rw [ek]
        show (if a + 1 + 1 * k ≠ n - 1 then _ else if a ≠ n - 2 then some (a + 1, a + 2) else none) = _
        rw [if_neg (by omega)]
        by_cases hm : m = 1
        · subst hm
          rw [if_neg (by omega)] <;> rfl
        · rw [if_pos (by omega)]
          obtain ⟨m2, rfl⟩ : ∃ m2, m = m2 + 2 := ⟨m - 2, by omega⟩
          rw [List.range'_succ, List.range'_succ] <;> rfl
    · rw [List.getElem?_append_right (by rw [hl]; omega), hl] at h
      rw [List.getElem?_append_right (by rw [hl]; omega), hl, show k + 1 - m = k - m + 1 by omega]
      exact nx2_run m (a + 1) (k - m) p (by omega) h
theorem nx2_at {n k : Nat} {p : Nat × Nat} (h : (cmbs (List.range n))[k]? = some p) : nx2 n p = (cmbs (List.range n))[k + 1]? := by
  rw [List.range_eq_range'] at h ⊢
  exact nx2_run n 0 k p (by omega) h
theorem cmbs_first {n : Nat} (h : 2 ≤ n) : (cmbs (List.range n))[0]? = some (0, 1) := by
  obtain ⟨m, rfl⟩ : ∃ m, n = m + 2 := ⟨n - 2, by omega⟩
  rw [List.range_eq_range', List.range'_succ, List.range'_succ] <;> rfl
theorem cmbs_none {n : Nat} (h : n < 2) : cmbs (List.range n) = [] := by
  match n, h with
  | 0, _ => rfl
  | 1, _ => rfl
theorem map_range_get {α : Type} (d : α) (xs : List α) : (List.range xs.length).map (fun i => xs.getD i d) = xs := by
  apply List.ext_getElem?
  intro i
  rw [List.getElem?_map]
  by_cases h : i < xs.length
  · rw [List.getElem?_range h, List.getElem?_eq_getElem h]
    show some (xs.getD i d) = _
    rw [List.getD_eq_getElem?_getD, List.getElem?_eq_getElem h] <;> rfl
  · rw [List.getElem?_eq_none (by rw [List.length_range]; omega), List.getElem?_eq_none (by omega)] <;> rfl
theorem cmbs_ix {α : Type} (d : α) (xs : List α) : cmbs xs = (cmbs (List.range xs.length)).map fun p => (xs.getD p.1 d, xs.getD p.2 d) := by
  exact (congrArg cmbs (map_range_get d xs)).symm.trans (cmbs_map _ _)
theorem cmbs_len {α : Type} (xs : List α) : (cmbs xs).length = (cmbs (List.range xs.length)).length := by
  cases xs with
  | nil => rfl
  | cons x xs => rw [cmbs_ix x, List.length_map]
end CpCmb
namespace CpCmb
open PySem PySem.Spec
open Sem (wp)
theorem mro_cmb : mroOf (.type "itertools.combinations") = pure [.type "itertools.combinations", .type "object"] := by rw [mroOf_type]; kernel_rfl
theorem lookup_cmb_new : typeLookup (.type "itertools.combinations") "__new__" = pure (some (.builtin "itertools.combinations.__new__")) := by rw [typeLookup_type, builtinLookup_eq_fast]; kernel_rfl
theorem slot_cmb_init : Slot "itertools.combinations" "__init__" "object.__init__" :=
  .of (owner := "object") (n := "__init__") (by rw [typeLookup_type, builtinLookup_eq_fast]; kernel_rfl) (by decide +kernel) (by decide +kernel) (by decide +kernel)
    (by first | exact .inl (by decide +kernel) | exact .inr (by decide +kernel)) (by rw [isSubtype_type]; kernel_rfl)
theorem sub_cmb : isSubtype (.type "itertools.combinations") (.type "itertools.combinations") = pure true := by rw [isSubtype_type]; kernel_rfl
theorem called_cmb : TypeCalled "itertools.combinations" "itertools.combinations.__new__" "object.__init__" :=
  ⟨by decide +kernel, by decide +kernel, ⟨_, _, mro_cmb⟩, madeBy_type mro_cmb lookup_cmb_new (by decide +kernel), by decide +kernel, sub_cmb, slot_cmb_init⟩
theorem plain_cmb_new : plainId "itertools.combinations.__new__" = true := by decide +kernel
theorem typeCall_cmb_2 (a b : Value) : checkTypeCall "itertools.combinations" ⟨[a, b], []⟩ = pure () := by kernel_rfl
theorem newCall_cmb_2 (a b : Value) : checkBuiltinCall "itertools.combinations.__new__" ⟨[.type "itertools.combinations", a, b], []⟩ = pure () := by kernel_rfl
theorem entry_cmb_new : entryFor table "itertools.combinations.__new__" = some Builtin.«itertools.combinations.__new__» := entryFor_of_tree (by kernel_rfl)
theorem slot_cmb_iter : Slot "itertools.combinations" "__iter__" "itertools.combinations.__iter__" :=
  .of (owner := "itertools.combinations") (n := "__iter__") (by rw [typeLookup_type, builtinLookup_eq_fast]; kernel_rfl) (by decide +kernel) (by decide +kernel) (by decide +kernel)
    (by first | exact .inl (by decide +kernel) | exact .inr (by decide +kernel)) sub_cmb
theorem slot_cmb_next : Slot "itertools.combinations" "__next__" "itertools.combinations.__next__" :=
  .of (owner := "itertools.combinations") (n := "__next__") (by rw [typeLookup_type, builtinLookup_eq_fast]; kernel_rfl) (by decide +kernel) (by decide +kernel) (by decide +kernel)
    (by first | exact .inl (by decide +kernel) | exact .inr (by decide +kernel)) sub_cmb
theorem entry_cmb_iter : entryFor table "itertools.combinations.__iter__" = some Builtin.«dict_keyiterator.__iter__» :=
  entryFor_alias (id' := "dict_keyiterator.__iter__") (by kernel_rfl) (by first | rfl | decide +kernel | (unfold String.splitOn; simp +decide [String.splitOnAux])) (by decide +kernel) (by kernel_rfl)
theorem entry_cmb_next : entryFor table "itertools.combinations.__next__" = some Builtin.«itertools.combinations.__next__» := entryFor_of_tree (by kernel_rfl)
theorem owner_cmb : Manifest.owners.lookup (String.ofList ['s', 'n', 'o', 'i', 't', 'a', 'n', 'i', 'b', 'm', 'o', 'c', '.', 's', 'l', 'o', 'o', 't', 'r', 'e', 't', 'i'].reverse) = some Manifest.sig_itertools_combinations := by kernel_rfl
theorem args_cmb_iter (a : Value) : argsOk "itertools.combinations.__iter__" ⟨[a], []⟩ := by
  unfold argsOk; rw [signature?_of (id := "itertools.combinations.__iter__") (n := ['_', '_', 'r', 'e', 't', 'i', '_', '_']) (o := ['s', 'n', 'o', 'i', 't', 'a', 'n', 'i', 'b', 'm', 'o', 'c', '.', 's', 'l', 'o', 'o', 't', 'r', 'e', 't', 'i']) (by kernel_rfl) owner_cmb]; kernel_rfl
theorem args_cmb_next (a : Value) : argsOk "itertools.combinations.__next__" ⟨[a], []⟩ := by
  unfold argsOk; rw [signature?_of (id := "itertools.combinations.__next__") (n := ['_', '_', 't', 'x', 'e', 'n', '_', '_']) (o := ['s', 'n', 'o', 'i', 't', 'a', 'n', 'i', 'b', 'm', 'o', 'c', '.', 's', 'l', 'o', 'o', 't', 'r', 'e', 't', 'i']) (by kernel_rfl) owner_cmb]; kernel_rfl
theorem noDict_cmb : typeHasDict (.type "itertools.combinations") = false := by decide +kernel

/-- the object: the tuple it goes over, where it stands (0 new, 1 going, 2 at its end), the last result, the two numbers -/
abbrev IsCmb (h : Heap) (it pool : Addr) (st : Int) (last : Value) (i j : Nat) : Prop := h.get? it = some { cls := .type "itertools.combinations", dict := none, data := .fields #[.ref pool, .int st 0, last, .int i 0, .int j 0], slots := #[] }
abbrev IsPool (h : Heap) (pool : Addr) (vs : Array Value) : Prop := h.get? pool = some { cls := .type "tuple", data := .seq vs }
section
variable {prog : Program} {w : World} {A : Around} {E : Value → Shared → Prop} {s : Shared}
theorem code_cmb_new {l : Addr} {vs : List Value} {t : Tok} {Q₁ : Value → Shared → Prop} (hl : s.heap.IsList l vs.toArray) (hsz : vs.length ≤ sizeLine)
    (h : ∀ h' it pool, s.heap.objs.size ≤ pool → s.heap.objs.size ≤ it → pool ≠ it → IsPool h' pool vs.toArray → IsCmb h' it pool (if 2 > vs.length then 2 else 0) .none 0 1 → (∀ b o, s.heap.get? b = some o → h'.get? b = some o) → Q₁ (.ref it) { s with heap := h' }) :
    codeAny (model prog w) A (.call (.builtin "itertools.combinations.__new__") ⟨[.type "itertools.combinations", .ref l, .int 2 t], []⟩) (wants Q₁ E) s := by
  refine codeAny_of_tree ?_
  show wpAny _ A.in1 (do checkBuiltinCall "itertools.combinations.__new__" ⟨[.type "itertools.combinations", .ref l, .int 2 t], []⟩; again (.builtin "itertools.combinations.__new__" ⟨[.type "itertools.combinations", .ref l, .int 2 t], []⟩)) _ _ s
  refine wpAny_bind (wpAny_of_eq (newCall_cmb_2 _ _) (wpAny_pure ⟨plainId_quiet plain_cmb_new _, codeAny_builtin entry_cmb_new ?_⟩))
  rw [Around.under_plainId plain_cmb_new _]
  have hsub := sub_cmb
  have hd := noDict_cmb
  obtain ⟨hp, g, dd, tk, os⟩ := s
  have hcol : ∀ (A : Around) (E : Value → Shared → Prop) (Q : List Value → Shared → Prop), Q vs { heap := (hp.push (PyProof.Rows.seqObj "list" #[] 0)).update hp.objs.size (Obj.mapSeq (· ++ vs.toArray)), gens := g, drawn := dd, toks := tk, os := os } → wpAny (model prog w) A (collect (.ref l)) Q E ⟨hp, g, dd, tk, os⟩ :=
    fun A E Q q => PyProof.Rows.collect_list hl q hsz
  have hcat : ("itertools." ++ "combinations" : String) = "itertools.combinations" := by decide +kernel
  refine wpAny_bind ?_
  show wpAny _ _ (Builtin.Itertools.itClassAndRest "combinations" _ >>= _) _ _ _
  refine wpAny_bind ?_
  unfold Builtin.Itertools.itClassAndRest
  simp only [hcat]
  repeat (first
    | (refine hcol _ _ _ ?_)
    | wp_step
    | simp only [List.head?_cons, Option.some_or, List.getElem?_cons_succ, List.getElem?_cons_zero, List.length_cons, List.length_nil, List.forIn_nil])
  have hz : ∀ (h : Heap) (a : Addr) (f : Obj → Obj), (h.update a f).objs.size = h.objs.size := fun h a f => by
    unfold Heap.update
    simp
  refine h _ _ ((hp.push (PyProof.Rows.seqObj "list" #[] 0)).update hp.objs.size (Obj.mapSeq (· ++ vs.toArray))).objs.size ?_ ?_ ?_ (Heap.get?_push_of_some _ (Heap.get?_push_size _ rfl)) (Heap.get?_push_size _ rfl) fun b o e => ?_
  · rw [hz, Heap.size_push]
    exact Nat.le_succ _
  · rw [Heap.size_push, hz, Heap.size_push]
    show hp.objs.size ≤ _
    omega
  · rw [Heap.size_push]
    omega
  · refine Heap.get?_push_of_some _ (Heap.get?_push_of_some _ ?_)
    exact (Heap.get?_update_other _ _ (Nat.ne_of_gt (Heap.lt_size e))).trans (Heap.get?_push_of_some _ e)
theorem call_cmb {l : Addr} {vs : List Value} {t : Tok} {Q : Value → Shared → Prop} (hl : s.heap.IsList l vs.toArray) (hsz : vs.length ≤ sizeLine)
    (h : ∀ h' it pool, s.heap.objs.size ≤ pool → s.heap.objs.size ≤ it → pool ≠ it → IsPool h' pool vs.toArray → IsCmb h' it pool (if 2 > vs.length then 2 else 0) .none 0 1 → (∀ b o, s.heap.get? b = some o → h'.get? b = some o) → Q (.ref it) { s with heap := h' }) :
    wpAny (model prog w) A (call (.type "itertools.combinations") [.ref l, .int 2 t]) Q E s := by
  refine callType_codes (Q₁ := fun obj s₁ => s₁.TypeIs obj "itertools.combinations" ∧ Q obj s₁) called_cmb (typeCall_cmb_2 _ _) F.entry_object_init
    (code_cmb_new (A := A.in1) hl hsz fun h' it pool e1 e2 e3 hp hc hk => ⟨⟨_, hc, rfl⟩, h h' it pool e1 e2 e3 hp hc hk⟩) fun obj s₁ h₁ => ?_
  exact ⟨h₁.1, F.args_object_init_3 obj _ _, object_init_meets called_cmb.init.lookup called_cmb.made (by decide) prog w A.in1 _ s₁ ⟨h₁.1, rfl, h₁.2⟩⟩
theorem iter_cmb {it pool : Addr} {st : Int} {last : Value} {i j : Nat} {Q : Value → Shared → Prop} (hit : IsCmb s.heap it pool st last i j) (h : Q (.ref it) s) : wpAny (model prog w) A (pyIter (.ref it)) Q E s := by
  have hT : s.TypeIs (.ref it) "itertools.combinations" := ⟨_, hit, rfl⟩
  refine wpAny_pyIter_slot hT slot_cmb_iter (wpAny_call_entry slot_cmb_iter hT entry_cmb_iter ?_ (args_cmb_iter _))
  show wpAny _ _ (ret (.ref it)) _ _ s
  exact wpAny_pure ⟨_, rfl, "itertools.combinations", _, hT, slot_cmb_next.lookup, h⟩
/-- what is handed out -/
theorem next_cmb_0 {it pool : Addr} {vs : Array Value} {x y : Value} {last : Value} {i j : Nat} {Q : Option Value → Shared → Prop} (hne : pool ≠ it) (hit : IsCmb s.heap it pool 0 last i j) (hp : IsPool s.heap pool vs) (hx : vs.getD i .none = x) (hy : vs.getD j .none = y)
    (hQ : ∀ h', IsCmb h' it pool 1 (.ref s.heap.objs.size) i j → h'.get? s.heap.objs.size = some { cls := .type "tuple", data := .seq #[x, y] } → (∀ b o, b ≠ it → s.heap.get? b = some o → h'.get? b = some o) → Q (some (.ref s.heap.objs.size)) { s with heap := h' }) :
    wpAny (model prog w) A (pyNext (.ref it)) Q E s := by
  have hT : s.TypeIs (.ref it) "itertools.combinations" := ⟨_, hit, rfl⟩
  unfold pyNext
  refine wpAny_bind (wpAny_attempt (wpAny_callSpecial?_slot (name := Str.ofString "__next__") hT slot_cmb_next (wpAny_call_entry slot_cmb_next hT entry_cmb_next ?_ (args_cmb_next _))))
  show wpAny _ _ (field (.ref it) 0 >>= _) _ _ s
  refine wpAny_bind (wpAny_field hit rfl (x := .ref pool) rfl ?_)
  refine wpAny_bind ?_
  show wpAny _ _ (load it >>= _) _ _ s
  refine wpAny_bind (wpAny_load hit (wpAny_pure ?_))
  refine wpAny_bind ?_
  show wpAny _ _ (field (.ref it) 1 >>= _) _ _ s
  refine wpAny_bind (wpAny_field hit rfl (x := .int 0 0) rfl (wpAny_pure ?_))
  show wpAny _ _ (setField (.ref it) 1 (rawInt 1) >>= _) _ _ s
  refine wpAny_bind (wpAny_setField_rec hit (by simp) fun h₁ hit₁ hs₁ => ?_)
  replace hit₁ : IsCmb h₁ it pool 1 last i j := hit₁
  have hp₁ : IsPool h₁ pool vs := (hs₁.2 _ hne).trans hp
  refine wpAny_bind ?_
  show wpAny _ _ (Builtin.Itertools.itPoolItems (.ref pool) >>= _) _ _ _
  refine wpAny_bind ?_
  show wpAny _ _ (seqItems? (.ref pool) >>= _) _ _ _
  refine wpAny_bind (wpAny_seqItems hp₁ rfl (wpAny_pure ?_))
  show wpAny _ _ (newTuple [vs.getD i .none, vs.getD j .none]) _ _ _
  rw [hx, hy]
  refine wpAny_newTuple ?_ (by show 2 ≤ sizeLine; decide)
  have hit₂ : IsCmb (h₁.push { cls := .type "tuple", data := .seq #[x, y] }) it pool 1 last i j := Heap.get?_push_of_some _ hit₁
  refine wpAny_bind (wpAny_field hit₂ rfl (x := last) rfl ?_)
  refine wpAny_bind (wpAny_setField_rec hit₂ (by simp) fun h₃ hit₃ hs₃ => ?_)
  have hsz : h₁.objs.size = s.heap.objs.size := hs₁.1
  have hlt : it < s.heap.objs.size := Heap.lt_size hit
  refine wpAny_bind (wpAny_letGo ?_)
  refine wpAny_pure ⟨_, rfl, wpAny_pure ?_⟩
  show Q (some (.ref h₁.objs.size)) _
  rw [hsz]
  refine hQ h₃ ?_ ?_ fun b o hb e => ?_
  · replace hit₃ : IsCmb h₃ it pool 1 (.ref h₁.objs.size) i j := hit₃
    rw [← hsz]
    exact hit₃
  · rw [← hsz]
    exact (hs₃.2 _ (by rw [hsz]; exact Nat.ne_of_gt hlt)).trans (Heap.get?_push_size _ rfl)
  · exact (hs₃.2 _ hb).trans (Heap.get?_push_of_some _ ((hs₁.2 _ hb).trans e))
def nc (n : Nat) (indices : List Nat) : Option (List Nat) :=
  let r := indices.length
  match (List.range r).reverse.find? fun i => indices.getD i 0 != i + n - r with
  | none => none
  | some i => some (indices.take i ++ (List.range (r - i)).map (indices.getD i 0 + 1 + ·))
theorem nc_eq {n i j : Nat} (h : 2 ≤ n) : nc n [i, j] = (nx2 n (i, j)).map fun p => [p.1, p.2] := by
  have er : (List.range 2).reverse = [1, 0] := by decide
  have e1 : (1 + n - 2) = n - 1 := by omega
  have e0 : (0 + n - 2) = n - 2 := by omega
  show (match (List.range 2).reverse.find? fun k => [i, j].getD k 0 != k + n - 2 with
    | none => none
    | some k => some ([i, j].take k ++ (List.range (2 - k)).map ([i, j].getD k 0 + 1 + ·))) = _
  rw [er]
  unfold nx2
  by_cases h1 : j = n - 1
  · have b1 : ([i, j].getD 1 0 != 1 + n - 2) = false := by
      show (j != 1 + n - 2) = false
      rw [e1, h1]
      exact bne_self_eq_false _
    by_cases h2 : i = n - 2
    · have b2 : ([i, j].getD 0 0 != 0 + n - 2) = false := by
        show (i != 0 + n - 2) = false
        rw [e0, h2]
        exact bne_self_eq_false _
      rw [List.find?_cons, b1]
      dsimp only
      rw [List.find?_cons, b2]
      dsimp only
      rw [if_neg (by simpa using h1), if_neg (by simpa using h2)] <;> rfl
    · have b2 : ([i, j].getD 0 0 != 0 + n - 2) = true := by
        show (i != 0 + n - 2) = true
        rw [e0]
        exact bne_iff_ne.mpr h2
      rw [List.find?_cons, b1]
      dsimp only
      rw [List.find?_cons, b2]
      dsimp only
      rw [if_neg (by simpa using h1), if_pos (by simpa using h2)] <;> rfl
  · have b1 : ([i, j].getD 1 0 != 1 + n - 2) = true := by
      show (j != 1 + n - 2) = true
      rw [e1]
      exact bne_iff_ne.mpr h1
    rw [List.find?_cons, b1]
    dsimp only
    rw [if_pos (by simpa using h1)] <;> rfl
theorem next_cmb_1 {it pool : Addr} {vs : Array Value} {x y : Value} {last : Value} {i j i' j' : Nat} {Q : Option Value → Shared → Prop} (hne : pool ≠ it) (hit : IsCmb s.heap it pool 1 last i j) (hp : IsPool s.heap pool vs) (h2 : 2 ≤ vs.size) (hn : nx2 vs.size (i, j) = some (i', j')) (hx : vs.getD i' .none = x) (hy : vs.getD j' .none = y)
    (hQ : ∀ h', IsCmb h' it pool 1 (.ref s.heap.objs.size) i' j' → h'.get? s.heap.objs.size = some { cls := .type "tuple", data := .seq #[x, y] } → (∀ b o, b ≠ it → s.heap.get? b = some o → h'.get? b = some o) → Q (some (.ref s.heap.objs.size)) { s with heap := h' }) :
    wpAny (model prog w) A (pyNext (.ref it)) Q E s := by
  have hT : s.TypeIs (.ref it) "itertools.combinations" := ⟨_, hit, rfl⟩
  unfold pyNext
  refine wpAny_bind (wpAny_attempt (wpAny_callSpecial?_slot (name := Str.ofString "__next__") hT slot_cmb_next (wpAny_call_entry slot_cmb_next hT entry_cmb_next ?_ (args_cmb_next _))))
  show wpAny _ _ (field (.ref it) 0 >>= _) _ _ s
  refine wpAny_bind (wpAny_field hit rfl (x := .ref pool) rfl ?_)
  refine wpAny_bind ?_
  show wpAny _ _ (load it >>= _) _ _ s
  refine wpAny_bind (wpAny_load hit (wpAny_pure ?_))
  refine wpAny_bind ?_
  show wpAny _ _ (field (.ref it) 1 >>= _) _ _ s
  refine wpAny_bind (wpAny_field hit rfl (x := .int 1 0) rfl (wpAny_pure ?_))
  show wpAny _ _ (Builtin.Itertools.itPoolItems (.ref pool) >>= _) _ _ _
  refine wpAny_bind ?_
  show wpAny _ _ (seqItems? (.ref pool) >>= _) _ _ _
  refine wpAny_bind (wpAny_seqItems hp rfl (wpAny_pure ?_))
  have hnc : nc vs.size [i, j] = some [i', j'] := by rw [nc_eq h2, hn] <;> rfl
  split
  case h_2 hq => exact absurd (hq.symm.trans hnc) (by simp)
  case h_1 next hq =>
  have en : next = [i', j'] := Option.some.inj (hq.symm.trans hnc)
  subst en
  refine wpAny_bind ?_
  show wpAny _ _ (Builtin.Itertools.itSetNumbersFrom (.ref it) 3 [i', j']) _ _ _
  unfold Builtin.Itertools.itSetNumbersFrom
  try dsimp only
  refine wpAny_updateFields hit rfl ?_ (by rw [Array.size_append]; show _ ≤ sizeLine + 3; simp; decide)
  have hit₁ : IsCmb (s.heap.update it (Obj.mapFields fun fs => fs.extract 0 3 ++ (List.map (fun (n : Nat) => rawInt n) [i', j']).toArray)) it pool 1 last i' j' := by
    refine (Heap.get?_update_self _ hit rfl).trans ?_
    rfl
  have hs₁ : Heap.SameBut it s.heap (s.heap.update it (Obj.mapFields fun fs => fs.extract 0 3 ++ (List.map (fun (n : Nat) => rawInt n) [i', j']).toArray)) := Heap.SameBut.update ..
  generalize s.heap.update it (Obj.mapFields fun fs => fs.extract 0 3 ++ (List.map (fun (n : Nat) => rawInt n) [i', j']).toArray) = h₁ at hit₁ hs₁
  have hp₁ : IsPool h₁ pool vs := (hs₁.2 _ hne).trans hp
  refine wpAny_bind ?_
  show wpAny _ _ (Builtin.Itertools.itPoolItems (.ref pool) >>= _) _ _ _
  refine wpAny_bind ?_
  show wpAny _ _ (seqItems? (.ref pool) >>= _) _ _ _
  refine wpAny_bind (wpAny_seqItems hp₁ rfl (wpAny_pure ?_))
  show wpAny _ _ (newTuple [vs.getD i' .none, vs.getD j' .none]) _ _ _
  rw [hx, hy]
  refine wpAny_newTuple ?_ (by show 2 ≤ sizeLine; decide)
  have hit₂ : IsCmb (h₁.push { cls := .type "tuple", data := .seq #[x, y] }) it pool 1 last i' j' := Heap.get?_push_of_some _ hit₁
  refine wpAny_bind (wpAny_field hit₂ rfl (x := last) rfl ?_)
  refine wpAny_bind (wpAny_setField_rec hit₂ (by simp) fun h₃ hit₃ hs₃ => ?_)
  have hsz : h₁.objs.size = s.heap.objs.size := hs₁.1
  have hlt : it < s.heap.objs.size := Heap.lt_size hit
  refine wpAny_bind (wpAny_letGo ?_)
  refine wpAny_pure ⟨_, rfl, wpAny_pure ?_⟩
  show Q (some (.ref h₁.objs.size)) _
  rw [hsz]
  refine hQ h₃ ?_ ?_ fun b o hb e => ?_
  · replace hit₃ : IsCmb h₃ it pool 1 (.ref h₁.objs.size) i' j' := hit₃
    rw [← hsz]
    exact hit₃
  · rw [← hsz]
    exact (hs₃.2 _ (by rw [hsz]; exact Nat.ne_of_gt hlt)).trans (Heap.get?_push_size _ rfl)
  · exact (hs₃.2 _ hb).trans (Heap.get?_push_of_some _ ((hs₁.2 _ hb).trans e))
theorem stop_cmb {it : Addr} {Q : Option Value → Shared → Prop} (hh : A.handled = none) (hQ : ∀ h', (∀ b o, b ≠ it → s.heap.get? b = some o → h'.get? b = some o) → Q none { s with heap := h' }) :
    wpAny (model prog w) A.in1 (Builtin.Itertools.itStop (α := Fin)) (fun fin s' => ∃ v, fin = Fin.done (Flow.ret v) ∧ wpAny (model prog w) A (match (Except.ok (some v) : Except Value (Option Value)) with
      | Except.ok (some v) => pure (some v)
      | Except.ok none => unsupported "iter:the-iterator's-class-has-lost-its-__next__-amid-the-walk"
      | Except.error e => do
        let __do_lift ← isInstance e (Value.type "StopIteration")
        if __do_lift = true then pure none else throw e) Q E s')
      (fun e s' => wpAny (model prog w) A (match (Except.error e : Except Value (Option Value)) with
      | Except.ok (some v) => pure (some v)
      | Except.ok none => unsupported "iter:the-iterator's-class-has-lost-its-__next__-amid-the-walk"
      | Except.error e => do
        let __do_lift ← isInstance e (Value.type "StopIteration")
        if __do_lift = true then pure none else throw e) Q E s') s := by
  unfold Builtin.Itertools.itStop
  show wpAny _ _ (newExc (.type "StopIteration") [] >>= _) _ _ _
  refine wpAny_bind ?_
  simp only [newExc, newTuple]
  refine wpAny_bind (wpAny_newObj_type ?_ (by size_fits))
  refine wpAny_bind (m := firstArgMember _ _) (wpAny_of_eq (a := Value.none) (by first | rfl | (simp only [firstArgMember]; rfl)) ?_)
  refine wpAny_newObj_type ?_ (by size_fits)
  simp only [raiseNew]
  refine wpAny_bind (wpAny_handled ?_)
  first | rw [show A.in1.handled = none from hh] | rw [hh]
  refine wpAny_bind (wpAny_pure (wpAny_throw ?_))
  refine wpAny_bind (wpAny_isInstance (T := "StopIteration") (b := true) ⟨_, Heap.get?_push_size _ rfl, rfl⟩ isSubtype_stop ?_)
  refine wpAny_pure (hQ _ ?_)
  exact fun b o _ e => Heap.get?_push_of_some _ (Heap.get?_push_of_some _ e)
theorem next_cmb_end {it pool : Addr} {vs : Array Value} {last : Value} {i j : Nat} {Q : Option Value → Shared → Prop} (hh : A.handled = none) (hne : pool ≠ it) (hit : IsCmb s.heap it pool 1 last i j) (hp : IsPool s.heap pool vs) (h2 : 2 ≤ vs.size) (hn : nx2 vs.size (i, j) = none)
    (hQ : ∀ h', (∀ b o, b ≠ it → s.heap.get? b = some o → h'.get? b = some o) → Q none { s with heap := h' }) :
    wpAny (model prog w) A (pyNext (.ref it)) Q E s := by
  have hT : s.TypeIs (.ref it) "itertools.combinations" := ⟨_, hit, rfl⟩
  unfold pyNext
  refine wpAny_bind (wpAny_attempt (wpAny_callSpecial?_slot (name := Str.ofString "__next__") hT slot_cmb_next (wpAny_call_entry slot_cmb_next hT entry_cmb_next ?_ (args_cmb_next _))))
  show wpAny _ _ (field (.ref it) 0 >>= _) _ _ s
  refine wpAny_bind (wpAny_field hit rfl (x := .ref pool) rfl ?_)
  refine wpAny_bind ?_
  show wpAny _ _ (load it >>= _) _ _ s
  refine wpAny_bind (wpAny_load hit (wpAny_pure ?_))
  refine wpAny_bind ?_
  show wpAny _ _ (field (.ref it) 1 >>= _) _ _ s
  refine wpAny_bind (wpAny_field hit rfl (x := .int 1 0) rfl (wpAny_pure ?_))
  show wpAny _ _ (Builtin.Itertools.itPoolItems (.ref pool) >>= _) _ _ _
  refine wpAny_bind ?_
  show wpAny _ _ (seqItems? (.ref pool) >>= _) _ _ _
  refine wpAny_bind (wpAny_seqItems hp rfl (wpAny_pure ?_))
  have hnc : nc vs.size [i, j] = none := by rw [nc_eq h2, hn] <;> rfl
  split
  case h_1 next hq => exact absurd (hq.symm.trans hnc) (by simp)
  refine wpAny_bind (wpAny_setField_rec hit (by simp) fun h₁ hit₁ hs₁ => ?_)
  exact stop_cmb hh fun h' hk => hQ h' fun b o hb e => hk b o hb ((hs₁.2 _ hb).trans e)
theorem next_cmb_end2 {it pool : Addr} {last : Value} {i j : Nat} {Q : Option Value → Shared → Prop} (hh : A.handled = none) (hit : IsCmb s.heap it pool 2 last i j)
    (hQ : ∀ h', (∀ b o, b ≠ it → s.heap.get? b = some o → h'.get? b = some o) → Q none { s with heap := h' }) :
    wpAny (model prog w) A (pyNext (.ref it)) Q E s := by
  have hT : s.TypeIs (.ref it) "itertools.combinations" := ⟨_, hit, rfl⟩
  unfold pyNext
  refine wpAny_bind (wpAny_attempt (wpAny_callSpecial?_slot (name := Str.ofString "__next__") hT slot_cmb_next (wpAny_call_entry slot_cmb_next hT entry_cmb_next ?_ (args_cmb_next _))))
  show wpAny _ _ (field (.ref it) 0 >>= _) _ _ s
  refine wpAny_bind (wpAny_field hit rfl (x := .ref pool) rfl ?_)
  refine wpAny_bind ?_
  show wpAny _ _ (load it >>= _) _ _ s
  refine wpAny_bind (wpAny_load hit (wpAny_pure ?_))
  refine wpAny_bind ?_
  show wpAny _ _ (field (.ref it) 1 >>= _) _ _ s
  refine wpAny_bind (wpAny_field hit rfl (x := .int 2 0) rfl (wpAny_pure ?_))
  refine wpAny_bind (wpAny_rule ?_)
  exact stop_cmb hh hQ
end
end CpCmb
namespace L2
open PySem PySem.Spec PyProof.Rows
/-- the told pairs, each in a new tuple -/
def Itcm (ps : List (V × V)) : It :=
  ⟨fun i _ => i < ps.length, fun i H v H' => ∃ T x y, v = .ref T ∧ H T = none ∧ H' = upd H T (.tup [x, y]) ∧ ps[i]? = some (x, y), fun i _ => ps.length ≤ i⟩
/-- where the object stands ahead of turn k, n things in its tuple -/
def CmbAt (it pool : Addr) (vs : List Value) (k : Nat) (h : Heap) : Prop :=
  pool ≠ it ∧ CpCmb.IsPool h pool vs.toArray ∧ ∃ last i j, (k = 0 ∧ (i = 0 ∧ j = 1) ∧ CpCmb.IsCmb h it pool (if 2 > vs.length then 2 else 0) last i j) ∨ (∃ k', k = k' + 1 ∧ (CpCmb.cmbs (List.range vs.length))[k']? = some (i, j) ∧ CpCmb.IsCmb h it pool 1 last i j)
theorem turn_cmb {P : Program} {w : World} {K : PySem.W.Frag} {tg : Expr} {xs : List V} {vs : List Value} (rv : Vals xs vs) (it pool : Addr) :
    Turn P w K tg (Itcm (CpCmb.cmbs xs)) [it, pool] it (fun k h => CmbAt it pool vs k h) where
  mem := by simp
  obj := fun k h st b hb => by
    obtain ⟨hne, hp, last, i, j, hc⟩ := st
    have hi : ∃ st, CpCmb.IsCmb h it pool st last i j := by
      rcases hc with ⟨_, _, hc⟩ | ⟨_, _, _, hc⟩
      · exact ⟨_, hc⟩
      · exact ⟨_, hc⟩
    obtain ⟨st, hi⟩ := hi
    have e' : b = it ∨ b = pool := by simpa using hb
    rcases e' with z | z
    · rw [z]; exact ⟨_, hi, fun v q => nomatch q⟩
    · rw [z]; exact ⟨_, hp, fun v q => nomatch q⟩
  keep := fun k h h' st kk => by
    obtain ⟨hne, hp, last, i, j, hc⟩ := st
    refine ⟨hne, kk pool (by simp) _ hp, last, i, j, ?_⟩
    rcases hc with ⟨e1, e2, hc⟩ | ⟨k', e1, e2, hc⟩
    · exact .inl ⟨e1, e2, kk it (by simp) _ hc⟩
    · exact .inr ⟨k', e1, e2, kk it (by simp) _ hc⟩
  item := by
    intro X hP hw hK hc k pins s σ H E I hf st hg
    subst hP hw hK
    obtain ⟨hne, hp, last, i, j, hq⟩ := st
    have hlen : xs.length = vs.length := rv.length
    have hk : k < (CpCmb.cmbs (List.range vs.length)).length := by
      have e : k < (CpCmb.cmbs xs).length := hg
      rw [CpCmb.cmbs_len, hlen] at e
      exact e
    obtain ⟨p, hpk⟩ : ∃ p, (CpCmb.cmbs (List.range vs.length))[k]? = some p := ⟨_, List.getElem?_eq_getElem hk⟩
    obtain ⟨a, b⟩ := p
    have hmem := CpCmb.mem_cmbs_lt _ _ (List.mem_of_getElem? hpk)
    have ha : a < vs.length := List.mem_range.mp hmem.1
    have hb : b < vs.length := List.mem_range.mp hmem.2
    have h2 : 2 ≤ vs.length := by
      by_cases h2 : 2 ≤ vs.length
      · exact h2
      · rw [CpCmb.cmbs_none (by omega)] at hk
        exact absurd hk (Nat.not_lt_zero _)
    obtain ⟨u, hu, ru⟩ := rv.get (List.getElem?_eq_getElem (by omega : a < xs.length))
    obtain ⟨v, hv, rv2⟩ := rv.get (List.getElem?_eq_getElem (by omega : b < xs.length))
    have gu : vs.toArray.getD a .none = u := by
      have : vs.toArray[a]? = some u := by simpa using hu
      rw [Array.getD_eq_getD_getElem?, this] <;> rfl
    have gv : vs.toArray.getD b .none = v := by
      have : vs.toArray[b]? = some v := by simpa using hv
      rw [Array.getD_eq_getD_getElem?, this] <;> rfl
    have hxs : (CpCmb.cmbs xs)[k]? = some (xs[a], xs[b]) := by
      have hpk' : (CpCmb.cmbs (List.range xs.length))[k]? = some (a, b) := by
        rw [hlen]
        exact hpk
      rw [CpCmb.cmbs_ix V.non xs, List.getElem?_map, hpk']
      show some (xs.getD a V.non, xs.getD b V.non) = _
      rw [List.getD_eq_getElem?_getD, List.getD_eq_getElem?_getD, List.getElem?_eq_getElem (by omega : a < xs.length), List.getElem?_eq_getElem (by omega : b < xs.length)] <;> rfl
    have fin : ∀ h', CpCmb.IsCmb h' it pool 1 (.ref s.heap.objs.size) a b → h'.get? s.heap.objs.size = some { cls := .type "tuple", data := .seq #[u, v] } → (∀ c o, c ≠ it → s.heap.get? c = some o → h'.get? c = some o) →
        ∃ u', some (Value.ref s.heap.objs.size) = some u' ∧ wpAny (model X.prog X.w) X.A (letOwnedTupleGo tg (.ref it) u') (fun _ s2 => ∃ x H', Inv X pins σ H' s2 ∧ RelV x u' ∧ (Itcm (CpCmb.cmbs xs)).yld k H x H' ∧ CmbAt it pool vs (k + 1) s2.heap ∧ ∀ b ∈ [it, pool], H' b = none) E { s with heap := h' } := by
      intro h' hit' hT hkp
      have hil : it < s.heap.objs.size := by
        rcases hq with ⟨_, _, q⟩ | ⟨_, _, _, q⟩
        · exact Heap.lt_size q
        · exact Heap.lt_size q
      have new : ObjOk X.prog X.w (upd H s.heap.objs.size (.tup [xs[a], xs[b]])) h' s.heap.objs.size (.tup [xs[a], xs[b]]) :=
        ⟨by show 2 ≤ sizeLine; decide, [u, v], .cons ru (.cons rv2 .nil), ⟨_, hT, rfl, _, rfl⟩⟩
      have I1 : Inv X pins σ (upd H s.heap.objs.size (.tup [xs[a], xs[b]])) { s with heap := h' } :=
        I.turnedNew (t' := s.toks) (ch := [it]) (fun c o hc q => hkp c o (fun z => hc (by simp [z])) q) (fun c hc => hf c (by simp at hc; simp [hc])) (Nat.le_refl _) new
      refine ⟨_, rfl, go_of (s := { s with heap := h' }) hit' rfl rfl (by decide) ⟨.ref s.heap.objs.size, _, I1, rfl, ⟨_, _, _, rfl, I.hok.fresh (Nat.le_refl _), rfl, hxs⟩, ⟨hne, hkp pool _ hne hp, _, a, b, .inr ⟨k, rfl, hpk, hit'⟩⟩, fun c hcm => ?_⟩⟩
      have hlt : c < s.heap.objs.size := by
        have e' : c = it ∨ c = pool := by simpa using hcm
        rcases e' with z | z
        · rw [z]; exact hil
        · rw [z]; exact Heap.lt_size hp
      rw [upd_ne (Nat.ne_of_lt hlt)]
      exact (hf c hcm).1
    have hvz : vs.toArray.size = vs.length := List.size_toArray
    rcases hq with ⟨e1, ⟨e2, e3⟩, q⟩ | ⟨k', e1, e2, q⟩
    · subst e1 e2 e3
      rw [if_neg (by omega)] at q
      have e4 := hpk.symm.trans (CpCmb.cmbs_first h2)
      cases e4
      exact CpCmb.next_cmb_0 hne q hp gu gv fin
    · subst e1
      have e3 := CpCmb.nx2_at e2
      rw [hpk] at e3
      exact CpCmb.next_cmb_1 hne q hp (by rw [hvz]; exact h2) (by rw [hvz]; exact e3) gu gv fin
  done := by
    intro X hP hw hK hc k pins s σ H E I hf st hg
    subst hP hw hK
    obtain ⟨hne, hp, last, i, j, hq⟩ := st
    have hlen : xs.length = vs.length := rv.length
    have hk : (CpCmb.cmbs (List.range vs.length)).length ≤ k := by
      have e : (CpCmb.cmbs xs).length ≤ k := hg
      rw [CpCmb.cmbs_len, hlen] at e
      exact e
    have hvz : vs.toArray.size = vs.length := List.size_toArray
    have fin : ∀ h', (∀ b o, b ≠ it → s.heap.get? b = some o → h'.get? b = some o) → (none : Option Value) = none ∧ Inv X pins σ H { s with heap := h' } := fun h' hkp =>
      ⟨rfl, I.turnedL (t' := s.toks) (ch := [it]) (fun c o hc q => hkp c o (fun z => hc (by simp [z])) q) (fun c hc => hf c (by simp at hc; simp [hc]))⟩
    rcases hq with ⟨e1, ⟨e2, e3⟩, q⟩ | ⟨k', e1, e2, q⟩
    · subst e1
      by_cases h2 : 2 > vs.length
      · rw [if_pos h2] at q
        exact CpCmb.next_cmb_end2 (I.ok.hd hc) q fin
      · have e4 := CpCmb.cmbs_first (n := vs.length) (by omega)
        rw [List.getElem?_eq_none hk] at e4
        cases e4
    · subst e1
      have e3 := CpCmb.nx2_at e2
      rw [List.getElem?_eq_none hk] at e3
      have h2 : 2 ≤ vs.length := by
        by_cases h2 : 2 ≤ vs.length
        · exact h2
        · rw [CpCmb.cmbs_none (by omega)] at e2
          cases e2
      exact CpCmb.next_cmb_end (I.ok.hd hc) hne q hp (by rw [hvz]; exact h2) (by rw [hvz]; exact e3) fin
  self := fun A k s Q E st h => by
    obtain ⟨hne, hp, last, i, j, hq⟩ := st
    rcases hq with ⟨_, _, q⟩ | ⟨_, _, _, q⟩
    · exact CpCmb.iter_cmb q h
    · exact CpCmb.iter_cmb q h
def iCmb (K : PySem.W.Frag) (ta : TA) : TI := fun σ H R => ta σ H fun vs H1 => ∃ a xs, vs = [.ref a, .int 2] ∧ SqL K H1 a xs ∧ R (Itcm (CpCmb.cmbs xs)) H1
theorem pi_cmb {X : Cx} {e e2 tg : Expr} {ta : TA} {p pos : Pos} (hg : Gl X "combinations") (hm : X.mg "combinations" = some (.type "itertools.combinations")) (ha : PA X [e, e2] ta)
    (hs : starEach [e, e2] X.env = (false, eval e X.env) :: starEach [e2] X.env := by rfl) (hpl : (backTo pos (starEach [e2] X.env)).any (·.1) = false := by rfl) :
    PI X tg (.Call (.Name "combinations" p) [e, e2] [] pos) (iCmb X.K ta) := by
  refine ⟨fun pins s σ H R I h => ?_⟩
  refine Call_ (ld_glob I hg hm (PyProof.Rows.callWith_type1 (thn (ha.run pos pins s σ H _ I h) fun us s1 ⟨vs, H1, I1, r1, q1⟩ => ?_) hs hpl))
  obtain ⟨a, xs, ex, hq, q⟩ := q1
  subst ex
  cases r1 with
  | cons r rr =>
    cases rr with
    | cons r2 rr =>
      cases rr
      cases r
      obtain ⟨tk, r2⟩ := r2
      subst r2
      obtain ⟨its, rv, p', hz⟩ := I1.list hq
      refine CpCmb.call_cmb p'.isList (by simpa [rv.length] using hz) fun h' it pool e1 e2 e3 hp hc hk => ?_
      have I2 : Inv X pins σ H1 { s1 with heap := h' } := I1.kept (t' := s1.toks) hk
      refine CpCmb.iter_cmb (s := { s1 with heap := h' }) hc ?_
      refine ⟨it, [it, pool], _, _, H1, rfl, I2, turn_cmb rv it pool, ⟨e3, hp, _, 0, 1, .inl ⟨rfl, ⟨rfl, rfl⟩, hc⟩⟩, fun b hb => ?_, q⟩
      have hle : s1.heap.objs.size ≤ b := by
        have e' : b = it ∨ b = pool := by simpa using hb
        rcases e' with z | z
        · rw [z]; exact e2
        · rw [z]; exact e1
      exact I1.fpOk hle (I1.hok.fresh hle)
end L2
namespace Ovc
open PySem PySem.Spec PyProof.Rows L2
/-! ### the program's way to the pairs: a matrix by ranks -/
def oA (os : List Int) (i : Nat) : Int := os.getD i 0
theorem oA_get {os : List Int} {i : Nat} (h : i < os.length) : os[i]? = some (oA os i) := by
  unfold oA
  rw [List.getD_eq_getElem?_getD, List.getElem?_eq_getElem h] <;> rfl
theorem oA_pos {os : List Int} (hn : os.Nodup) {i : Nat} (h : i < os.length) : posOf (oA os i) os = i := posOf_get hn (oA_get h)
theorem oA_of {os : List Int} {x : Int} (h : x ∈ os) : oA os (posOf x os) = x := by
  have := oA_get (pos_len h)
  rw [posOf_lt h] at this
  exact (Option.some.inj this).symm
theorem oA_map (os : List Int) : (List.range os.length).map (oA os) = os := CpCmb.map_range_get 0 os
def Lk (ls : List Lnk) (os : List Int) (t i k : Nat) : Bool := decide (i < k) && adj0 (ls.take t) (oA os i) (oA os k)
open Classical in
noncomputable def Jm (ls : List Lnk) (os : List Int) (m i k : Nat) : Bool := decide (i < k ∧ (adj0 ls (oA os i) (oA os k) = true ∨ ∃ w, w < m ∧ PairP ls os (oA os w) (oA os i) ∧ PairP ls os (oA os w) (oA os k)))
open Classical in
theorem Jm_iff {ls : List Lnk} {os : List Int} {m i k : Nat} : Jm ls os m i k = true ↔ i < k ∧ (adj0 ls (oA os i) (oA os k) = true ∨ ∃ w, w < m ∧ PairP ls os (oA os w) (oA os i) ∧ PairP ls os (oA os w) (oA os k)) := by
  unfold Jm
  rw [decide_eq_true_eq]
theorem Lk_zero {ls : List Lnk} {os : List Int} : Lk ls os 0 = fun _ _ => false := by
  funext i k
  unfold Lk
  rw [List.take_zero]
  exact Bool.and_false _
theorem Lk_end {ls : List Lnk} {os : List Int} : Lk ls os ls.length = Jm ls os 0 := by
  funext i k
  rw [Bool.eq_iff_iff, Jm_iff]
  unfold Lk
  rw [List.take_length, Bool.and_eq_true, decide_eq_true_eq]
  constructor
  · rintro ⟨h1, h2⟩
    exact ⟨h1, .inl h2⟩
  · rintro ⟨h1, h2 | ⟨w, hw, _⟩⟩
    · exact ⟨h1, h2⟩
    · exact absurd hw (Nat.not_lt_zero _)
theorem Lk_succ {ls : List Lnk} {os : List Int} {t i k : Nat} {l : Lnk} (hn : os.Nodup) (hg : ls[t]? = some l) (ha : l.a ∈ os) (hb : l.b ∈ os) (hi : i < os.length) (hk : k < os.length) :
    Lk ls os (t + 1) i k = (Lk ls os t i k || (decide (i = min (posOf l.a os) (posOf l.b os)) && decide (k = max (posOf l.a os) (posOf l.b os)) && decide (l.a ≠ l.b))) := by
  have pa := oA_of ha
  have pb := oA_of hb
  have qi := oA_pos hn hi
  have qk := oA_pos hn hk
  have e : adj0 (ls.take (t + 1)) (oA os i) (oA os k) = (adj0 (ls.take t) (oA os i) (oA os k) || decide ((l.a = oA os i ∧ l.b = oA os k) ∨ (l.a = oA os k ∧ l.b = oA os i))) := by
    unfold adj0
    rw [take_snoc hg, List.any_append, List.any_cons, List.any_nil, Bool.or_false]
  unfold Lk
  rw [e, Bool.and_or_distrib_left]
  congr 1
  rw [Bool.eq_iff_iff, Bool.and_eq_true, Bool.and_eq_true, Bool.and_eq_true, decide_eq_true_eq, decide_eq_true_eq, decide_eq_true_eq, decide_eq_true_eq, decide_eq_true_eq]
  constructor
  · rintro ⟨h1, ⟨h2, h3⟩ | ⟨h2, h3⟩⟩
    · rw [← h2] at qi
      rw [← h3] at qk
      refine ⟨⟨by omega, by omega⟩, fun z => ?_⟩
      rw [z] at qi
      omega
    · rw [← h3] at qi
      rw [← h2] at qk
      refine ⟨⟨by omega, by omega⟩, fun z => ?_⟩
      rw [z] at qk
      omega
  · rintro ⟨⟨h1, h2⟩, h3⟩
    have hne : posOf l.a os ≠ posOf l.b os := fun z => h3 (pos_inj ha hb z)
    rcases Nat.lt_or_gt_of_ne hne with h | h
    · have e1 : i = posOf l.a os := by omega
      have e2 : k = posOf l.b os := by omega
      rw [e1, e2]
      exact ⟨h, .inl ⟨pa.symm, pb.symm⟩⟩
    · have e1 : i = posOf l.b os := by omega
      have e2 : k = posOf l.a os := by omega
      rw [e1, e2]
      exact ⟨h, .inr ⟨pa.symm, pb.symm⟩⟩
section
variable {N : Net} {os : List Int} {m i k : Nat}
theorem PairP.lt (h : PairP N.ls os (oA os i) (oA os k)) (hn : os.Nodup) (hi : i < os.length) (hk : k < os.length) : i < k := by
  have := h.1
  rw [oA_pos hn hi, oA_pos hn hk] at this
  exact this
theorem Jm_row (ok : NetOk N) (oo : OrdOk N.n os) (hm : m < os.length) (hk : k < os.length) : Jm N.ls os m m k = true ↔ PairP N.ls os (oA os m) (oA os k) := by
  rw [Jm_iff, pair_rec ok oo, oA_pos oo.nodup hm, oA_pos oo.nodup hk]
  refine and_congr_right fun _ => or_congr_right ⟨fun ⟨w, _, h1, h2⟩ => ⟨_, h1, h2⟩, fun ⟨w, h1, h2⟩ => ?_⟩
  have hw : w ∈ os := oo.mem.mpr (h1.ins ok).1
  have hl := h1.1
  rw [oA_pos oo.nodup hm] at hl
  exact ⟨posOf w os, hl, by rw [oA_of hw]; exact h1, by rw [oA_of hw]; exact h2⟩
theorem aboveOf (ok : NetOk N) (oo : OrdOk N.n os) (hm : m < os.length) : ((List.range' (m + 1) (os.length - (m + 1))).filter (Jm N.ls os m m)).map (oA os) = upP N.ls os (oA os m) := by
  have e1 : upP N.ls os (oA os m) = (((List.range os.length).map (oA os)).filter fun v => @decide (PairP N.ls os (oA os m) v) (Classical.propDecidable _)) := by
    rw [oA_map]
    rfl
  have e2 : List.range os.length = List.range' 0 (m + 1) ++ List.range' (m + 1) (os.length - (m + 1)) := by
    rw [List.range_eq_range']
    have := List.range'_append_1 (s := 0) (m := m + 1) (n := os.length - (m + 1))
    rw [Nat.zero_add, show m + 1 + (os.length - (m + 1)) = os.length by omega] at this
    exact this.symm
  rw [e1, List.filter_map, e2, List.filter_append]
  have e3 : (List.range' 0 (m + 1)).filter ((fun v => @decide (PairP N.ls os (oA os m) v) (Classical.propDecidable _)) ∘ oA os) = [] := by
    rw [List.filter_eq_nil_iff]
    intro x hx h
    have hx := (List.mem_range'_1.mp hx)
    have h := @of_decide_eq_true _ (Classical.propDecidable _) h
    have := h.lt oo.nodup hm (by omega)
    omega
  rw [e3, List.nil_append]
  congr 1
  refine List.filter_congr fun x hx => ?_
  have hx := List.mem_range'_1.mp hx
  rw [Bool.eq_iff_iff, Jm_row ok oo hm (by omega)]
  exact (@decide_eq_true_iff _ (Classical.propDecidable _)).symm
theorem mem_cmbs : ∀ {l : List Nat} {p : Nat × Nat}, l.Pairwise (· < ·) → (p ∈ CpCmb.cmbs l ↔ p.1 < p.2 ∧ p.1 ∈ l ∧ p.2 ∈ l)
  | [], p, _ => ⟨fun h => (nomatch h), fun h => (nomatch h.2.1)⟩
  | x :: l, (a, b), h => by
    have h1 := List.pairwise_cons.mp h
    show (a, b) ∈ l.map (fun y => (x, y)) ++ CpCmb.cmbs l ↔ _
    rw [List.mem_append, List.mem_map, mem_cmbs h1.2]
    constructor
    · rintro (⟨y, hy, e⟩ | ⟨h2, h3, h4⟩)
      · cases e
        exact ⟨h1.1 _ hy, List.mem_cons_self, List.mem_cons_of_mem _ hy⟩
      · exact ⟨h2, List.mem_cons_of_mem _ h3, List.mem_cons_of_mem _ h4⟩
    · rintro ⟨h2, h3, h4⟩
      rcases List.mem_cons.mp h3 with e | e
      · rcases List.mem_cons.mp h4 with e2 | e2
        · exact absurd h2 (by
            show ¬ a < b
            have e : a = x := e
            have e2 : b = x := e2
            omega)
        · exact .inl ⟨b, e2, by
            have e : a = x := e
            rw [e]⟩
      · rcases List.mem_cons.mp h4 with e2 | e2
        · have := h1.1 _ e
          exact absurd h2 (by
            show ¬ a < b
            have e2 : b = x := e2
            have this : x < a := this
            omega)
        · exact .inr ⟨h2, e, e2⟩
def abv (M : Nat → Nat → Bool) (m n : Nat) : List Nat := (List.range' (m + 1) (n - (m + 1))).filter (M m)
theorem abv_asc {M : Nat → Nat → Bool} {m n : Nat} : (abv M m n).Pairwise (· < ·) := by
  unfold abv
  exact List.Pairwise.filter _ List.pairwise_lt_range'
theorem mem_abv {M : Nat → Nat → Bool} {m n x : Nat} : x ∈ abv M m n ↔ (m < x ∧ x < n) ∧ M m x = true := by
  unfold abv
  rw [List.mem_filter, List.mem_range'_1]
  constructor
  · rintro ⟨h1, h2⟩
    exact ⟨⟨by omega, by omega⟩, h2⟩
  · rintro ⟨h1, h2⟩
    exact ⟨⟨by omega, by omega⟩, h2⟩
theorem Jm_succ (ok : NetOk N) (oo : OrdOk N.n os) (hm : m < os.length) (hi : i < os.length) (hk : k < os.length) : Jm N.ls os (m + 1) i k = (Jm N.ls os m i k || decide ((i, k) ∈ CpCmb.cmbs (abv (Jm N.ls os m) m os.length))) := by
  rw [Bool.eq_iff_iff, Bool.or_eq_true, decide_eq_true_eq, mem_cmbs abv_asc, mem_abv, mem_abv, Jm_iff, Jm_iff, Jm_row ok oo hm hi, Jm_row ok oo hm hk]
  constructor
  · rintro ⟨h1, h2 | ⟨w, hw, h2, h3⟩⟩
    · exact .inl ⟨h1, .inl h2⟩
    · by_cases e : w = m
      · subst e
        exact .inr ⟨h1, ⟨⟨h2.lt oo.nodup hm hi, hi⟩, h2⟩, ⟨h3.lt oo.nodup hm hk, hk⟩, h3⟩
      · exact .inl ⟨h1, .inr ⟨w, by omega, h2, h3⟩⟩
  · rintro (⟨h1, h2 | ⟨w, hw, h2, h3⟩⟩ | ⟨h1, ⟨_, h2⟩, _, h3⟩)
    · exact ⟨h1, .inl h2⟩
    · exact ⟨h1, .inr ⟨w, by omega, h2, h3⟩⟩
    · exact ⟨h1, .inr ⟨m, by omega, h2, h3⟩⟩
end
structure RowsAt (H H' : Hp) (q : Addr) (rs : List V) (N : Net) (os : List Int) : Prop where
  len : rs.length = N.n.toNat
  row : ∀ x : Int, 0 ≤ x → x < N.n → ∃ a, rs[x.toNat]? = some (.ref a) ∧ H a = none ∧ a ≠ q ∧ H' a = some (.lst ((upP N.ls os x).map V.int))
def spUpper (K : PySem.W.Frag) : Sp := fun vs H Q _ => ∃ (v : V) (N : Net) (p : Addr) (os : List Int), vs = [v, .ref p] ∧ Dp K H v (netD N) ∧ NetOk N ∧ SqL K H p (os.map V.int) ∧ OrdOk N.n os ∧ ∀ H' q rs, Same H H' → H q = none → H' q = some (.lst rs) → RowsAt H H' q rs N os → Q (.ref q) H'
/-- what changes -/
noncomputable def msk (T : Addr → Prop) (H : Hp) : Hp := fun b => @ite _ (T b) (Classical.propDecidable _) none (H b)
theorem msk_ne {T : Addr → Prop} {H : Hp} {b : Addr} (h : ¬ T b) : msk T H b = H b := if_neg h
theorem msk_at {T : Addr → Prop} {H : Hp} {b : Addr} (h : T b) : msk T H b = none := if_pos h
theorem msk_same {T : Addr → Prop} {H : Hp} : Same (msk T H) H := fun b x e => by
  by_cases h : T b
  · rw [msk_at h] at e
    cases e
  · rw [msk_ne h] at e
    exact e
theorem msk_mono {T : Addr → Prop} {G H : Hp} (s : Same G H) : Same (msk T G) (msk T H) := fun b x e => by
  by_cases h : T b
  · rw [msk_at h] at e
    cases e
  · rw [msk_ne h] at e ⊢
    exact s b x e
theorem msk_upd {T : Addr → Prop} {H : Hp} {a : Addr} {u : HO} (h : T a) : msk T (upd H a u) = msk T H := by
  funext b
  by_cases hb : T b
  · rw [msk_at hb, msk_at hb]
  · rw [msk_ne hb, msk_ne hb, upd_ne (fun e => hb (by rw [e]; exact h))]
theorem msk_get {T : Addr → Prop} {G H : Hp} {a : Addr} {x : HO} (s : Same (msk T G) (msk T H)) (h : G a = some x) (n : ¬ T a) : H a = some x := msk_same _ _ (s _ _ (by rw [msk_ne n]; exact h))
/-! ### comprehensions that make a list each turn; pairs of a list -/
section
variable {K : PySem.W.Frag} {σ : L2.St} {H : Hp} {te tl : TE} {tr : TA} {tt : TT}
theorem lc_rows {j : Nat} {xs ys : List V} {Q : VK} (hl : ∀ Q : VK, (∀ a H1, Same H H1 → SqL K H1 a xs → Q (.ref a) H1) → tl σ H Q) (hz : xs.length ≤ 1000)
    (he : ∀ x H', Same H H' → Vn te ((σ.set j none).set j (some x)) H' ys)
    (q : ∀ D H' (rw : List Addr), Same H H' → H D = none → H' D = some (.lst (rw.map V.ref)) → rw.length = xs.length → rw.Nodup → D ∉ rw → (∀ a ∈ rw, H a = none ∧ H' a = some (.lst ys)) → Q (.ref D) H') : tLc (iList K tl) (gName j) tYes te [j] σ H Q := by
  refine hl _ fun a H1 s1 hx => ⟨a, rfl, ⟨xs, hx⟩, fun D nD => lc_list (xs := xs) (fun i H' => ∃ rw : List Addr, H' D = some (.lst (rw.map V.ref)) ∧ Same H1 H' ∧ rw.length = i ∧ rw.Nodup ∧ D ∉ rw ∧ ∀ a ∈ rw, H a = none ∧ H' a = some (.lst ys))
    ⟨[], upd_same, same_upd nD, rfl, .nil, List.not_mem_nil, fun _ h => (nomatch h)⟩ (fun i H' _ hP => hP.choose_spec.2.1.seq hx) (fun i x H2 hi hP => ?_) (fun H2 hP => ?_)⟩
  · obtain ⟨rw_, hD, s2, hlen, hnd, hDn, hr⟩ := hP
    have hi2 := (List.getElem?_eq_some_iff.mp hi).1
    refine ⟨?_, ?_⟩
    · show ((σ.set j none).set j (some x)).set j none = σ.set j none
      rw [List.set_set, List.set_set]
    · refine iteT (B := ∃ rw : List Addr, H2 D = some (.lst (rw.map V.ref)) ∧ Same H1 H2 ∧ rw.length = i + 1 ∧ rw.Nodup ∧ D ∉ rw ∧ ∀ a ∈ rw, H a = none ∧ H2 a = some (.lst ys)) (he x H2 (s1.trans s2) _ fun p H3 s3 np hp => ⟨_, s3 _ _ hD, ?_, rw_ ++ [p], ?_, ?_, ?_, ?_, ?_, fun b hb => ?_⟩)
      · rw [List.length_map]
        exact Nat.lt_of_le_of_lt (m := 1000000) (by omega) (by decide)
      · rw [upd_same, List.map_append]
        rfl
      · exact same_upd' (s2.trans s3) nD
      · rw [List.length_append, hlen]
        rfl
      · refine List.nodup_append.mpr ⟨hnd, List.nodup_cons.mpr ⟨List.not_mem_nil, .nil⟩, fun x hx y hy e => ?_⟩
        rw [List.mem_singleton.mp hy] at e
        have := (hr x hx).2
        rw [e, np] at this
        cases this
      · intro h
        rcases List.mem_append.mp h with h | h
        · exact hDn h
        · have e := List.mem_singleton.mp h
          rw [e, np] at hD
          cases hD
      · rcases List.mem_append.mp hb with h | h
        · exact ⟨(hr b h).1, by
            rw [upd_ne (fun e => hDn (by rw [← e]; exact h))]
            exact s3 _ _ (hr b h).2⟩
        · have e := List.mem_singleton.mp h
          refine ⟨by rw [e]; exact Same.free (s1.trans s2) np, ?_⟩
          rw [e, upd_ne (fun z => by rw [← z, np] at hD; cases hD)]
          exact hp
  · obtain ⟨rw_, hD, s2, hlen, hnd, hDn, hr⟩ := hP
    exact q D H2 rw_ (s1.trans s2) (Same.free s1 nD) hD hlen hnd hDn hr
theorem vn_lcR2 {j lo hi : Nat} {pb : Nat → Bool} {f : Nat → V} (hl : Va tr σ H [.int (lo : Nat), .int (hi : Nat)]) (hz : lo ≤ 1000 ∧ hi ≤ 1000)
    (ht : ∀ x : Nat, lo ≤ x → x < hi → ∀ H', Same H H' → An tt ((σ.set j none).set j (some (.int (x : Nat)))) H' (pb x)) (he : ∀ x : Nat, lo ≤ x → x < hi → ∀ H', Same H H' → Vl te ((σ.set j none).set j (some (.int (x : Nat)))) H' (f x)) :
    Vn (tLc (iRng2 tr) (gName j) tt te [j]) σ H (((List.range' lo (hi - lo)).filter pb).map f) := fun Q q => by
  have en : ((hi : Int) - (lo : Int)).toNat = hi - lo := by omega
  refine hl _ ⟨_, _, rfl, ⟨by omega, by omega, by omega, by omega⟩, fun D nD => ?_⟩
  rw [en]
  refine lc_range (fun i H' => H' D = some (.lst (((List.range' lo i).filter pb).map f)) ∧ Same H H') ⟨upd_same, same_upd nD⟩ (fun i H2 hi2 hP => ?_) (fun H2 hP => ?_)
  · obtain ⟨hD, s2⟩ := hP
    have e0 : (lo : Int) + (i : Int) = ((lo + i : Nat) : Int) := by omega
    rw [e0]
    have e : (List.range' lo (i + 1)).filter pb = (List.range' lo i).filter pb ++ [lo + i].filter pb := by
      rw [List.range'_concat, Nat.one_mul]
      exact List.filter_append ..
    refine ⟨?_, ht (lo + i) (by omega) (by omega) H2 s2 _ ?_⟩
    · show ((σ.set j none).set j (some (V.int _))).set j none = σ.set j none
      rw [List.set_set, List.set_set]
    · cases hp : pb (lo + i) with
      | true =>
        have e2 : [lo + i].filter pb = [lo + i] := by
          rw [List.filter_cons, hp]
          rfl
        refine iteT (B := H2 D = some (.lst (((List.range' lo (i + 1)).filter pb).map f)) ∧ Same H H2) (he (lo + i) (by omega) (by omega) H2 s2 _ ⟨_, hD, ?_, ?_, same_upd' s2 nD⟩)
        · rw [List.length_map]
          have h1 : ((List.range' lo i).filter pb).length ≤ i := Nat.le_trans (List.length_filter_le _ _) (by rw [List.length_range']; exact Nat.le_refl _)
          exact Nat.lt_of_le_of_lt (m := 1000000) (by omega) (by decide)
        · rw [upd_same, e, e2, List.map_append]
          rfl
      | false =>
        have e2 : [lo + i].filter pb = [] := by
          rw [List.filter_cons, hp]
          rfl
        refine iteF ⟨?_, s2⟩
        rw [e, e2, List.append_nil]
        exact hD
  · exact q D H2 hP.2 nD hP.1
/-- for x, y in combinations(xs, 2) -/
theorem for_cm {ps : List (V × V)} {g : TG} {tb : TS} {D : Ends} (Pv : Nat → L2.St → Hp → Prop) (h0 : Pv 0 σ H)
    (hs : ∀ (i : Nat) x y T σ H, ps[i]? = some (x, y) → Pv i σ H → H T = none → g (.ref T) σ (upd H T (.tup [x, y])) fun σ2 H2 => tb { D with nx := Pv (i + 1), ct := Pv (i + 1), bk := D.nx } σ2 H2) (hd : ∀ σ H, Pv ps.length σ H → D.nx σ H) :
    ∃ W : Nat → Nat → L2.St → Hp → Prop, (∃ m, W 0 m σ H) ∧ ∀ i m σ H, W i m σ H → ((Itcm ps).stop i H ∧ D.nx σ H) ∨
      ((Itcm ps).go i H ∧ ∃ N : L2.St → Hp → Prop, (∀ σ' H', N σ' H' → ∃ m', m' < m ∧ W (i + 1) m' σ' H') ∧ ∀ v H', (Itcm ps).yld i H v H' → g v σ H' fun σ2 H2 => tb { D with nx := N, ct := N, bk := D.nx } σ2 H2) := by
  refine ⟨fun i m σ H => m + i = ps.length ∧ Pv i σ H, ⟨ps.length, rfl, h0⟩, fun i m σ H hW => ?_⟩
  obtain ⟨em, p⟩ := hW
  by_cases hlt : i < ps.length
  · refine .inr ⟨hlt, Pv (i + 1), fun σ' H' p' => ⟨m - 1, by omega, by omega, p'⟩, fun v H' yy => ?_⟩
    obtain ⟨T, x, y, rfl, hT, rfl, f1⟩ := yy
    exact hs i x y T σ H f1 p hT
  · have e : i = ps.length := by omega
    rw [e] at p
    exact .inl ⟨by rw [e]; exact Nat.le_refl _, hd σ H p⟩
end
theorem q_par {σ : L2.St} {H : Hp} {ta : TA} {D : Ends} {tw : TS} {x y : V} {i j : Nat} (h : Va ta σ H [x, y]) (k : tw D ((σ.set i (some x)).set j (some y)) H) : tSeq (tPar i j ta) tw D σ H := h _ ⟨x, y, rfl, k⟩
theorem g_asgG {σ : L2.St} {H : Hp} {te : TE} {g : TG} {D : Ends} {xs : List V} (h : Vn te σ H xs) (k : ∀ p H', Same H H' → H p = none → H' p = some (.lst xs) → g (.ref p) σ H' D.nx) : tAsg te g D σ H := h _ k
/-- joined[x][y] = True -/
theorem g_setM {K : PySem.W.Frag} {σ : L2.St} {H : Hp} {t0 t1 t2 : TE} {D : Ends} {j a : Addr} {xs ys : List V} {x y : Nat} {v : V} (h0 : Vl t0 σ H (.ref j)) (h1 : Vl t1 σ H (.int (x : Nat))) (h2 : Vl t2 σ H (.int (y : Nat))) (hj : SqL K H j xs) (hx : xs[x]? = some (.ref a)) (ha : H a = some (.lst ys)) (hy : y < ys.length)
    (k : D.nx σ (upd H a (.lst (ys.set y v)))) : tAsg (tC v) (gSub (tOp (rIxL K) t0 t1) t2 rSetL) D σ H :=
  (vl_ixL (K := K) h0 h1 hj (atI_nat hx)) _ (h2 _ ⟨a, ys, (y : Nat), y, rfl, rfl, ha, by
    unfold ixN
    rw [if_pos (by omega), if_pos (by omega)]
    rw [Int.toNat_natCast], k⟩)
/-! ### the matrix -/
structure MatAt (H : Hp) (j : Addr) (rw : List Addr) (n : Nat) (M : Nat → Nat → Bool) : Prop where
  top : H j = some (.lst (rw.map V.ref))
  len : rw.length = n
  nd : rw.Nodup
  jn : j ∉ rw
  row : ∀ (i : Nat) a, rw[i]? = some a → H a = some (.lst ((List.range n).map fun k => V.bl (M i k)))
theorem MatAt.to {H H' : Hp} {j : Addr} {rw : List Addr} {n : Nat} {M : Nat → Nat → Bool} (h : MatAt H j rw n M) (s : Same H H') : MatAt H' j rw n M := ⟨s _ _ h.top, h.len, h.nd, h.jn, fun i a e => s _ _ (h.row i a e)⟩
theorem MatAt.is {H : Hp} {j : Addr} {rw : List Addr} {n : Nat} {M M' : Nat → Nat → Bool} (h : MatAt H j rw n M) (e : ∀ i k, i < n → k < n → M' i k = M i k) : MatAt H j rw n M' := ⟨h.top, h.len, h.nd, h.jn, fun i a g => by
  rw [h.row i a g]
  have hi := (List.getElem?_eq_some_iff.mp g).1
  rw [h.len] at hi
  congr 2
  exact List.map_congr_left fun k hk => by rw [e i k hi (List.mem_range.mp hk)]⟩
theorem MatAt.set {H : Hp} {j : Addr} {rw : List Addr} {n : Nat} {M M' : Nat → Nat → Bool} {x y : Nat} {a : Addr} (h : MatAt H j rw n M) (ha : rw[x]? = some a) (hy : y < n) (e : ∀ i k, i < n → k < n → M' i k = (M i k || (decide (i = x) && decide (k = y)))) :
    MatAt (upd H a (.lst (((List.range n).map fun k => V.bl (M x k)).set y (.bl true)))) j rw n M' where
  top := by
    rw [upd_ne (fun z => h.jn (by rw [z]; exact List.mem_of_getElem? ha))]
    exact h.top
  len := h.len
  nd := h.nd
  jn := h.jn
  row := fun i b hb => by
    have hi := (List.getElem?_eq_some_iff.mp hb).1
    rw [h.len] at hi
    by_cases c : i = x
    · subst c
      cases hb.symm.trans ha
      rw [upd_same]
      congr 2
      refine List.ext_getElem (by rw [List.length_set, List.length_map, List.length_map]) fun k h1 h2 => ?_
      rw [List.length_map, List.length_range] at h2
      rw [List.getElem_set]
      simp only [List.getElem_map, List.getElem_range]
      rw [e i k hi h2, decide_eq_true rfl, Bool.true_and]
      by_cases d : y = k
      · rw [if_pos d, decide_eq_true d.symm, Bool.or_true]
      · rw [if_neg d, decide_eq_false (fun z => d z.symm), Bool.or_false]
    · have hne : b ≠ a := fun z => by
        rw [z, ← ha] at hb
        exact c ((List.getElem?_inj (by rw [h.len]; exact hi) h.nd).mp hb)
      rw [upd_ne hne, h.row i b hb]
      congr 2
      exact List.map_congr_left fun k hk => by rw [e i k hi (List.mem_range.mp hk), decide_eq_false c, Bool.false_and, Bool.or_false]
theorem MatAt.at_ {H : Hp} {j : Addr} {rw : List Addr} {n : Nat} {M : Nat → Nat → Bool} {x : Nat} (h : MatAt H j rw n M) (hx : x < n) : ∃ a, rw[x]? = some a ∧ (rw.map V.ref)[x]? = some (.ref a) ∧ H a = some (.lst ((List.range n).map fun k => V.bl (M x k))) := by
  have hx2 : x < rw.length := by
    rw [h.len]
    exact hx
  have e : rw[x]? = some rw[x] := List.getElem?_eq_getElem hx2
  exact ⟨_, e, by rw [List.getElem?_map, e] <;> rfl, h.row x _ e⟩
abbrev sUpper : Stmt := topS 17
theorem scUpper : FnScope ["net", "order", "n", "links", "rank", "joined", "link", "a", "b", "found", "low", "place", "above", "first", "second", "_", "high"] ["net", "order"] (defScope sUpper) := ⟨rfl, rfl, rfl, by decide +kernel, rfl, by decide +kernel, by decide +kernel⟩
section
variable {P : Program} {w : World} {K : PySem.W.Frag} {mg : Str → Option Value} {base : Heap} {CN fI : Addr}
theorem ok_upper {f : Addr} {fd : FuncData} {k : Nat} (F : Fun K "upper" "upper" sUpper f fd) (c_ranks : KalX P w K mg base k "ranks" ["order"] (spRk K CN)) (ml : mg "len" = none) (me : mg "enumerate" = none) (mr : mg "range" = none) (mm : mg "min" = none) (mx : mg "max" = none) (mcmb : mg "combinations" = some (.type "itertools.combinations")) : FnOk P w K mg base CX0 (k + 1) f fd ["net", "order"] (spUpper K) := by
  refine F.ok scUpper (fun vs H Q E h => ?_) (fun cdv A outer s H vs Q E hr h => ?_)
  · obtain ⟨v, N, p, os, rfl, _⟩ := h
    rfl
  · obtain ⟨v, N, p, os, rfl, hN, okN, hS, oo, q⟩ := h
    refine ⟨_, pss_cons (ps_asg (pv 0) (pg_tup rfl (pgs_cons (pg_name (i := 2) scUpper.nd rfl (.inr rfl)) (pgs_cons (pg_name (i := 3) scUpper.nd rfl (.inl rfl)) pgs_nil))))
      (pss_cons (ps_set (i := 4) scUpper.nd rfl (.inl rfl) (pe_kx (E := fun _ _ _ => False) c_ranks hr (by first | decide | omega) (by rfl) takes0 (pa_cons (pv 1) pa_nil)))
      (pss_cons (ps_set (i := 5) scUpper.nd rfl (.inr rfl) (pe_lc (own := [("_", 15)]) (g := gName 15) (tt := tYes) (te := (tOp rRep (tLst (tCons (tC (.bl false)) tNil)) (tVar 2))) (by rfl) scUpper.nd (pi_list (pv 1)) (blkOk_by (own := [("_", 15)]) (N := ["net", "order", "n", "links", "rank", "joined", "link", "a", "b", "found", "low", "place", "above", "first", "second", "_", "high"]) (sc := defScope sUpper) (by decide +kernel)) (fun _ _ _ _ _ => pg_name (i := 15) scUpper.nd rfl (Or.inl rfl)) (fun _ _ _ _ _ => by exact pts_nil) (fun _ _ _ _ _ => by exact (pe_op op_rep (pe_lst (pa_cons pe_bl pa_nil)) (pv 2)))))
      (pss_cons (ps_for PassesOwn.never rfl (pi_list (pv 3)) (pg_name (i := 6) scUpper.nd rfl (.inl rfl))
      (pss_cons (ps_par (i := 7) (j := 8) (by rfl) scUpper.nd rfl rfl (by decide) rfl rfl (pa_cons (pe_ix ix_list (pv 4) (pe_ix ix_tup (pv 6) pe_int (fun _ _ => rfl)) (fun _ _ => rfl)) (pa_cons (pe_ix ix_list (pv 4) (pe_ix ix_tup (pv 6) pe_int (fun _ _ => rfl)) (fun _ _ => rfl)) pa_nil)) (by rfl))
        (pss_one (ps_asg pe_bl (pg_sub (pe_ix ix_list (pv 5) (pe_callB (call_min2 rfl) (by rfl) mm (by decide +kernel) (pa_cons (pv 7) (pa_cons (pv 8) pa_nil))) (fun _ _ => rfl)) (pe_callB (call_max2 rfl) (by rfl) mx (by decide +kernel) (pa_cons (pv 7) (pa_cons (pv 8) pa_nil))) set_list)))))
      (pss_cons (ps_setLc (i := 9) (own := [("_", 15)]) (g := gName 15) (tt := tYes) (te := (tLst tNil)) (by rfl) scUpper.nd rfl rfl (sw_true rfl rfl rfl (by decide +kernel)) (pi_list (pv 1)) (blkOk_by (own := [("_", 15)]) (N := ["net", "order", "n", "links", "rank", "joined", "link", "a", "b", "found", "low", "place", "above", "first", "second", "_", "high"]) (sc := defScope sUpper) (by decide +kernel)) (fun _ _ _ _ _ => pg_name (i := 15) scUpper.nd rfl (Or.inl rfl)) (fun _ _ _ _ _ => by exact pts_nil) (fun _ _ _ _ _ => by exact (pe_lst pa_nil)))
      (pss_cons (ps_for PassesOwn.never rfl (pi_enum (by rfl) me (pa_cons (pv 1) pa_nil)) (pg_tup rfl (pgs_cons (pg_name (i := 10) scUpper.nd rfl (.inr rfl)) (pgs_cons (pg_name (i := 11) scUpper.nd rfl (.inl rfl)) pgs_nil)))
      (pss_cons (ps_setLc (i := 12) (own := [("high", 16)]) (g := gName 16) (tt := (tTest (tOp (rIxL K) (tOp (rIxL K) (tVar 5) (tVar 10)) (tVar 16)))) (te := (tVar 16)) (by rfl) scUpper.nd rfl rfl (sw_true rfl rfl rfl (by decide +kernel)) (pi_range2 (by rfl) mr (pa_cons (pe_op op_add (pv 10) pe_int) (pa_cons (pv 2) pa_nil))) (blkOk_by (own := [("high", 16)]) (N := ["net", "order", "n", "links", "rank", "joined", "link", "a", "b", "found", "low", "place", "above", "first", "second", "_", "high"]) (sc := defScope sUpper) (by decide +kernel)) (fun _ _ _ _ _ => pg_name (i := 16) scUpper.nd rfl (Or.inl rfl)) (fun _ _ _ _ _ => by exact (pts_one (pt_val (pe_ix ix_list (pe_ix ix_list (pv 5) (pv 10) (fun _ _ => rfl)) (pv 16) (fun _ _ => rfl))))) (fun _ _ _ _ _ => by exact (pv 16)))
        (pss_cons (ps_for PassesOwn.never rfl (pi_cmb (by rfl) mcmb (pa_cons (pv 12) (pa_cons pe_int pa_nil))) (pg_tup rfl (pgs_cons (pg_name (i := 13) scUpper.nd rfl (.inl rfl)) (pgs_cons (pg_name (i := 14) scUpper.nd rfl (.inl rfl)) pgs_nil)))
        (pss_one (ps_asg pe_bl (pg_sub (pe_ix ix_list (pv 5) (pv 13) (fun _ _ => rfl)) (pv 14) set_list))))
        (pss_one (ps_asg (pe_lc (own := [("high", 16)]) (g := gName 16) (tt := tYes) (te := (tOp (rIxL K) (tVar 1) (tVar 16))) (by rfl) scUpper.nd (pi_list (pv 12)) (blkOk_by (own := [("high", 16)]) (N := ["net", "order", "n", "links", "rank", "joined", "link", "a", "b", "found", "low", "place", "above", "first", "second", "_", "high"]) (sc := defScope sUpper) (by decide +kernel)) (fun _ _ _ _ _ => pg_name (i := 16) scUpper.nd rfl (Or.inl rfl)) (fun _ _ _ _ _ => by exact pts_nil) (fun _ _ _ _ _ => by exact (pe_ix ix_list (pv 1) (pv 16) (fun _ _ => rfl)))) (pg_sub (pv 9) (pv 11) set_list))))))
      (pss_one (ps_ret (pv 9)))))))), ?_⟩
    obtain ⟨p0, c, xs, rfl, hp0, hc, hx⟩ := Dp.net_inv hN
    have on := oo.len
    have n40 := okN.n40
    have n1 := okN.n1
    have l16 := okN.len
    have hnd := oo.nodup
    have hbad : badAt os = none := bad_iff.mpr (by
      rw [show (os.length : Int) = N.n by omega]
      exact oo)
    have lx := DpAll.len hx
    rw [List.length_map] at lx
    refine q_asgT2 (vl_var rfl) hp0 ?_
    refine q_asgE ⟨.ref p, rfl, p, os, rfl, hS, by omega, ?_⟩
    rw [hbad]
    intro G r sG nr er
    -- the matrix
    refine q_asgE (lc_rows (ys := List.replicate os.length (.bl false)) (vx_list (vl_var rfl) (sG.seq hS)) (by rw [List.length_map]; omega) (fun x H' s' => ?_) fun j H1 rw_ s1 nj ej rl rnd jn rr => ?_)
    · exact vn_rep vl_c (fun _ _ => (vl_var rfl).is (by rw [show N.n = ((os.length : Nat) : Int) by omega])) (by omega)
    have hM1 : MatAt H1 j rw_ os.length (Lk N.ls os 0) := ⟨ej, by rw [rl, List.length_map], rnd, jn, fun i a e => by
      rw [(rr a (List.mem_of_getElem? e)).2, Lk_zero]
      congr 2
      exact List.ext_getElem (by simp) fun k h1 h2 => by simp⟩
    have hrG : ∀ a ∈ rw_, G a = none := fun a h => (rr a h).1
    refine q_forLk (j := 6) (Hb := G) (vl_var rfl) (sG.seq hc) (DpAll.to hx sG) s1
      (fun i σ H3 => ∃ y6 y7 y8, σ = [some (.ref p0), some (.ref p), some (.int N.n), some (.ref c), some (.ref r), some (.ref j), y6, y7, y8, none, none, none, none, none, none, none, none] ∧ Same G H3 ∧ MatAt H3 j rw_ os.length (Lk N.ls os i))
      ⟨none, none, none, rfl, s1, hM1⟩ (fun i σ H3 hP => ?_) (fun i l t σ H3 hl ht hP => ?_) (fun σ H3 hP => ?_)
    · obtain ⟨_, _, _, _, s3, _⟩ := hP
      exact s3
    · obtain ⟨y6, y7, y8, rfl, s3, hM⟩ := hP
      have hlm := okN.ok l (List.mem_of_getElem? hl)
      have a0 := hlm.a0
      have ab := hlm.ab
      have bn := hlm.bn
      have ha : l.a ∈ os := oo.mem.mpr (by omega)
      have hb : l.b ∈ os := oo.mem.mpr (by omega)
      have rka : (rk os)[l.a.toNat]? = some (posOf l.a os : Int) := by
        unfold rk
        rw [List.getElem?_map, List.getElem?_eq_getElem (by rw [len_rng]; omega), rng_get (by rw [len_rng]; omega), show ((l.a.toNat : Nat) : Int) = l.a by omega] <;> rfl
      have rkb : (rk os)[l.b.toNat]? = some (posOf l.b os : Int) := by
        unfold rk
        rw [List.getElem?_map, List.getElem?_eq_getElem (by rw [len_rng]; omega), rng_get (by rw [len_rng]; omega), show ((l.b.toNat : Nat) : Int) = l.b by omega] <;> rfl
      have pa := pos_len ha
      have pb := pos_len hb
      generalize hA : posOf l.a os = A1 at rka pa
      generalize hB : posOf l.b os = B1 at rkb pb
      refine q_par (va_cons (vl_ixI (K := K) (vl_var rfl) ((vl_ixT (vl_var rfl) vl_c (seqT s3 ht) (atI_nat (j := 0) rfl)).is (by rw [show ((l.a.toNat : Nat) : Int) = l.a by omega])) (.of (s3 _ _ er)) rka) (va_cons (vl_ixI (K := K) (vl_var rfl) ((vl_ixT (vl_var rfl) vl_c (seqT s3 ht) (atI_nat (j := 1) rfl)).is (by rw [show ((l.b.toNat : Nat) : Int) = l.b by omega])) (.of (s3 _ _ er)) rkb) va_nil)) ?_
      obtain ⟨a1, e1, e2, e3⟩ := hM.at_ (x := min A1 B1) (by omega)
      refine g_setM (x := min A1 B1) (y := max A1 B1) (vl_var rfl) ((vl_min2 (vl_var rfl) (vl_var rfl)).is ?_) ((vl_max2 (vl_var rfl) (vl_var rfl)).is ?_) (.of hM.top) e2 e3 (by rw [List.length_map, List.length_range]; omega) ⟨_, _, _, rfl, same_upd' s3 (hrG a1 (List.mem_of_getElem? e1)), hM.set e1 (by omega) fun i' k' hi hk => ?_⟩
      · congr 1
        split <;> omega
      · congr 1
        split <;> omega
      · rw [Lk_succ hnd hl ha hb hi hk, hA, hB, decide_eq_true (show l.a ≠ l.b by omega), Bool.and_true]
    · obtain ⟨y6, y7, y8, rfl, s3, hM⟩ := hP
      rw [Lk_end] at hM
      -- found
      refine q_asgE (lc_rows (ys := []) (vx_list (vl_var rfl) ((sG.trans s3).seq hS)) (by rw [List.length_map]; omega) (fun x H' s' => vn_lst va_nil (Nat.zero_le _)) fun fo H4 fr s4 nf ef fl fnd_ fn ff => ?_)
      have hfG := Same.free s3 nf
      have hfr : fo ∉ rw_ := fun h => by
        obtain ⟨i, hi⟩ := List.mem_iff_getElem?.mp h
        rw [hM.row i fo hi] at nf
        cases nf
      have hfj : j ≠ fo := fun z => by
        have := hM.top
        rw [z, nf] at this
        cases this
      refine ⟨.ref p, rfl, p, _, rfl, (sG.trans (s3.trans s4)).seq hS, for_en (xs := os.map V.int)
        (fun m σ H5 => ∃ y6 y7 y8 y10 y11 y12 y13 y14 fs, σ = [some (.ref p0), some (.ref p), some (.int N.n), some (.ref c), some (.ref r), some (.ref j), y6, y7, y8, some (.ref fo), y10, y11, y12, y13, y14, none, none] ∧ Same G H5 ∧ MatAt H5 j rw_ os.length (Jm N.ls os m) ∧
          H5 fo = some (.lst fs) ∧ fs.length = os.length ∧ ∀ w, w < m → ∃ a, fs[(oA os w).toNat]? = some (.ref a) ∧ G a = none ∧ a ≠ fo ∧ a ∉ rw_ ∧ H5 a = some (.lst ((upP N.ls os (oA os w)).map V.int)))
        ⟨_, _, _, none, none, none, none, none, _, rfl, s3.trans s4, hM.to s4, ef, by rw [List.length_map, fl, List.length_map], fun w hw => absurd hw (Nat.not_lt_zero _)⟩ (fun m σ H5 hP => ?_) (fun m x T2 σ H5 hi hP nT2 => ?_) (fun σ H5 hP => ?_)⟩
      · obtain ⟨_, _, _, _, _, _, _, _, _, _, s5, _⟩ := hP
        exact (sG.trans s5).seq hS
      · obtain ⟨y6, y7, y8, y10, y11, y12, y13, y14, fs, rfl, s5, hM5, ef5, fl5, hrow⟩ := hP
        have hm : m < os.length := by
          have := (List.getElem?_eq_some_iff.mp hi).1
          rw [List.length_map] at this
          exact this
        rw [List.getElem?_map, oA_get hm] at hi
        cases hi
        refine ⟨T2, _, rfl, .of upd_same, rfl, _, _, rfl, _, _, rfl, rfl, ?_⟩
        have s6 : Same H5 (upd H5 T2 (.tup [.int (m : Nat), .int (oA os m)])) := same_upd nT2
        have s56 := s5.trans s6
        have hM6 := hM5.to s6
        have ef6 := s6 _ _ ef5
        have hrow6 : ∀ w, w < m → ∃ a, fs[(oA os w).toNat]? = some (.ref a) ∧ G a = none ∧ a ≠ fo ∧ a ∉ rw_ ∧ upd H5 T2 (.tup [.int (m : Nat), .int (oA os m)]) a = some (.lst ((upP N.ls os (oA os w)).map V.int)) := fun w hw => by
          obtain ⟨a, z1, z2, z3, z4, z5⟩ := hrow w hw
          exact ⟨a, z1, z2, z3, z4, s6 _ _ z5⟩
        clear hrow hM5 ef5 nT2
        generalize upd H5 T2 (.tup [.int (m : Nat), .int (oA os m)]) = H6 at s6 s56 hM6 ef6 hrow6 ⊢
        -- above
        obtain ⟨am, g1, g2, g3⟩ := hM6.at_ hm
        refine q_asgN (xs := (abv (Jm N.ls os m) m os.length).map fun k => V.int (k : Nat)) (vn_lcR2 (lo := m + 1) (hi := os.length) (va_cons ((vl_I0 (vl_var rfl) vl_c).is (by
          show V.int ((m : Int) + 1) = V.int ((m + 1 : Nat) : Int)
          rfl)) (va_cons ((vl_var rfl).is (by rw [show N.n = ((os.length : Nat) : Int) by omega])) va_nil)) ⟨by omega, by omega⟩ (fun x h1 h2 H' s' => ?_) (fun x h1 h2 H' s' => vl_var rfl)) fun ab H7 s7 nab eab => ?_
        · exact an_test (vl_ixL (K := K) (vl_ixL (K := K) (vl_var rfl) (vl_var rfl) (.of (s' _ _ hM6.top)) (atI_nat g2)) (vl_var rfl) (.of (s' _ _ g3)) (atI_nat (by rw [List.getElem?_map, List.getElem?_range h2] <;> rfl)))
        have hM7 := hM6.to s7
        have ef7 := s7 _ _ ef6
        have s57 := s56.trans s7
        have hrow7 : ∀ w, w < m → ∃ a, fs[(oA os w).toNat]? = some (.ref a) ∧ G a = none ∧ a ≠ fo ∧ a ∉ rw_ ∧ H7 a = some (.lst ((upP N.ls os (oA os w)).map V.int)) := fun w hw => by
          obtain ⟨a, z1, z2, z3, z4, z5⟩ := hrow6 w hw
          exact ⟨a, z1, z2, z3, z4, s7 _ _ z5⟩
        have habr : ab ∉ rw_ := fun h => by
          obtain ⟨i, hi⟩ := List.mem_iff_getElem?.mp h
          rw [hM6.row i ab hi] at nab
          cases nab
        clear hrow6 hM6 ef6 g3
        -- the pairs of above
        refine ⟨.ref ab, rfl, ab, _, rfl, .of eab, for_cm
          (fun t σ H8 => ∃ y13 y14, σ = [some (.ref p0), some (.ref p), some (.int N.n), some (.ref c), some (.ref r), some (.ref j), y6, y7, y8, some (.ref fo), some (.int (m : Nat)), some (.int (oA os m)), some (.ref ab), y13, y14, none, none] ∧ Same G H8 ∧ Same (msk (· ∈ rw_) H7) (msk (· ∈ rw_) H8) ∧
            MatAt H8 j rw_ os.length (fun i k => Jm N.ls os m i k || decide ((i, k) ∈ (CpCmb.cmbs (abv (Jm N.ls os m) m os.length)).take t)))
          ⟨_, _, rfl, s57, Same.refl _, hM7.is fun i k _ _ => by rw [List.take_zero, decide_eq_false (by exact List.not_mem_nil), Bool.or_false]⟩ (fun t x y T3 σ H8 ht hP nT3 => ?_) (fun σ H8 hP => ?_)⟩
        · obtain ⟨y13, y14, rfl, s8, k8, hM8⟩ := hP
          rw [CpCmb.cmbs_map, List.getElem?_map] at ht
          cases hq : (CpCmb.cmbs (abv (Jm N.ls os m) m os.length))[t]? with
          | none =>
            rw [hq] at ht
            cases ht
          | some xy =>
            obtain ⟨i1, k1⟩ := xy
            rw [hq] at ht
            cases ht
            have hmem := (mem_cmbs abv_asc).mp (List.mem_of_getElem? hq)
            have hi1 := (mem_abv.mp hmem.2.1).1.2
            have hk1 := (mem_abv.mp hmem.2.2).1.2
            refine ⟨T3, _, rfl, .of upd_same, rfl, _, _, rfl, _, _, rfl, rfl, ?_⟩
            have s9 : Same H8 (upd H8 T3 (.tup [.int (i1 : Nat), .int (k1 : Nat)])) := same_upd nT3
            have s89 := s8.trans s9
            have k89 := k8.trans (msk_mono s9)
            have hM9 := hM8.to s9
            generalize upd H8 T3 (.tup [.int (i1 : Nat), .int (k1 : Nat)]) = H9 at s9 s89 k89 hM9 ⊢
            obtain ⟨a1, e1, e2, e3⟩ := hM9.at_ hi1
            refine g_setM (x := i1) (y := k1) (vl_var rfl) (vl_var rfl) (vl_var rfl) (.of hM9.top) e2 e3 (by rw [List.length_map, List.length_range]; exact hk1) ⟨_, _, rfl, same_upd' s89 (hrG a1 (List.mem_of_getElem? e1)), by
              rw [msk_upd (List.mem_of_getElem? e1)]
              exact k89, hM9.set e1 hk1 fun i' k' _ _ => ?_⟩
            rw [take_snoc hq, Bool.eq_iff_iff]
            simp only [List.mem_append, List.mem_singleton, Prod.mk.injEq, Bool.or_eq_true, Bool.and_eq_true, decide_eq_true_eq, or_assoc]
        · obtain ⟨y13, y14, rfl, s8, k8, hM8⟩ := hP
          have ef8 := msk_get k8 ef7 hfr
          have eab8 := msk_get k8 eab habr
          have hrow8 : ∀ w, w < m → ∃ a, fs[(oA os w).toNat]? = some (.ref a) ∧ G a = none ∧ a ≠ fo ∧ a ∉ rw_ ∧ H8 a = some (.lst ((upP N.ls os (oA os w)).map V.int)) := fun w hw => by
            obtain ⟨a, z1, z2, z3, z4, z5⟩ := hrow7 w hw
            exact ⟨a, z1, z2, z3, z4, msk_get k8 z5 z4⟩
          have hxm := oo.mem.mp (List.mem_of_getElem? (oA_get hm))
          have hM10 : MatAt H8 j rw_ os.length (Jm N.ls os (m + 1)) := hM8.is fun i k hi hk => by
            rw [Jm_succ okN oo hm hi hk, show ((CpCmb.cmbs ((abv (Jm N.ls os m) m os.length).map fun k => V.int (k : Nat))).length) = (CpCmb.cmbs (abv (Jm N.ls os m) m os.length)).length by rw [CpCmb.cmbs_map, List.length_map], List.take_length]
          refine g_asgG (xs := (upP N.ls os (oA os m)).map V.int) (vn_lc (xs := (abv (Jm N.ls os m) m os.length).map fun k => V.int (k : Nat)) (ys := (upP N.ls os (oA os m)).map V.int) (vx_list (vl_var rfl) (.of eab8)) (by
            rw [← aboveOf okN oo hm, List.length_map, List.length_map, List.length_map]
            rfl) (by rw [List.length_map]; have := up_len (u := oA os m) okN oo; omega) fun i x y H' s' hx' hy' => ?_) fun rq H11 s11 nrq erq => ?_
          · rw [← aboveOf okN oo hm, List.map_map, List.getElem?_map] at hy'
            rw [List.getElem?_map] at hx'
            unfold abv at hx'
            cases e : ((List.range' (m + 1) (os.length - (m + 1))).filter (Jm N.ls os m m))[i]? with
            | none =>
              rw [e] at hx'
              cases hx'
            | some z =>
              rw [e] at hx' hy'
              cases hx'
              cases hy'
              have hz := (mem_abv (M := Jm N.ls os m) (m := m) (n := os.length)).mp (List.mem_of_getElem? e)
              exact ve_of (vl_ixI (K := K) (vl_var rfl) (vl_var rfl) ((sG.trans (s8.trans s')).seq hS) (oA_get hz.1.2))
          · have hrr : rq ∉ rw_ := fun h => by
              obtain ⟨i, hi⟩ := List.mem_iff_getElem?.mp h
              rw [hM8.row i rq hi] at nrq
              cases nrq
            have hrf : rq ≠ fo := fun z => by
              rw [z, ef8] at nrq
              cases nrq
            refine ⟨.ref fo, rfl, .int (oA os m), rfl, fo, fs, oA os m, (oA os m).toNat, rfl, rfl, s11 _ _ ef8, ?_, ?_⟩
            · unfold ixN
              rw [if_pos hxm.1, if_pos (by omega)]
            · refine ⟨_, _, _, _, _, _, _, _, _, rfl, same_upd' (s8.trans s11) hfG, ?_, upd_same, by rw [List.length_set]; exact fl5, fun w hw => ?_⟩
              · have := hM10.to s11
                exact ⟨by
                  rw [upd_ne hfj]
                  exact this.top, this.len, this.nd, this.jn, fun i a e => by
                  rw [upd_ne (fun z => hfr (by rw [← z]; exact List.mem_of_getElem? e))]
                  exact this.row i a e⟩
              · by_cases e : w = m
                · subst e
                  refine ⟨rq, ?_, Same.free s8 nrq, hrf, hrr, ?_⟩
                  · rw [List.getElem?_set_self (by omega)]
                  · rw [upd_ne hrf]
                    exact erq
                · obtain ⟨a, z1, z2, z3, z4, z5⟩ := hrow8 w (by omega)
                  refine ⟨a, ?_, z2, z3, z4, ?_⟩
                  · have hxw := oo.mem.mp (List.mem_of_getElem? (oA_get (os := os) (i := w) (by omega)))
                    rw [List.getElem?_set_ne (fun z => ?_)]
                    · exact z1
                    · have e3 : oA os m = oA os w := by omega
                      have p1 := oA_pos hnd hm
                      have p2 := oA_pos hnd (i := w) (by omega)
                      rw [e3, p2] at p1
                      exact e p1
                  · rw [upd_ne z3]
                    exact s11 _ _ z5
      · obtain ⟨y6, y7, y8, y10, y11, y12, y13, y14, fs, rfl, s5, hM5, ef5, fl5, hrow⟩ := hP
        refine g_ret (vl_var rfl) (q H5 fo fs (sG.trans s5) (Same.free sG hfG) ef5 ⟨by omega, fun x h0 h1 => ?_⟩)
        have hx := oo.mem.mpr ⟨h0, h1⟩
        obtain ⟨a, z1, z2, z3, z4, z5⟩ := hrow (posOf x os) (by rw [List.length_map]; exact pos_len hx)
        rw [oA_of hx] at z1 z5
        exact ⟨a, z1, Same.free sG z2, z3, z5⟩
end
def spPairs (K : PySem.W.Frag) : Sp := fun vs H Q _ => ∃ (v : V) (N : Net) (p : Addr) (os : List Int), vs = [v, .ref p] ∧ Dp K H v (netD N) ∧ NetOk N ∧ SqL K H p (os.map V.int) ∧ OrdOk N.n os ∧ ∀ H' q ts, Same H H' → H q = none → H' q = some (.lst ts) → TupsAt H' ts (pairsL N.ls os) → Q (.ref q) H'
theorem yes_of {σ : L2.St} {H : Hp} {Q : Bool → Hp → Prop} (h : Q true H) : tYes σ H Q := h
abbrev sPairs : Stmt := topS 16
theorem scPairs : FnScope ["net", "order", "above", "low", "high"] ["net", "order"] (defScope sPairs) := ⟨rfl, rfl, rfl, by decide +kernel, rfl, by decide +kernel, by decide +kernel⟩
section
variable {P : Program} {w : World} {K : PySem.W.Frag} {mg : Str → Option Value} {base : Heap} {CN fI : Addr}
theorem ok_pairs {f : Addr} {fd : FuncData} {k : Nat} (F : Fun K "pairs" "pairs" sPairs f fd) (c_upper : Kal P w K mg base k "upper" ["net", "order"] (spUpper K)) : FnOk P w K mg base CX0 (k + 1) f fd ["net", "order"] (spPairs K) := by
  refine F.ok scPairs (fun vs H Q E h => ?_) (fun cdv A outer s H vs Q E hr h => ?_)
  · obtain ⟨v, N, p, os, rfl, _⟩ := h
    rfl
  · obtain ⟨v, N, p, os, rfl, hN, okN, hS, oo, q⟩ := h
    refine ⟨_, pss_cons (ps_set (i := 2) scPairs.nd rfl (.inr rfl) (pe_k c_upper hr (by first | decide | omega) (by rfl) (pa_cons (pv 0) (pa_cons (pv 1) pa_nil))))
      (pss_one (ps_ret (pe_lc2 (own := [("low", 3), ("high", 4)]) (vs1 := [4]) (g := gName 3) (tt := tYes) (wi1 := (iList K (tOp (rIxL K) (tVar 2) (tVar 3)))) (g1 := gName 4) (tt1 := tYes) (te := (tTup (tCons (tVar 3) (tCons (tVar 4) tNil)))) (by rfl) scPairs.nd (pi_list (pv 1)) (blkOk_by (own := [("low", 3), ("high", 4)]) (N := ["net", "order", "above", "low", "high"]) (sc := defScope sPairs) (by decide +kernel)) (by decide) (fun _ _ _ _ _ => pg_name (i := 3) scPairs.nd rfl (Or.inl rfl)) (fun _ _ _ _ _ => by exact pts_nil) (fun _ _ _ _ _ => by exact (pi_list (pe_ix ix_list (pv 2) (pv 3) (fun _ _ => rfl)))) (fun _ _ _ _ _ => pg_name (i := 4) scPairs.nd rfl (Or.inl rfl)) (fun _ _ _ _ _ => by exact pts_nil) (fun _ _ _ _ _ => by exact (pe_tup (pa_cons (pv 3) (pa_cons (pv 4) pa_nil))))))), ?_⟩
    refine q_asgE ⟨v, rfl, .ref p, rfl, v, N, p, os, rfl, hN, okN, hS, oo, fun H1 ap rs s1 nap eap hrow => ?_⟩
    have on := oo.len
    have hS1 := s1.seq hS
    refine ⟨.ref p, rfl, p, rfl, ⟨_, hS1⟩, fun D nD => ?_⟩
    have snD : Same H1 (upd H1 D (.lst [])) := same_upd nD
    -- what stands ahead of turn i
    refine ⟨fun i m H2 => m + i = os.length ∧ Same H1 H2 ∧ ∃ ts, H2 D = some (.lst ts) ∧ TupsAt H2 ts ((os.take i).flatMap fun u => (upP N.ls os u).map fun v => (u, v)), ⟨os.length, rfl, snD, [], upd_same, TupsAt.nil⟩, fun i m H2 hW => ?_⟩
    obtain ⟨em, s2, ts, hD, hT⟩ := hW
    by_cases hi : i < os.length
    · refine .inr ⟨⟨_, _, s2.seq hS1, by rw [List.getElem?_map, List.getElem?_eq_getElem hi] <;> rfl⟩, fun H' => Same H1 H' ∧ ∃ ts, H' D = some (.lst ts) ∧ TupsAt H' ts ((os.take (i + 1)).flatMap fun u => (upP N.ls os u).map fun v => (u, v)), fun H' hx => ⟨m - 1, by omega, by omega, hx.1, hx.2⟩, fun x H' hy => ?_⟩
      obtain ⟨rfl, hy⟩ := hy
      have hy := hy _ (s2.seq hS1)
      have hg : os[i]? = some os[i] := List.getElem?_eq_getElem hi
      rw [List.getElem?_map, hg] at hy
      generalize os[i] = u at hg hy
      cases hy
      have hu := oo.mem.mp (List.mem_of_getElem? hg)
      obtain ⟨a, z1, z2, z3, z4⟩ := hrow.row u hu.1 hu.2
      have e0 : (os.take (i + 1)).flatMap (fun u => (upP N.ls os u).map fun v => (u, v)) = ((os.take i).flatMap fun u => (upP N.ls os u).map fun v => (u, v)) ++ (upP N.ls os u).map fun v => (u, v) := by
        rw [take_snoc hg, List.flatMap_append]
        simp
      have hlen : ((os.take i).flatMap fun u => (upP N.ls os u).map fun v => (u, v)).length + (upP N.ls os u).length ≤ 1600 := by
        have h1 := pairsL_len okN oo
        have h2 : (os.take (i + 1)).flatMap (fun u => (upP N.ls os u).map fun v => (u, v)) <+: pairsL N.ls os := by
          unfold pairsL
          exact ⟨(os.drop (i + 1)).flatMap fun u => (upP N.ls os u).map fun v => (u, v), by rw [← List.flatMap_append, List.take_append_drop]⟩
        have h3 := h2.length_le
        rw [e0, List.length_append, List.length_map] at h3
        omega
      refine ⟨rfl, ?_⟩
      refine yes_of ?_
      dsimp only
      rw [if_pos rfl]
      have za := s2 _ _ z4
      have eap2 := s2 _ _ eap
      refine (vl_ixL (K := K) (σ := [some v, some (.ref p), some (.ref ap), some (.int u), none]) (vl_var rfl) (vl_var rfl) (.of eap2) (by
        have := atI_nat z1
        rw [show ((u.toNat : Nat) : Int) = u by omega] at this
        exact this)) _ ⟨a, rfl, ⟨_, .of za⟩, fun j k H3 => k + j = (upP N.ls os u).length ∧ Same H1 H3 ∧ ∃ ts, H3 D = some (.lst ts) ∧ TupsAt H3 ts (((os.take i).flatMap fun u => (upP N.ls os u).map fun v => (u, v)) ++ ((upP N.ls os u).take j).map fun v => (u, v)), ⟨_, rfl, s2, ts, hD, by
          rw [List.take_zero, List.map_nil, List.append_nil]
          exact hT⟩, fun j k H3 hW => ?_⟩
      obtain ⟨ek, s3, ts3, hD3, hT3⟩ := hW
      have za3 := s3 _ _ z4
      by_cases hj : j < (upP N.ls os u).length
      · refine .inr ⟨⟨_, _, .of za3, by rw [List.getElem?_map, List.getElem?_eq_getElem hj] <;> rfl⟩, fun H' => Same H1 H' ∧ ∃ ts, H' D = some (.lst ts) ∧ TupsAt H' ts (((os.take i).flatMap fun u => (upP N.ls os u).map fun v => (u, v)) ++ ((upP N.ls os u).take (j + 1)).map fun v => (u, v)), fun H' hx => ⟨k - 1, by omega, by omega, hx.1, hx.2⟩, fun x H' hy => ?_⟩
        obtain ⟨rfl, hy⟩ := hy
        have hy := hy _ (.of za3)
        have hg2 : (upP N.ls os u)[j]? = some (upP N.ls os u)[j] := List.getElem?_eq_getElem hj
        rw [List.getElem?_map, hg2] at hy
        generalize (upP N.ls os u)[j] = z at hg2 hy
        cases hy
        refine ⟨rfl, ?_⟩
        refine yes_of ?_
        dsimp only
        rw [if_pos rfl]
        refine ⟨_, rfl, _, rfl, by show 2 ≤ sizeLine; decide, fun T nT => ⟨ts3, same_upd nT _ _ hD3, ?_, same_upd' (s3.trans (same_upd nT)) nD, _, upd_same, ?_⟩⟩
        · rw [hT3.len, List.length_append, List.length_map, List.length_take]
          exact Nat.lt_of_le_of_lt (m := 10000) (by omega) (by decide)
        · rw [take_snoc hg2, List.map_append, ← List.append_assoc]
          exact ((hT3.to (same_upd nT)).app (TupsAt.one upd_same)).upd (same_upd nT _ _ hD3)
      · refine .inl ⟨⟨_, .of za3, by rw [List.length_map]; omega⟩, s3, ts3, hD3, ?_⟩
        rw [e0]
        rw [List.take_of_length_le (l := upP N.ls os u) (i := j) (by omega)] at hT3
        exact hT3
    · refine .inl ⟨⟨_, s2.seq hS1, by rw [List.length_map]; omega⟩, ?_⟩
      rw [List.take_of_length_le (by omega)] at hT
      exact q H2 D ts (s1.trans s2) (Same.free s1 nD) hD hT
end
theorem room65 {k : Nat} {A : Around} (r : Room k A) : A.units + 65 < cLine := by
  have := r.un
  omega
/-! ### the price of a link, the places lower than both -/
def linkW : List Lnk → Int → Int → Option Int
  | [], _, _ => none
  | l :: r, x, y => if l.a = x ∧ l.b = y then l.t else if l.b = x ∧ l.a = y then l.k else linkW r x y
abbrev sLLink : Stmt := topS 37
abbrev sLower : Stmt := topS 38
theorem scLLink : FnScope ["net", "x", "y", "a", "b", "there", "back"] ["net", "x", "y"] (defScope sLLink) := ⟨rfl, rfl, rfl, by decide +kernel, rfl, by decide +kernel, by decide +kernel⟩
def spLLink (K : PySem.W.Frag) : Sp := fun vs H Q _ => ∃ (v : V) (N : Net) (x y : Int), vs = [v, .int x, .int y] ∧ Dp K H v (netD N) ∧ ∀ H', Same H H' → Q (oV (linkW N.ls x y)) H'
section
variable {P : Program} {w : World} {K : PySem.W.Frag} {mg : Str → Option Value} {base : Heap}
theorem ok_llink {f : Addr} {fd : FuncData} {k : Nat} (F : Fun K "_law_link" "_law_link" sLLink f fd) : FnOk P w K mg base CX0 (k + 1) f fd ["net", "x", "y"] (spLLink K) := by
  refine F.ok scLLink (fun vs H Q E h => ?_) (fun cdv A outer s H vs Q E hr h => ?_)
  · obtain ⟨v, N, x, y, rfl, _⟩ := h
    rfl
  · obtain ⟨v, N, x, y, rfl, hN, q⟩ := h
    refine ⟨_, pss_cons (ps_for PassesOwn.never rfl (pi_list (pe_ix ix_tup (pv 0) pe_int (fun _ _ => rfl))) (pg_tup rfl (pgs_cons (pg_name (i := 3) scLLink.nd rfl (.inl rfl)) (pgs_cons (pg_name (i := 4) scLLink.nd rfl (.inl rfl)) (pgs_cons (pg_name (i := 5) scLLink.nd rfl (.inl rfl)) (pgs_cons (pg_name (i := 6) scLLink.nd rfl (.inl rfl)) pgs_nil)))))
      (pss_cons (ps_if (pt_cmpR (op_eqD hr.units) (pe_tup (pa_cons (pv 3) (pa_cons (pv 4) pa_nil))) (pe_tup (pa_cons (pv 1) (pa_cons (pv 2) pa_nil))) (nomark _))
        (pss_one (ps_ret (pv 5)))
        pss_nil)
        (pss_one (ps_if (pt_cmpR (op_eqD hr.units) (pe_tup (pa_cons (pv 4) (pa_cons (pv 3) pa_nil))) (pe_tup (pa_cons (pv 1) (pa_cons (pv 2) pa_nil))) (nomark _))
        (pss_one (ps_ret (pv 6)))
        pss_nil))))
      (pss_one (ps_ret pe_non)), ?_⟩
    obtain ⟨p, c, xs, rfl, hp, hc, hx⟩ := Dp.net_inv hN
    refine (q_forLnk (vl_ixT (K := K) (vl_var rfl) vl_c hp (atI_nat (j := 1) rfl)) hc hx (Same.refl H) (fun i σ H' => Same H H' ∧ (∃ y3 y4 y5 y6, σ = [some (.ref p), some (.int x), some (.int y), y3, y4, y5, y6]) ∧ linkW N.ls x y = linkW (N.ls.drop i) x y) ⟨Same.refl H, ⟨none, none, none, none, rfl⟩, rfl⟩ (fun _ _ _ h => h.1) (fun i l σ H1 hi hP => ?_) (fun σ H1 hP => ?_))
    · obtain ⟨s1, ⟨y3, y4, y5, y6, rfl⟩, he⟩ := hP
      have hd : N.ls.drop i = l :: N.ls.drop (i + 1) := by
        obtain ⟨hlt, e⟩ := List.getElem?_eq_some_iff.mp hi
        rw [List.drop_eq_getElem_cons hlt, e]
      rw [hd] at he
      refine q_whenx (ax_eqTT (fun _ _ => vl_var rfl) (fun _ _ => vl_var rfl) (fun _ _ => vl_var rfl) (fun _ _ => vl_var rfl)) (fun hb H2 s2 => ?_) (fun hb H2 s2 => ?_)
      · refine g_ret (vl_var rfl) ?_
        have z : linkW N.ls x y = l.t := he.trans (if_pos (of_decide_eq_true hb))
        rw [← z]
        exact q H2 (s1.trans s2)
      · have n1 := of_decide_eq_false hb
        refine g_whenx (ax_eqTT (fun _ _ => vl_var rfl) (fun _ _ => vl_var rfl) (fun _ _ => vl_var rfl) (fun _ _ => vl_var rfl)) (fun hb H3 s3 => ?_) (fun hb H3 s3 => ?_)
        · refine g_ret (vl_var rfl) ?_
          have z : linkW N.ls x y = l.k := he.trans ((if_neg n1).trans (if_pos (of_decide_eq_true hb)))
          rw [← z]
          exact q H3 ((s1.trans s2).trans s3)
        · have n2 := of_decide_eq_false hb
          exact ⟨(s1.trans s2).trans s3, ⟨_, _, _, _, rfl⟩, he.trans ((if_neg n1).trans (if_neg n2))⟩
    · obtain ⟨s1, _, he⟩ := hP
      rw [List.drop_length] at he
      have z : linkW N.ls x y = none := he
      refine g_ret (v := oV (linkW N.ls x y)) ?_ (q H1 s1)
      rw [z]
      exact vl_c
end
section
variable {K : PySem.W.Frag} {σ : L2.St} {H : Hp} {ta tb te tl : TE} {tt : TT} {v : V}
/-- [f x for x in xs if ..], the test makes objects on its way -/
theorem vn_lcIX {j : Nat} {ns : List Int} {pb : Int → Bool} {f : Int → V} (hl : ∀ Q : VK, (∀ a H1, Same H H1 → SqL K H1 a (ns.map V.int) → Q (.ref a) H1) → tl σ H Q) (hz : ns.length ≤ 1000000)
    (ht : ∀ x ∈ ns, ∀ H', Same H H' → Ax tt ((σ.set j none).set j (some (.int x))) H' (pb x)) (he : ∀ x ∈ ns, ∀ H', Same H H' → Vl te ((σ.set j none).set j (some (.int x))) H' (f x)) :
    Vn (tLc (iList K tl) (gName j) tt te [j]) σ H ((ns.filter pb).map f) := fun Q q => by
  refine hl _ fun a H1 s1 hx => ⟨a, rfl, ⟨_, hx⟩, fun D nD => lc_list (xs := ns.map V.int) (fun i H' => H' D = some (.lst (((ns.take i).filter pb).map f)) ∧ Same H1 H') ⟨upd_same, same_upd nD⟩ (fun i H' _ hP => hP.2.seq hx) (fun i x H2 hi hP => ?_) (fun H2 hP => ?_)⟩
  · obtain ⟨hD, s2⟩ := hP
    rw [List.getElem?_map] at hi
    cases hg : ns[i]? with
    | none =>
      rw [hg] at hi
      cases hi
    | some n =>
      rw [hg] at hi
      cases hi
      have hm := List.mem_of_getElem? hg
      have e : (ns.take (i + 1)).filter pb = (ns.take i).filter pb ++ [n].filter pb := by
        rw [take_snoc hg]
        exact List.filter_append ..
      refine ⟨?_, ht n hm H2 (s1.trans s2) _ fun H3 s3 => ?_⟩
      · show ((σ.set j none).set j (some (V.int n))).set j none = σ.set j none
        rw [List.set_set, List.set_set]
      · cases hp : pb n with
        | true =>
          have e2 : [n].filter pb = [n] := by
            rw [List.filter_cons, hp]
            rfl
          refine iteT (B := H3 D = some (.lst (((ns.take (i + 1)).filter pb).map f)) ∧ Same H1 H3) (he n hm H3 ((s1.trans s2).trans s3) _ ⟨_, s3 _ _ hD, ?_, ?_, same_upd' (s2.trans s3) nD⟩)
          · rw [List.length_map]
            have h1 : ((ns.take i).filter pb).length ≤ ns.length := Nat.le_trans (List.length_filter_le _ _) (by rw [List.length_take]; exact Nat.min_le_right _ _)
            exact Nat.lt_of_le_of_lt (m := 1000000) (by omega) (by decide)
          · rw [upd_same, e, e2, List.map_append]
            rfl
        | false =>
          have e2 : [n].filter pb = [] := by
            rw [List.filter_cons, hp]
            rfl
          refine iteF ⟨?_, s2.trans s3⟩
          rw [e, e2, List.append_nil]
          exact s3 _ _ hD
  · obtain ⟨hD, s2⟩ := hP
    rw [show ns.take (ns.map V.int).length = ns by rw [List.length_map, List.take_length]] at hD
    exact q D H2 (s1.trans s2) (Same.free s1 nD) hD
theorem lay_pairs : ∀ L : List (Int × Int), PyData.canLayAll0 (L.map pairD2) = true ∧ PyData.depthAll (L.map pairD2) ≤ 1
  | [] => ⟨rfl, Nat.zero_le _⟩
  | x :: L => by
    have ih := lay_pairs L
    constructor
    · show ((true && (true && true)) && PyData.canLayAll0 (L.map pairD2)) = true
      rw [ih.1]
      rfl
    · show max (max 0 (max 0 0) + 1) (PyData.depthAll (L.map pairD2)) ≤ 1
      have := ih.2
      simp only [Nat.max_self, Nat.zero_add]
      omega
theorem shaped_pairs (L : List (Int × Int)) : SeqAt.shaped (.list (L.map pairD2)) = true := by
  have h := lay_pairs L
  show (PyData.canLayAll0 (L.map pairD2) && decide (PyData.depthAll (L.map pairD2) + 1 ≤ 64)) = true
  rw [h.1, decide_eq_true (show PyData.depthAll (L.map pairD2) + 1 ≤ 64 by
    have := h.2
    omega)]
  rfl
theorem any_pairs (L : List (Int × Int)) (p q : Int) : ((L.map pairD2).any fun z => PyData.eqv z (.tuple [.int p, .int q])) = decide ((p, q) ∈ L) := by
  rw [Bool.eq_iff_iff, List.any_eq_true, decide_eq_true_eq]
  have e : ∀ x : Int × Int, PyData.eqv (pairD2 x) (.tuple [.int p, .int q]) = decide (x = (p, q)) := fun x => by
    obtain ⟨a, b⟩ := x
    show (a == p && (b == q && true)) = _
    rw [Bool.and_true, Bool.eq_iff_iff]
    simp
  constructor
  · rintro ⟨z, hz, hq⟩
    obtain ⟨x, hx, rfl⟩ := List.mem_map.mp hz
    rw [e, decide_eq_true_eq] at hq
    rw [← hq]
    exact hx
  · intro h
    refine ⟨_, List.mem_map_of_mem h, ?_⟩
    rw [e, decide_eq_true rfl]
theorem ax_inP {p q : Int} {f : V} {L : List (Int × Int)} {tf : TE} (ha : ∀ H', Same H H' → Vl ta σ H' (.int p)) (hb : ∀ H', Same H H' → Vl tb σ H' (.int q)) (hf : ∀ H', Same H H' → Vl tf σ H' f) (hd : Dp K H f (.list (L.map pairD2))) :
    Ax (tTest (tOp (rInD K) (tTup (tCons ta (tCons tb tNil))) tf)) σ H (decide ((p, q) ∈ L)) := fun Q k =>
  ha H (Same.refl H) _ (hb H (Same.refl H) _ ⟨by show 2 ≤ sizeLine; decide, fun T nT => by
    have s1 : Same H (upd H T (.tup [.int p, .int q])) := same_upd nT
    refine hf _ s1 _ ⟨.tuple [.int p, .int q], L.map pairD2, .tup (.of upd_same) (.cons (.int _) (.cons (.int _) .nil)), Dp.to hd s1, by rfl, shaped_pairs L, _, rfl, ?_⟩
    rw [any_pairs]
    exact k _ s1⟩)
end
theorem scLower : FnScope ["found", "order", "low", "high", "w"] ["found", "order", "low", "high"] (defScope sLower) := ⟨rfl, rfl, rfl, by decide +kernel, rfl, by decide +kernel, by decide +kernel⟩
def lowerL (L : List (Int × Int)) (os : List Int) (u v : Int) : List Int := os.filter fun w => decide ((w, u) ∈ L) && decide ((w, v) ∈ L)
def spLower (K : PySem.W.Frag) : Sp := fun vs H Q _ => ∃ (f : V) (L : List (Int × Int)) (o : Addr) (os : List Int) (u v : Int), vs = [f, .ref o, .int u, .int v] ∧ Dp K H f (.list (L.map pairD2)) ∧ SqL K H o (os.map V.int) ∧ os.length ≤ 1000 ∧
  ∀ p H', Same H H' → H p = none → H' p = some (.lst ((lowerL L os u v).map V.int)) → Q (.ref p) H'
section
variable {P : Program} {w : World} {K : PySem.W.Frag} {mg : Str → Option Value} {base : Heap}
theorem ok_lower {f : Addr} {fd : FuncData} {k : Nat} (F : Fun K "_law_lower" "_law_lower" sLower f fd) : FnOk P w K mg base CX0 (k + 1) f fd ["found", "order", "low", "high"] (spLower K) := by
  refine F.ok scLower (fun vs H Q E h => ?_) (fun cdv A outer s H vs Q E hr h => ?_)
  · obtain ⟨f, L, o, os, u, v, rfl, _⟩ := h
    rfl
  · obtain ⟨f, L, o, os, u, v, rfl, hF, hO, hz, q⟩ := h
    refine ⟨_, pss_one (ps_ret (pe_lc (own := [("w", 4)]) (g := gName 4) (tt := (tAnd (tTest (tOp (rInD K) (tTup (tCons (tVar 4) (tCons (tVar 2) tNil))) (tVar 0))) (tTest (tOp (rInD K) (tTup (tCons (tVar 4) (tCons (tVar 3) tNil))) (tVar 0))))) (te := (tVar 4)) (by rfl) scLower.nd (pi_list (pv 1)) (blkOk_by (own := [("w", 4)]) (N := ["found", "order", "low", "high", "w"]) (sc := defScope sLower) (by decide +kernel)) (fun _ _ _ _ _ => pg_name (i := 4) scLower.nd rfl (Or.inl rfl)) (fun _ _ _ _ _ => by exact (pts_one (PW.pt (pw_and (pt_cmpR (op_inD (room65 hr)) (pe_tup (pa_cons (pv 4) (pa_cons (pv 2) pa_nil))) (pv 0) (by rfl)) (pw_and1 (pt_cmpR (op_inD (room65 hr)) (pe_tup (pa_cons (pv 4) (pa_cons (pv 3) pa_nil))) (pv 0) (by rfl))))))) (fun _ _ _ _ _ => by exact (pv 4)))), ?_⟩
    refine (vn_lcIX (f := V.int) (pb := fun w => decide ((w, u) ∈ L) && decide ((w, v) ∈ L)) (vx_list (vl_var rfl) hO) (by omega) (fun x _ H1 s1 => ax_and (ax_inP (fun _ _ => vl_var rfl) (fun _ _ => vl_var rfl) (fun _ _ => vl_var rfl) (Dp.to hF s1)) (fun _ H2 s2 => ax_inP (fun _ _ => vl_var rfl) (fun _ _ => vl_var rfl) (fun _ _ => vl_var rfl) (Dp.to hF (s1.trans s2)))) (fun x _ H1 _ => vl_var rfl)) _ fun p H' s' np e => q p H' s' np e
end
end Ovc
namespace PySem.W
open PySem PySem.Calls PyProof.Rows PySem.Spec
section
variable {prog : Program} {w : World} {K : Type} [DecidableEq K] {knd : HeapKind prog w K} {A : Around} {E : Value → Shared → Prop} {s : Shared} {a b : Addr} {xs ys : List (K × Addr × Value)}
def HitsH (prog : Program) (w : World) (A : Around) (s : Shared) (xs ys : List (K × Addr × Value)) : Prop := ∀ x ∈ xs, (∃ (j : Nat) (p : Addr × Value), ys[j]? = some (x.1, p)) ∧ ∀ (j : Nat) (p : Addr × Value), ys[j]? = some (x.1, p) → SeqAt.EqP prog w A s x.2.2 p.2 true
/-- the dicts whose keys stand in the heap, all their values equal -/
theorem samePairsH {nm : String} {Q : Bool → Shared → Prop} (ha : (a == sysModules) = false) (hb : (b == sysModules) = false) (da : s.heap.DictOfH knd a xs) (db : s.heap.DictOfH knd b ys) (hu : knd.room A) (hl : xs.length = ys.length) (hits : HitsH prog w A s xs ys) (h : Q true s) :
    wpAny (model prog w) A (Builtin.Dict.samePairs nm a b) Q E s := by
  obtain ⟨oa, es, ep, hoa, _, hda, hea, hia, hna⟩ := da
  obtain ⟨ob, es', ep', hob, _, hdb, heb, hib, hnb⟩ := db
  have hla := size_of_entries hea
  have hlb := size_of_entries heb
  unfold Builtin.Dict.samePairs Builtin.Dict.showsAll
  rw [if_neg (show ¬ (a == sysModules) = true by rw [ha]; exact Bool.false_ne_true), if_neg (show ¬ (b == sysModules) = true by rw [hb]; exact Bool.false_ne_true)]
  refine wpAny_bind (wpAny_pure (wpAny_bind (wpAny_pure ?_)))
  refine wpAny_bind (wpAny_dictEntries hoa hda ?_)
  dsimp only
  refine wpAny_bind (wpAny_dictEntries hob hdb ?_)
  have hsz : es.size = es'.size := by omega
  rw [if_neg (by rw [hsz]; simp)]
  refine wpAny_bind (wpAny_dictEpoch hoa hda ?_)
  refine wpAny_bind ?_
  rw [Std.Legacy.Range.forIn_eq_forIn_range']
  simp only [Std.Legacy.Range.size, Nat.sub_zero, Nat.add_sub_cancel, Nat.div_one]
  refine wpAny_forIn_list _ (fun rest q s' => s' = s ∧ q = (none, ()) ∧ ∃ i, rest = List.range' i (es.size - i) ∧ i ≤ es.size) _ ?_ ?_ _ _ ⟨rfl, rfl, 0, by simp, Nat.zero_le _⟩
  · rintro x rest q s' ⟨rfl, rfl, i, hr, hi⟩
    have hlt : i < es.size := by
      rcases Nat.lt_or_ge i es.size with h | h
      · exact h
      · rw [Nat.sub_eq_zero_of_le h] at hr
        simp at hr
    obtain ⟨rfl, hrest⟩ : x = i ∧ rest = List.range' (i + 1) (es.size - (i + 1)) := by
      have e : es.size - i = (es.size - (i + 1)) + 1 := by omega
      rw [e, List.range'_succ] at hr
      injection hr with h1 h2
      exact ⟨h1, h2⟩
    have hx' : x < xs.length := by omega
    have hm : xs[x] ∈ xs := List.getElem_mem hx'
    have hx : es[x]? = some (entryOfKey knd xs[x]) := by
      rw [entry_at hea, List.getElem?_eq_getElem hx']
      rfl
    refine wpAny_bind (wpAny_dictEntries hoa hda ?_)
    rw [hx]
    show wpAny _ _ (holding [(entryOfKey knd xs[x]).key, (entryOfKey knd xs[x]).val] _ >>= _) _ _ _
    refine wpAny_bind (wpAny_holding (wpAny_bind (wpAny_dictFind_heap hu (hia _ hm) hob hdb heb hib hnb (fun hno => ?_) (fun j p hj => ?_))))
    · obtain ⟨⟨j, p, hj⟩, _⟩ := hits _ hm
      exact absurd hj (hno j p)
    · have hy : es'[j]? = some (entryOfKey knd (xs[x].1, p)) := by
        rw [entry_at heb, hj]
        rfl
      refine wpAny_bind (wpAny_dictEntries hob hdb ?_)
      rw [hy]
      refine wpAny_holding ((hits _ hm).2 j p hj _ _ ?_)
      show wpAny _ _ (if (!true) = true then _ else _) _ _ _
      rw [if_neg (by decide)]
      refine wpAny_bind (wpAny_dictEpoch hoa hda ?_)
      rw [if_neg (by simp)]
      exact wpAny_pure ⟨rfl, rfl, x + 1, hrest, hlt⟩
  · rintro q s' ⟨rfl, rfl, i, hr, hi⟩
    refine wpAny_pure ?_
    exact h
theorem eqH_dicts {Q : Value → Shared → Prop} (ha : (a == sysModules) = false) (hb : (b == sysModules) = false) (da : s.heap.DictOfH knd a xs) (db : s.heap.DictOfH knd b ys) (hu : A.units < cLine) (hr : knd.room A.in1) (hl : xs.length = ys.length)
    (hits : HitsH prog w A.in1 s xs ys) (h : Q (.bool true) s) : wpAny (model prog w) A (compareOp .Eq (.ref a) (.ref b)) Q E s := by
  refine wpAny_richCompare_same_room (op := .Eq) da.typeIs db.typeIs PySem.F.slot_dict_eq (wpAny_call_entry PySem.F.slot_dict_eq da.typeIs PySem.F.entry_dict_eq ?_ (PySem.F.args_dict_eq_2 _ _)) hu
  show wpAny _ _ (Builtin.Dict.dictSlotArgs "__eq__" ⟨[.ref a, .ref b], []⟩ >>= _) _ _ s
  refine wpAny_bind ?_
  unfold Builtin.Dict.dictSlotArgs
  refine wpAny_bind (wpAny_notOrdered_dict da.typeIs ?_)
  show wpAny _ _ (pure (Value.ref a, Value.ref b)) _ _ s
  refine wpAny_pure ?_
  refine wpAny_bind (wpAny_isInstance (T := "dict") db.typeIs PySem.F.sub_dict_dict ?_)
  simp only [Bool.not_true, Bool.false_eq_true, if_false]
  refine wpAny_bind (wpAny_pure (wpAny_bind (wpAny_pure ?_)))
  refine wpAny_bind (samePairsH ha hb da db hr hl hits ?_)
  refine wpAny_pure ⟨_, rfl, ?_, ?_⟩
  · exact fun x => nomatch x
  · simpa using h
theorem neH_dicts {Q : Value → Shared → Prop} (ha : (a == sysModules) = false) (hb : (b == sysModules) = false) (da : s.heap.DictOfH knd a xs) (db : s.heap.DictOfH knd b ys) (hu : A.units < cLine) (hr : knd.room A.in1) (hl : xs.length = ys.length)
    (hits : HitsH prog w A.in1 s xs ys) (h : Q (.bool false) s) : wpAny (model prog w) A (compareOp .NotEq (.ref a) (.ref b)) Q E s := by
  refine wpAny_richCompare_same_room (op := .NotEq) da.typeIs db.typeIs PySem.F.slot_dict_ne (wpAny_call_entry PySem.F.slot_dict_ne da.typeIs PySem.F.entry_dict_ne ?_ (PySem.F.args_dict_ne_2 _ _)) hu
  show wpAny _ _ (Builtin.Dict.dictSlotArgs "__ne__" ⟨[.ref a, .ref b], []⟩ >>= _) _ _ s
  refine wpAny_bind ?_
  unfold Builtin.Dict.dictSlotArgs
  refine wpAny_bind (wpAny_notOrdered_dict da.typeIs ?_)
  show wpAny _ _ (pure (Value.ref a, Value.ref b)) _ _ s
  refine wpAny_pure ?_
  refine wpAny_bind (wpAny_isInstance (T := "dict") db.typeIs PySem.F.sub_dict_dict ?_)
  simp only [Bool.not_true, Bool.false_eq_true, if_false]
  refine wpAny_bind (wpAny_pure (wpAny_bind (wpAny_pure ?_)))
  refine wpAny_bind (samePairsH ha hb da db hr hl hits ?_)
  refine wpAny_pure ⟨_, rfl, ?_, ?_⟩
  · exact fun x => nomatch x
  · simpa using h
end
end PySem.W
namespace L2
open PySem PySem.Spec PyProof.Rows
section
variable {X : Cx} {pins : List (Addr × Obj)} {σ : L2.St} {H : Hp} {s : Shared} {a b : Addr} {ks ls : List (List L2.Key × V)}
theorem atKey_get {K : Type} [DecidableEq K] {xs : List (K × Addr × Value)} {k : K} {p : Addr × Value} (h : atKey xs k = some p) : ∃ j : Nat, xs[j]? = some (k, p) := by
  unfold atKey at h
  obtain ⟨x, hx, e⟩ := Option.map_eq_some_iff.mp h
  have hm := List.mem_of_find?_eq_some hx
  have hk := List.find?_some hx
  obtain ⟨j, hj⟩ := List.mem_iff_getElem?.mp hm
  refine ⟨j, ?_⟩
  rw [hj]
  obtain ⟨k', p'⟩ := x
  have e1 : k' = k := of_decide_eq_true hk
  have e2 : p' = p := e
  rw [e1, e2]
/-- two dicts by tuples that are equal -/
def EqT (K : PySem.W.Frag) (H : Hp) (ks ls : List (List L2.Key × V)) : Prop := ks.length = ls.length ∧ ∀ p ∈ ks, ∃ u, valV ls p.1 = some u ∧ EqV K H 50 p.2 u
theorem hitsT (I : Inv X pins σ H s) {A : Around} (hu : A.units + 50 < cLine) : ∀ {ks : List (List L2.Key × V)} {xs : List (List L2.Key × Addr × Value)}, KT H ks xs → ∀ {ys : List (List L2.Key × Addr × Value)}, KT H ls ys → (ys.map (·.1)).Nodup → (∀ p ∈ ks, ∃ u, valV ls p.1 = some u ∧ EqV X.K H 50 p.2 u) →
    PySem.W.HitsH X.prog X.w A s xs ys := by
  intro ks xs q
  induction q with
  | nil => intro ys _ _ _ x hx; exact nomatch hx
  | @cons p q ps qs hq t ih =>
    intro ys hy hn hp x hx
    rcases List.mem_cons.mp hx with e | hx
    · subst e
      obtain ⟨e1, _, r1⟩ := hq
      obtain ⟨u, hv, he⟩ := hp p List.mem_cons_self
      obtain ⟨w', hw, rw'⟩ := RelO.some_of (v := u) (o := (atKey ys p.1).map (·.2)) (by rw [← hv]; exact KT.val hy p.1)
      obtain ⟨pr, hpr, hp2⟩ := Option.map_eq_some_iff.mp hw
      constructor
      · obtain ⟨j, hj⟩ := atKey_get hpr
        exact ⟨j, pr, by rw [← e1]; exact hj⟩
      · intro j pr' hj
        have e2 : atKey ys p.1 = some pr' := by
          rw [e1]
          exact atKey_of_get hn hj
        rw [hpr] at e2
        cases e2
        refine eqV_run I 50 A hu p.2 u _ _ he r1 ?_
        rw [hp2]
        exact rw'
    · exact ih hy hn (fun p' hm => hp p' (List.mem_cons_of_mem _ hm)) x hx
def rEqT (K : PySem.W.Frag) : R2 := fun x y H Q => ∃ a b ks ls, x = .ref a ∧ y = .ref b ∧ H a = some (.dT ks) ∧ H b = some (.dT ls) ∧ EqT K H ks ls ∧ Q (.bl true) H
def rNeT (K : PySem.W.Frag) : R2 := fun x y H Q => ∃ a b ks ls, x = .ref a ∧ y = .ref b ∧ H a = some (.dT ks) ∧ H b = some (.dT ls) ∧ EqT K H ks ls ∧ Q (.bl false) H
theorem op_eqT (hu : X.A.units + 64 < cLine) : OpR X (compareOp .Eq) (rEqT X.K) := by
  intro pins s σ H x y v u Q I rx ry h
  obtain ⟨a, b, ks, ls, rfl, rfl, ea, eb, ⟨hl, hp⟩, q⟩ := h
  obtain rfl : v = Value.ref a := rx
  obtain rfl : u = Value.ref b := ry
  obtain ⟨_, ya, xs, ra, da⟩ := dt_of I.hok ea
  obtain ⟨_, yb, ys, rb, db⟩ := dt_of I.hok eb
  have hn := db
  obtain ⟨_, _, _, _, _, _, _, _, hn⟩ := hn
  exact PySem.W.eqH_dicts ya yb da db (by omega) (tupleKind_room_in1 (by omega)) (by rw [← ra.length, ← rb.length]; exact hl) (hitsT I (A := X.A.in1) (by show X.A.units + 1 + 50 < cLine; omega) ra rb hn hp) ⟨.bl true, H, I, rfl, q⟩
theorem op_neT (hu : X.A.units + 64 < cLine) : OpR X (compareOp .NotEq) (rNeT X.K) := by
  intro pins s σ H x y v u Q I rx ry h
  obtain ⟨a, b, ks, ls, rfl, rfl, ea, eb, ⟨hl, hp⟩, q⟩ := h
  obtain rfl : v = Value.ref a := rx
  obtain rfl : u = Value.ref b := ry
  obtain ⟨_, ya, xs, ra, da⟩ := dt_of I.hok ea
  obtain ⟨_, yb, ys, rb, db⟩ := dt_of I.hok eb
  have hn := db
  obtain ⟨_, _, _, _, _, _, _, _, hn⟩ := hn
  exact PySem.W.neH_dicts ya yb da db (by omega) (tupleKind_room_in1 (by omega)) (by rw [← ra.length, ← rb.length]; exact hl) (hitsT I (A := X.A.in1) (by show X.A.units + 1 + 50 < cLine; omega) ra rb hn hp) ⟨.bl false, H, I, rfl, q⟩
end
end L2
namespace Ovc
open PySem PySem.Spec PyProof.Rows L2
end Ovc
namespace Ovc
open PySem PySem.Spec PyProof.Rows L2
/-! ### how long a text of data is -/
theorem textFrom_le : ∀ (ts : List Str) (k : Nat) (acc : Str), (textFrom k acc ts).length ≤ acc.length + piled ts
  | [], k, acc => Nat.le_add_right _ _
  | t :: r, k, acc => by
    have h := textFrom_le r (k + 1) (acc ++ (if k > 0 then ", " else "" : String) ++ t)
    have e : (acc ++ (if k > 0 then ", " else "" : String) ++ t).length ≤ acc.length + 2 + t.length := by
      rw [strLen_append, strLen_append]
      split
      · have : (Str.ofString ", ").length = 2 := by decide +kernel
        omega
      · have : (Str.ofString "").length = 0 := by decide +kernel
        omega
    show (textFrom (k + 1) _ r).length ≤ acc.length + piled (t :: r)
    rw [piled_cons]
    omega
theorem listText_le (ts : List Str) : (listText ts).length ≤ piled ts + 2 := by
  unfold listText
  rw [strLen_append]
  have h := textFrom_le ts 0 "["
  have e1 : ("[" : Str).length = 1 := by decide +kernel
  have e2 : ("]" : Str).length = 1 := by decide +kernel
  omega
theorem tupleText_le (ts : List Str) : (tupleText ts).length ≤ piled ts + 4 := by
  unfold tupleText
  rw [strLen_append, strLen_append]
  have e1 : ("(" : Str).length = 1 := by decide +kernel
  have e2 : ((if ts.length == 1 then ",)" else ")" : String) : Str).length ≤ 2 := by
    split
    · exact Nat.le_of_eq (by decide +kernel)
    · exact Nat.le_trans (Nat.le_of_eq (by decide +kernel)) (show 1 ≤ 2 by decide)
  by_cases h : ts = []
  · subst h
    have e3 : (Str.join ", " []).length = 0 := by decide +kernel
    omega
  · have := join_length_add ts h
    omega
theorem piled_le {ds : List PyData} {m : Nat} (h : ∀ d ∈ ds, d.shown.length ≤ m) : piled (PyData.shownAll ds) ≤ ds.length * (m + 2) := by
  induction ds with
  | nil => exact Nat.zero_le _
  | cons d r ih =>
    show piled (d.shown :: PyData.shownAll r) ≤ _
    rw [piled_cons, List.length_cons, Nat.succ_mul]
    have h1 := h d List.mem_cons_self
    have h2 := ih fun x hx => h x (List.mem_cons_of_mem _ hx)
    omega
theorem shown_int {i : Int} (h0 : 0 ≤ i) (h1 : i ≤ 10000000) : (PyData.int i).shown.length ≤ 10 := PySem.W.KT.len_num h0 (by omega)
theorem shown_o {o : Option Int} (h : PriceOk o) : (oD o).shown.length ≤ 10 := by
  cases o with
  | none =>
    show ("None" : Str).length ≤ 10
    decide +kernel
  | some x =>
    have := h x rfl
    exact shown_int (by omega) (by omega)
theorem showable_int {i : Int} (h0 : 0 ≤ i) (h1 : i ≤ 10000000) : (PyData.int i).showable = true := by
  refine decide_eq_true ?_
  by_cases hz : i.natAbs = 0
  · rw [hz]
    decide
  · rw [Nat.log2_lt hz]
    have h : i.natAbs < 2 ^ 24 := by omega
    exact Nat.lt_of_lt_of_le h (Nat.pow_le_pow_right (by decide : 2 > 0) (show 24 ≤ 1920 by decide))
theorem showable_o {o : Option Int} (h : PriceOk o) : (oD o).showable = true := by
  cases o with
  | none => rfl
  | some x =>
    have := h x rfl
    exact showable_int (by omega) (by omega)
theorem showable_all {ds : List PyData} (h : ∀ d ∈ ds, d.showable = true) : PyData.showableAll ds = true := by
  induction ds with
  | nil => rfl
  | cons d r ih =>
    show (d.showable && PyData.showableAll r) = true
    rw [h d List.mem_cons_self, ih fun x hx => h x (List.mem_cons_of_mem _ hx)]
    rfl
/-- what repr asks of data -/
structure ShowOk (d : PyData) (m : Nat) : Prop where
  sh : d.showable = true
  nd : d.hasDict = false
  dep : d.depth ≤ 10
  len : d.shown.length ≤ m
theorem showOk_net {N : Net} (ok : NetOk N) : ShowOk (netD N) 200000 := by
  have n1 := ok.n1
  have n40 := ok.n40
  have l16 := ok.len
  have hl : ∀ d ∈ N.ls.map lnkD, d.shown.length ≤ 60 ∧ d.showable = true := fun d hd => by
    obtain ⟨l, hl, rfl⟩ := List.mem_map.mp hd
    have h := ok.ok l hl
    have a0 := h.a0
    have ab := h.ab
    have bn := h.bn
    have s1 := shown_int (i := l.a) (by omega) (by omega)
    have s2 := shown_int (i := l.b) (by omega) (by omega)
    have s3 := shown_o h.t
    have s4 := shown_o h.k
    constructor
    · show (tupleText (PyData.shownAll [.int l.a, .int l.b, oD l.t, oD l.k])).length ≤ 60
      have := tupleText_le (PyData.shownAll [.int l.a, .int l.b, oD l.t, oD l.k])
      have p := piled_le (ds := [.int l.a, .int l.b, oD l.t, oD l.k]) (m := 10) (fun d hd => by
        simp only [List.mem_cons, List.not_mem_nil, or_false] at hd
        rcases hd with rfl | rfl | rfl | rfl <;> assumption)
      have e : ([.int l.a, .int l.b, oD l.t, oD l.k] : List PyData).length = 4 := rfl
      rw [e] at p
      omega
    · show (PyData.showableAll [.int l.a, .int l.b, oD l.t, oD l.k]) = true
      refine showable_all fun d hd => ?_
      simp only [List.mem_cons, List.not_mem_nil, or_false] at hd
      rcases hd with rfl | rfl | rfl | rfl
      · exact showable_int (by omega) (by omega)
      · exact showable_int (by omega) (by omega)
      · exact showable_o h.t
      · exact showable_o h.k
  have p := piled_le (ds := N.ls.map lnkD) (m := 60) fun d hd => (hl d hd).1
  rw [List.length_map] at p
  have q := listText_le (PyData.shownAll (N.ls.map lnkD))
  have s1 := shown_int (i := N.n) (by omega) (by omega)
  refine ⟨?_, PyData.hasDict_of_canLay _ (lay_net N).1, Nat.le_trans (lay_net N).2 (by decide), ?_⟩
  · show (PyData.showableAll [.int N.n, .list (N.ls.map lnkD)]) = true
    refine showable_all fun d hd => ?_
    simp only [List.mem_cons, List.not_mem_nil, or_false] at hd
    rcases hd with rfl | rfl
    · exact showable_int (by omega) (by omega)
    · exact showable_all fun d hd => (hl d hd).2
  · show (tupleText (PyData.shownAll [.int N.n, .list (N.ls.map lnkD)])).length ≤ 200000
    have := tupleText_le (PyData.shownAll [.int N.n, .list (N.ls.map lnkD)])
    have p2 := piled_le (ds := [.int N.n, .list (N.ls.map lnkD)]) (m := 99902) (fun d hd => by
      simp only [List.mem_cons, List.not_mem_nil, or_false] at hd
      rcases hd with rfl | rfl
      · omega
      · show (listText (PyData.shownAll (N.ls.map lnkD))).length ≤ 99902
        omega)
    have e : ([.int N.n, .list (N.ls.map lnkD)] : List PyData).length = 2 := rfl
    rw [e] at p2
    omega
theorem showOk_ints {ns : List Int} (h : ∀ x ∈ ns, 0 ≤ x ∧ x ≤ 10000000) (hl : ns.length ≤ 1000) : ShowOk (.list (ns.map PyData.int)) 20000 := by
  have p := piled_le (ds := ns.map PyData.int) (m := 10) fun d hd => by
    obtain ⟨x, hx, rfl⟩ := List.mem_map.mp hd
    exact shown_int (h x hx).1 (h x hx).2
  rw [List.length_map] at p
  have q := listText_le (PyData.shownAll (ns.map PyData.int))
  refine ⟨?_, PyData.hasDict_of_canLay _ ((lay_ints ns).1), ?_, ?_⟩
  · refine showable_all fun d hd => ?_
    obtain ⟨x, hx, rfl⟩ := List.mem_map.mp hd
    exact showable_int (h x hx).1 (h x hx).2
  · show PyData.depthAll (ns.map PyData.int) + 1 ≤ 10
    rw [(lay_ints ns).2]
    decide
  · show (listText (PyData.shownAll (ns.map PyData.int))).length ≤ 20000
    omega
theorem showOk_pair {a b : PyData} {m : Nat} (ha : ShowOk a m) (hb : ShowOk b m) : (PyData.tuple [a, b]).showable = true ∧ (PyData.tuple [a, b]).hasDict = false ∧ (PyData.tuple [a, b]).depth ≤ 60 ∧ (PyData.tuple [a, b]).shown.length ≤ 2 * (m + 2) + 4 := by
  refine ⟨?_, ?_, ?_, ?_⟩
  · show (PyData.showableAll [a, b]) = true
    exact showable_all fun d hd => by
      simp only [List.mem_cons, List.not_mem_nil, or_false] at hd
      rcases hd with rfl | rfl
      · exact ha.sh
      · exact hb.sh
  · show (a.hasDict || (b.hasDict || false)) = false
    rw [ha.nd, hb.nd]
    rfl
  · show max a.depth (max b.depth 0) + 1 ≤ 60
    have := ha.dep
    have := hb.dep
    omega
  · have := tupleText_le (PyData.shownAll [a, b])
    have p := piled_le (ds := [a, b]) (m := m) (fun d hd => by
      simp only [List.mem_cons, List.not_mem_nil, or_false] at hd
      rcases hd with rfl | rfl
      · exact ha.len
      · exact hb.len)
    have e : ([a, b] : List PyData).length = 2 := rfl
    rw [e] at p
    show (tupleText (PyData.shownAll [a, b])).length ≤ _
    omega
/-! ### the rows of a filling -/
structure Row where
  u : Int
  v : Int
  up : Option Int
  dn : Option Int
  um : Option Int
  dm : Option Int
def rowV (r : Row) : List V := [.int r.u, .int r.v, oV r.up, oV r.dn, oV r.um, oV r.dm]
def rowD (r : Row) : PyData := .tuple [.int r.u, .int r.v, oD r.up, oD r.dn, oD r.um, oD r.dm]
def prR (rows : List Row) (x y : Int) : Option Int :=
  match rows.find? (fun r => decide (r.u = x ∧ r.v = y)) with
  | some r => r.up
  | none => match rows.find? (fun r => decide (r.u = y ∧ r.v = x)) with
    | some r => r.dn
    | none => none
def addO : Option Int → Option Int → Option Int
  | some a, some b => some (a + b)
  | _, _ => none
def bestStep (s : Int → Option Int) (acc : Option Int × Option Int) (w : Int) : Option Int × Option Int :=
  match s w with
  | none => acc
  | some t => match acc.1 with
    | none => (some t, some w)
    | some b => if t < b then (some t, some w) else acc
/-- the least of what stands first and of all s w, the first w of it -/
def bestF (o : Option Int) (s : Int → Option Int) (ws : List Int) : Option Int × Option Int := ws.foldl (bestStep s) (o, none)
structure FillOk (N : Net) (os : List Int) (rows : List Row) : Prop where
  pairs : rows.map (fun r => (r.u, r.v)) = pairsL N.ls os
  up : ∀ r ∈ rows, (r.up, r.um) = bestF (linkW N.ls r.u r.v) (fun w => addO (prR rows r.u w) (prR rows w r.v)) (lowerL (pairsL N.ls os) os r.u r.v)
  dn : ∀ r ∈ rows, (r.dn, r.dm) = bestF (linkW N.ls r.v r.u) (fun w => addO (prR rows r.v w) (prR rows w r.u)) (lowerL (pairsL N.ls os) os r.u r.v)
theorem prR_some {rows : List Row} {x y c : Int} (h : prR rows x y = some c) : (∃ r ∈ rows, r.u = x ∧ r.v = y ∧ r.up = some c) ∨ ∃ r ∈ rows, r.u = y ∧ r.v = x ∧ r.dn = some c := by
  unfold prR at h
  cases e : rows.find? (fun r => decide (r.u = x ∧ r.v = y)) with
  | some r =>
    rw [e] at h
    have h1 : r.u = x ∧ r.v = y := by simpa using List.find?_some e
    exact .inl ⟨r, List.mem_of_find?_eq_some e, h1.1, h1.2, h⟩
  | none =>
    rw [e] at h
    cases e2 : rows.find? (fun r => decide (r.u = y ∧ r.v = x)) with
    | some r =>
      rw [e2] at h
      have h1 : r.u = y ∧ r.v = x := by simpa using List.find?_some e2
      exact .inr ⟨r, List.mem_of_find?_eq_some e2, h1.1, h1.2, h⟩
    | none =>
      rw [e2] at h
      cases h
theorem addO_some {a b : Option Int} {c : Int} (h : addO a b = some c) : ∃ x y, a = some x ∧ b = some y ∧ c = x + y := by
  cases a with
  | none => cases h
  | some x =>
    cases b with
    | none => cases h
    | some y =>
      cases h
      exact ⟨x, y, rfl, rfl, rfl⟩
/-- what holds of all that is compared holds of the best -/
theorem best_all {P : Int → Prop} {M : Int → Prop} {s : Int → Option Int} : ∀ (ws : List Int) (acc : Option Int × Option Int), (∀ c, acc.1 = some c → P c) → (∀ w, acc.2 = some w → M w) → (∀ w ∈ ws, (∀ c, s w = some c → P c) ∧ M w) →
    (∀ c, (ws.foldl (bestStep s) acc).1 = some c → P c) ∧ ∀ w, (ws.foldl (bestStep s) acc).2 = some w → M w
  | [], acc, h1, h2, _ => ⟨h1, h2⟩
  | w :: ws, acc, h1, h2, h3 => by
    have hw := h3 w List.mem_cons_self
    refine best_all ws (bestStep s acc w) ?_ ?_ (fun x hx => h3 x (List.mem_cons_of_mem _ hx))
    · intro c hc
      unfold bestStep at hc
      cases e : s w with
      | none =>
        rw [e] at hc
        exact h1 c hc
      | some t =>
        rw [e] at hc
        cases e2 : acc.1 with
        | none =>
          simp only [e2] at hc
          cases hc
          exact hw.1 _ e
        | some b =>
          simp only [e2] at hc
          by_cases l : t < b
          · rw [if_pos l] at hc
            cases hc
            exact hw.1 _ e
          · rw [if_neg l] at hc
            exact h1 c hc
    · intro m hm
      unfold bestStep at hm
      cases e : s w with
      | none =>
        rw [e] at hm
        exact h2 m hm
      | some t =>
        rw [e] at hm
        cases e2 : acc.1 with
        | none =>
          simp only [e2] at hm
          cases hm
          exact hw.2
        | some b =>
          simp only [e2] at hm
          by_cases l : t < b
          · rw [if_pos l] at hm
            cases hm
            exact hw.2
          · rw [if_neg l] at hm
            exact h2 m hm
theorem linkW_ok : ∀ {ls : List Lnk} {n x y c : Int}, (∀ l ∈ ls, LnkOk n l) → linkW ls x y = some c → 1 ≤ c ∧ c ≤ 1000000
  | [], _, _, _, _, _, h => nomatch h
  | l :: r, n, x, y, c, ok, h => by
    unfold linkW at h
    have hl := ok l List.mem_cons_self
    by_cases c1 : l.a = x ∧ l.b = y
    · rw [if_pos c1] at h
      exact hl.t c h
    · rw [if_neg c1] at h
      by_cases c2 : l.b = x ∧ l.a = y
      · rw [if_pos c2] at h
        exact hl.k c h
      · rw [if_neg c2] at h
        exact linkW_ok (fun z hz => ok z (List.mem_cons_of_mem _ hz)) h
theorem mem_lowerL {L : List (Int × Int)} {os : List Int} {u v w : Int} : w ∈ lowerL L os u v ↔ w ∈ os ∧ (w, u) ∈ L ∧ (w, v) ∈ L := by
  unfold lowerL
  rw [List.mem_filter, Bool.and_eq_true, decide_eq_true_eq, decide_eq_true_eq]
section
variable {N : Net} {os : List Int} {rows : List Row}
theorem FillOk.pair (ok : NetOk N) (oo : OrdOk N.n os) (h : FillOk N os rows) {r : Row} (hr : r ∈ rows) : PairP N.ls os r.u r.v := by
  have e : (r.u, r.v) ∈ rows.map (fun r => (r.u, r.v)) := List.mem_map.mpr ⟨r, hr, rfl⟩
  rw [h.pairs] at e
  exact (mem_pairsL ok oo).mp e
/-- no price is more than doubled from one place to the next -/
theorem FillOk.bound (ok : NetOk N) (oo : OrdOk N.n os) (h : FillOk N os rows) : ∀ (k : Nat) (r : Row), r ∈ rows → posOf r.u os ≤ k → (∀ c, r.up = some c → 1 ≤ c ∧ c ≤ 1000000 * 2 ^ k) ∧ (∀ c, r.dn = some c → 1 ≤ c ∧ c ≤ 1000000 * 2 ^ k) ∧ (∀ w, r.um = some w → w ∈ os) ∧ ∀ w, r.dm = some w → w ∈ os := by
  intro k
  induction k with
  | zero =>
    intro r hr hk
    have base : ∀ w ∈ lowerL (pairsL N.ls os) os r.u r.v, False := fun w hw => by
      have p := (mem_pairsL ok oo).mp (mem_lowerL.mp hw).2.1
      have := p.1
      omega
    have b1 := best_all (P := fun c => 1 ≤ c ∧ c ≤ 1000000 * 2 ^ 0) (M := fun w => w ∈ os) (s := fun w => addO (prR rows r.u w) (prR rows w r.v)) (lowerL (pairsL N.ls os) os r.u r.v) (linkW N.ls r.u r.v, none) (fun c hc => by
      have := linkW_ok ok.ok hc
      omega) (fun w hw => nomatch hw) (fun w hw => (base w hw).elim)
    have b2 := best_all (P := fun c => 1 ≤ c ∧ c ≤ 1000000 * 2 ^ 0) (M := fun w => w ∈ os) (s := fun w => addO (prR rows r.v w) (prR rows w r.u)) (lowerL (pairsL N.ls os) os r.u r.v) (linkW N.ls r.v r.u, none) (fun c hc => by
      have := linkW_ok ok.ok hc
      omega) (fun w hw => nomatch hw) (fun w hw => (base w hw).elim)
    have e1 := h.up r hr
    have e2 := h.dn r hr
    unfold bestF at e1 e2
    rw [← e1] at b1
    rw [← e2] at b2
    exact ⟨b1.1, b2.1, b1.2, b2.2⟩
  | succ k ih =>
    intro r hr hk
    have pw : (1000000 : Int) * 2 ^ (k + 1) = 2 * (1000000 * 2 ^ k) := by
      rw [Int.pow_succ]
      omega
    have pos : (1 : Int) ≤ 2 ^ k := by
      have h0 : (0 : Int) < 2 ^ k := Int.pow_pos (by decide)
      omega
    have price : ∀ w z, w ∈ lowerL (pairsL N.ls os) os r.u r.v → (z = r.u ∨ z = r.v) → (∀ c, prR rows z w = some c → 1 ≤ c ∧ c ≤ 1000000 * 2 ^ k) ∧ ∀ c, prR rows w z = some c → 1 ≤ c ∧ c ≤ 1000000 * 2 ^ k := by
      intro w z hw hz
      have hm := mem_lowerL.mp hw
      have pu := (mem_pairsL ok oo).mp hm.2.1
      have pv := (mem_pairsL ok oo).mp hm.2.2
      have lz : posOf w os < posOf z os := by
        rcases hz with rfl | rfl
        · exact pu.1
        · exact pv.1
      have lw : posOf w os ≤ k := by
        have := pu.1
        omega
      have key : ∀ q ∈ rows, ((q.u = z ∧ q.v = w) → False) := fun q hq e => by
        have := (h.pair ok oo hq).1
        rw [e.1, e.2] at this
        omega
      constructor
      · intro c hc
        rcases prR_some hc with ⟨q, hq, e1, e2, _⟩ | ⟨q, hq, e1, e2, e3⟩
        · exact (key q hq ⟨e1, e2⟩).elim
        · exact (ih q hq (by rw [e1]; exact lw)).2.1 c e3
      · intro c hc
        rcases prR_some hc with ⟨q, hq, e1, e2, e3⟩ | ⟨q, hq, e1, e2, _⟩
        · exact (ih q hq (by rw [e1]; exact lw)).1 c e3
        · exact (key q hq ⟨e1, e2⟩).elim
    have b1 := best_all (P := fun c => 1 ≤ c ∧ c ≤ 1000000 * 2 ^ (k + 1)) (M := fun w => w ∈ os) (s := fun w => addO (prR rows r.u w) (prR rows w r.v)) (lowerL (pairsL N.ls os) os r.u r.v) (linkW N.ls r.u r.v, none) (fun c hc => by
      have := linkW_ok ok.ok hc
      omega) (fun w hw => nomatch hw) (fun w hw => ⟨fun c hc => by
        obtain ⟨x, y, hx, hy, rfl⟩ := addO_some hc
        have q1 := (price w r.u hw (.inl rfl)).1 x hx
        have q2 := (price w r.v hw (.inr rfl)).2 y hy
        omega, (mem_lowerL.mp hw).1⟩)
    have b2 := best_all (P := fun c => 1 ≤ c ∧ c ≤ 1000000 * 2 ^ (k + 1)) (M := fun w => w ∈ os) (s := fun w => addO (prR rows r.v w) (prR rows w r.u)) (lowerL (pairsL N.ls os) os r.u r.v) (linkW N.ls r.v r.u, none) (fun c hc => by
      have := linkW_ok ok.ok hc
      omega) (fun w hw => nomatch hw) (fun w hw => ⟨fun c hc => by
        obtain ⟨x, y, hx, hy, rfl⟩ := addO_some hc
        have q1 := (price w r.v hw (.inr rfl)).1 x hx
        have q2 := (price w r.u hw (.inl rfl)).2 y hy
        omega, (mem_lowerL.mp hw).1⟩)
    have e1 := h.up r hr
    have e2 := h.dn r hr
    unfold bestF at e1 e2
    rw [← e1] at b1
    rw [← e2] at b2
    exact ⟨b1.1, b2.1, b1.2, b2.2⟩
end
/-! ### the program's promises of a filling -/
def spFill (K : PySem.W.Frag) : Sp := fun vs H Q _ => ∃ (v : V) (N : Net) (p : Addr) (os : List Int), vs = [v, .ref p] ∧ Dp K H v (netD N) ∧ NetOk N ∧ SqL K H p (os.map V.int) ∧ OrdOk N.n os ∧
  ∀ H' q ts rows, Same H H' → H q = none → H' q = some (.lst ts) → DpAll K H' ts (rows.map rowD) → FillOk N os rows → Q (.ref q) H'
/-- the dict of lower places, its lists new in H' -/
structure LowD (H H' : Hp) (d : Addr) (kvs : List (List L2.Key × V)) (L : List (Int × Int)) (os : List Int) : Prop where
  d : H' d = some (.dT kvs)
  len : kvs.length = L.length
  all : ∀ p ∈ kvs, ∃ u v a, (u, v) ∈ L ∧ p = ([Sum.inl u, Sum.inl v], .ref a) ∧ H a = none ∧ H' a = some (.lst ((lowerL L os u v).map V.int))
  has : ∀ u v, (u, v) ∈ L → ∃ y, valV kvs [Sum.inl u, Sum.inl v] = some y
def spLowerPl (K : PySem.W.Frag) : Sp := fun vs H Q _ => ∃ (v : V) (N : Net) (p : Addr) (os : List Int) (rows : List Row), vs = [v, .ref p] ∧ Dp K H v (.list (rows.map rowD)) ∧ NetOk N ∧ SqL K H p (os.map V.int) ∧ OrdOk N.n os ∧ FillOk N os rows ∧
  ∀ H' d kvs, Same H H' → H d = none → LowD H H' d kvs (pairsL N.ls os) os → Q (.ref d) H'
def spCheckFill (K : PySem.W.Frag) : Sp := fun vs H Q _ => ∃ (v r : V) (N : Net) (p : Addr) (os : List Int) (rows : List Row), vs = [v, .ref p, r] ∧ Dp K H v (netD N) ∧ NetOk N ∧ SqL K H p (os.map V.int) ∧ OrdOk N.n os ∧ Dp K H r (.list (rows.map rowD)) ∧ rows.length ≤ 10000 ∧
  ∀ H' b, Same H H' → (b = true ↔ FillOk N os rows) → Q (.bl b) H'
/-! ### what repr asks of the rows -/
theorem shown_big {i : Int} (h0 : 0 ≤ i) (h1 : i ≤ 8192000000) : (PyData.int i).shown.length ≤ 10 := PySem.W.KT.len_num h0 (by omega)
theorem showable_big {i : Int} (h0 : 0 ≤ i) (h1 : i ≤ 8192000000) : (PyData.int i).showable = true := by
  refine decide_eq_true ?_
  by_cases hz : i.natAbs = 0
  · rw [hz]
    decide
  · rw [Nat.log2_lt hz]
    have h : i.natAbs < 2 ^ 33 := by omega
    exact Nat.lt_of_lt_of_le h (Nat.pow_le_pow_right (by decide : 2 > 0) (show 33 ≤ 1920 by decide))
theorem show_oB {o : Option Int} (h : ∀ c, o = some c → 0 ≤ c ∧ c ≤ 8192000000) : (oD o).shown.length ≤ 10 ∧ (oD o).showable = true := by
  cases o with
  | none =>
    refine ⟨?_, rfl⟩
    show ("None" : Str).length ≤ 10
    decide +kernel
  | some x =>
    have := h x rfl
    exact ⟨shown_big this.1 this.2, showable_big this.1 this.2⟩
theorem lay_row (r : Row) : (rowD r).canLay0 = true ∧ (rowD r).depth = 1 := by
  have h1 := lay_o r.up
  have h2 := lay_o r.dn
  have h3 := lay_o r.um
  have h4 := lay_o r.dm
  constructor
  · show (true && (true && ((oD r.up).canLay0 && ((oD r.dn).canLay0 && ((oD r.um).canLay0 && ((oD r.dm).canLay0 && true)))))) = true
    rw [h1.1, h2.1, h3.1, h4.1]
    rfl
  · show max 0 (max 0 (max (oD r.up).depth (max (oD r.dn).depth (max (oD r.um).depth (max (oD r.dm).depth 0))))) + 1 = 1
    rw [h1.2, h2.2, h3.2, h4.2]
    rfl
theorem lay_rows : ∀ rows : List Row, PyData.canLayAll0 (rows.map rowD) = true ∧ PyData.depthAll (rows.map rowD) ≤ 1
  | [] => ⟨rfl, Nat.zero_le _⟩
  | r :: rows => by
    have h := lay_row r
    have ih := lay_rows rows
    constructor
    · show ((rowD r).canLay0 && PyData.canLayAll0 (rows.map rowD)) = true
      rw [h.1, ih.1]
      rfl
    · show max (rowD r).depth (PyData.depthAll (rows.map rowD)) ≤ 1
      rw [h.2]
      have := ih.2
      omega
theorem showOk_rows {N : Net} {os : List Int} {rows : List Row} (ok : NetOk N) (oo : OrdOk N.n os) (h : FillOk N os rows) (hn : N.n ≤ 13) : ShowOk (.list (rows.map rowD)) 200000 := by
  have n1 := ok.n1
  have n40 := ok.n40
  have hlen : rows.length ≤ 1600 := by
    have e := congrArg List.length h.pairs
    rw [List.length_map] at e
    rw [e]
    exact pairsL_len ok oo
  have one : ∀ r ∈ rows, (rowD r).shown.length ≤ 76 ∧ (rowD r).showable = true := fun r hr => by
    have pp := h.pair ok oo hr
    have pi := pp.ins ok
    have hv : r.v ∈ os := oo.mem.mpr pi.2
    have lv := posOf_lt hv
    have lv2 : posOf r.v os < os.length := (List.getElem?_eq_some_iff.mp lv).1
    have ol := oo.len
    have p1 := pp.1
    have b := h.bound ok oo 13 r hr (by omega)
    have e13 : (1000000 : Int) * 2 ^ 13 = 8192000000 := by decide
    rw [e13] at b
    have mid : ∀ o : Option Int, (∀ w, o = some w → w ∈ os) → ∀ c, o = some c → 0 ≤ c ∧ c ≤ 8192000000 := fun o ho c hc => by
      have := oo.mem.mp (ho c hc)
      omega
    have s1 := show_oB (o := r.up) fun c hc => by
      have := b.1 c hc
      omega
    have s2 := show_oB (o := r.dn) fun c hc => by
      have := b.2.1 c hc
      omega
    have s3 := show_oB (mid r.um b.2.2.1)
    have s4 := show_oB (mid r.dm b.2.2.2)
    have each : ∀ d ∈ [PyData.int r.u, .int r.v, oD r.up, oD r.dn, oD r.um, oD r.dm], d.shown.length ≤ 10 ∧ d.showable = true := fun d hd => by
      simp only [List.mem_cons, List.not_mem_nil, or_false] at hd
      rcases hd with rfl | rfl | rfl | rfl | rfl | rfl
      · exact ⟨shown_big (by omega) (by omega), showable_big (by omega) (by omega)⟩
      · exact ⟨shown_big (by omega) (by omega), showable_big (by omega) (by omega)⟩
      · exact s1
      · exact s2
      · exact s3
      · exact s4
    constructor
    · show (tupleText (PyData.shownAll [.int r.u, .int r.v, oD r.up, oD r.dn, oD r.um, oD r.dm])).length ≤ 76
      have t := tupleText_le (PyData.shownAll [.int r.u, .int r.v, oD r.up, oD r.dn, oD r.um, oD r.dm])
      have p := piled_le (m := 10) fun d hd => (each d hd).1
      have e : ([.int r.u, .int r.v, oD r.up, oD r.dn, oD r.um, oD r.dm] : List PyData).length = 6 := rfl
      rw [e] at p
      omega
    · show (PyData.showableAll [.int r.u, .int r.v, oD r.up, oD r.dn, oD r.um, oD r.dm]) = true
      exact showable_all fun d hd => (each d hd).2
  have p := piled_le (ds := rows.map rowD) (m := 76) fun d hd => by
    obtain ⟨r, hr, rfl⟩ := List.mem_map.mp hd
    exact (one r hr).1
  rw [List.length_map] at p
  have q := listText_le (PyData.shownAll (rows.map rowD))
  have ly := lay_rows rows
  refine ⟨?_, PyData.hasDict_of_canLay _ ly.1, ?_, ?_⟩
  · refine showable_all fun d hd => ?_
    obtain ⟨r, hr, rfl⟩ := List.mem_map.mp hd
    exact (one r hr).2
  · show PyData.depthAll (rows.map rowD) + 1 ≤ 10
    have := ly.2
    omega
  · show (listText (PyData.shownAll (rows.map rowD))).length ≤ 200000
    omega
/-! ### pairs are told once -/
theorem nodup_pairs {f : Int → List Int} (hf : ∀ u, (f u).Nodup) : ∀ us : List Int, us.Nodup → (us.flatMap fun u => (f u).map fun v => (u, v)).Nodup
  | [], _ => by
    show ([] : List (Int × Int)).Nodup
    exact List.nodup_nil
  | u :: us, h => by
    rw [List.nodup_cons] at h
    rw [List.flatMap_cons, List.nodup_append]
    refine ⟨?_, nodup_pairs hf us h.2, fun a ha b hb e => ?_⟩
    · exact List.Pairwise.map _ (fun a b hab e => hab (congrArg Prod.snd e)) (hf u)
    · subst e
      obtain ⟨v, _, rfl⟩ := List.mem_map.mp ha
      obtain ⟨u', hu', hv'⟩ := List.mem_flatMap.mp hb
      obtain ⟨v', _, e⟩ := List.mem_map.mp hv'
      have : u' = u := congrArg Prod.fst e
      subst this
      exact h.1 hu'
theorem pairsL_nodup {n : Int} {ls : List Lnk} {os : List Int} (oo : OrdOk n os) : (pairsL ls os).Nodup := by
  unfold pairsL
  exact nodup_pairs (fun u => by
    unfold upP
    exact List.Pairwise.filter _ oo.nodup) os oo.nodup
section
variable {K : PySem.W.Frag} {σ : L2.St} {H : Hp} {a : Addr} {D : Ends} {tz tw : TS}
/-- for u, v in a list of pairs -/
theorem g_forP {j1 j2 : Nat} {xs : List V} {L : List (Int × Int)} {tl : TE} (h : Vl tl σ H (.ref a)) (hx : SqL K H a xs) (hlen : xs.length = L.length) (Pv : Nat → L2.St → Hp → Prop) (h0 : Pv 0 σ H) (hl : ∀ i σ' H', Pv i σ' H' → SqL K H' a xs ∧ TupsAt H' xs L)
    (hs : ∀ (i : Nat) u v t σ H, L[i]? = some (u, v) → H t = some (.tup [.int u, .int v]) → Pv i σ H → tz { D with nx := Pv (i + 1), ct := Pv (i + 1), bk := D.nx } ((σ.set j1 (some (.int u))).set j2 (some (.int v))) H) (hd : ∀ σ H, Pv L.length σ H → D.nx σ H) :
    tFor (iList K tl) (gTup K 2 (gCons (gName j1) (gCons (gName j2) gNil))) tz D σ H := h _ ⟨a, rfl, ⟨_, hx⟩, for_list (xs := xs) Pv h0 (fun i σ H _ p => (hl i σ H p).1) (fun i x σ H hi p => by
      have hlt := (List.getElem?_eq_some_iff.mp hi).1
      have hg : L[i]? = some L[i] := List.getElem?_eq_getElem (by omega)
      obtain ⟨t, h1, h2⟩ := (hl i σ H p).2.at_ i L[i].1 L[i].2 hg
      cases hi.symm.trans h1
      exact ⟨t, _, rfl, .of h2, rfl, _, _, rfl, _, _, rfl, rfl, hs i _ _ t σ H hg h2 p⟩) (fun σ H p => by
      rw [hlen] at p
      exact hd σ H p)⟩
theorem q_forP {j1 j2 : Nat} {xs : List V} {L : List (Int × Int)} {tl : TE} (h : Vl tl σ H (.ref a)) (hx : SqL K H a xs) (hlen : xs.length = L.length) (Pv : Nat → L2.St → Hp → Prop) (h0 : Pv 0 σ H) (hl : ∀ i σ' H', Pv i σ' H' → SqL K H' a xs ∧ TupsAt H' xs L)
    (hs : ∀ (i : Nat) u v t σ H, L[i]? = some (u, v) → H t = some (.tup [.int u, .int v]) → Pv i σ H → tz { D with nx := Pv (i + 1), ct := Pv (i + 1), bk := tw D } ((σ.set j1 (some (.int u))).set j2 (some (.int v))) H) (hd : ∀ σ H, Pv L.length σ H → tw D σ H) :
    tSeq (tFor (iList K tl) (gTup K 2 (gCons (gName j1) (gCons (gName j2) gNil))) tz) tw D σ H := g_forP (D := { D with nx := tw D }) h hx hlen Pv h0 hl hs hd
end
theorem eqV_ints {K : PySem.W.Frag} {H : Hp} {a b : Addr} {ns : List Int} (h1 : H a = some (.lst (ns.map V.int))) (h2 : H b = some (.lst (ns.map V.int))) : EqV K H 50 (.ref a) (.ref b) := by
  refine .inr (.inr (.inl ⟨a, b, _, _, rfl, rfl, .of h1, .of h2, ?_⟩))
  clear h1 h2
  induction ns with
  | nil => exact .nil
  | cons n r ih => exact .cons (.inl ⟨rfl, rfl⟩) ih
/-! ### the dict that the law makes of the lower places -/
structure DueL (G H : Hp) (o : Addr) (kvs : List (List L2.Key × V)) (L : List (Int × Int)) (os : List Int) (i : Nat) : Prop where
  d : H o = some (.dT kvs)
  sm : Same G (but H o)
  len : kvs.length = i
  of : ∀ u v, (u, v) ∈ L.take i → ∃ a, valV kvs [Sum.inl u, Sum.inl v] = some (.ref a) ∧ but H o a = some (.lst ((lowerL L os u v).map V.int)) ∧ G a = none
  un : ∀ u v y, valV kvs [Sum.inl u, Sum.inl v] = some y → (u, v) ∈ L.take i
theorem DueL.step {G H H9 : Hp} {o al T : Addr} {kvs : List (List L2.Key × V)} {L : List (Int × Int)} {os : List Int} {i : Nat} {u v : Int} (h : DueL G H o kvs L os i) (hn : L.Nodup) (hi : L[i]? = some (u, v)) (s9 : Same H H9) (nal : H al = none) (hal : H9 al = some (.lst ((lowerL L os u v).map V.int))) (nT : H9 T = none) :
    DueL G (upd (upd H9 T (.tup [.int u, .int v])) o (.dT (putK kvs [Sum.inl u, Sum.inl v] (.ref al)))) o (putK kvs [Sum.inl u, Sum.inl v] (.ref al)) L os (i + 1) := by
  have hlt := (List.getElem?_eq_some_iff.mp hi).1
  have new : (u, v) ∉ L.take i := fun hm => by
    obtain ⟨j, hj, ej⟩ := List.getElem_of_mem hm
    rw [List.length_take] at hj
    have pw := List.pairwise_iff_getElem.mp hn
    have e1 : L[j]'(by omega) = (u, v) := by rw [← ej, List.getElem_take]
    have e2 : L[i] = (u, v) := (List.getElem?_eq_some_iff.mp hi).2
    exact pw j i (by omega) hlt (by omega) (e1.trans e2.symm)
  have vn : valV kvs [Sum.inl u, Sum.inl v] = none := by
    cases e : valV kvs [Sum.inl u, Sum.inl v] with
    | none => rfl
    | some y => exact absurd (h.un u v y e) new
  have tk : L.take (i + 1) = L.take i ++ [(u, v)] := take_snoc hi
  have sT : Same H9 (upd H9 T (.tup [.int u, .int v])) := same_upd nT
  have sB : Same (but H o) (but (upd H9 T (.tup [.int u, .int v])) o) := but_mono (s9.trans sT)
  have oal : al ≠ o := fun e => by
    rw [e, h.d] at nal
    cases nal
  refine ⟨upd_same, ?_, ?_, fun x y hm => ?_, fun x y z hz => ?_⟩
  · rw [but_upd]
    exact h.sm.trans sB
  · unfold putK
    rw [valV_any, vn, if_neg (by simp), List.length_append, h.len]
    rfl
  · rw [valV_put, but_upd]
    rw [tk, List.mem_append, List.mem_singleton] at hm
    rcases hm with hm | hm
    · have ne : ¬ ([Sum.inl x, Sum.inl y] : List L2.Key) = [Sum.inl u, Sum.inl v] := fun e => by
        injection e with e1 e2
        injection e2 with e2 _
        have e1 := Sum.inl.inj e1
        have e2 := Sum.inl.inj e2
        subst e1
        subst e2
        exact new hm
      rw [if_neg ne]
      obtain ⟨a, h1, h2, h3⟩ := h.of x y hm
      exact ⟨a, h1, sB _ _ h2, h3⟩
    · cases hm
      rw [if_pos rfl]
      refine ⟨al, rfl, ?_, ?_⟩
      · rw [but_ne oal]
        exact sT _ _ hal
      · cases e : G al with
        | none => rfl
        | some z =>
          have := h.sm _ _ e
          rw [but_ne oal, nal] at this
          cases this
  · rw [valV_put] at hz
    rw [tk, List.mem_append, List.mem_singleton]
    by_cases e : ([Sum.inl x, Sum.inl y] : List L2.Key) = [Sum.inl u, Sum.inl v]
    · injection e with e1 e2
      injection e2 with e2 _
      rw [Sum.inl.inj e1, Sum.inl.inj e2]
      exact .inr rfl
    · rw [if_neg e] at hz
      exact .inl (h.un x y z hz)
/-! ### a heap without some addresses -/
open Classical in
noncomputable def mask (T : Addr → Prop) (H : Hp) : Hp := fun b => if T b then none else H b
theorem mask_ne {T : Addr → Prop} {H : Hp} {b : Addr} (h : ¬ T b) : mask T H b = H b := if_neg h
theorem mask_at {T : Addr → Prop} {H : Hp} {b : Addr} (h : T b) : mask T H b = none := if_pos h
theorem mask_same {T : Addr → Prop} {H : Hp} : Same (mask T H) H := fun b x e => by
  by_cases h : T b
  · rw [mask_at h] at e
    cases e
  · rw [mask_ne h] at e
    exact e
theorem same_mask {T : Addr → Prop} {G H : Hp} (s : Same G H) (h : ∀ b, T b → G b = none) : Same G (mask T H) := fun b x e => by
  have hb : ¬ T b := fun z => by
    rw [h b z] at e
    cases e
  rw [mask_ne hb]
  exact s b x e
theorem mask_mono {T : Addr → Prop} {G H : Hp} (s : Same G H) : Same (mask T G) (mask T H) := fun b x e => by
  by_cases h : T b
  · rw [mask_at h] at e
    cases e
  · rw [mask_ne h] at e ⊢
    exact s b x e
theorem mask_upd {T : Addr → Prop} {H : Hp} {a : Addr} {u : HO} (h : T a) : mask T (upd H a u) = mask T H := by
  funext b
  by_cases hb : T b
  · rw [mask_at hb, mask_at hb]
  · rw [mask_ne hb, mask_ne hb, upd_ne (fun e => hb (by rw [e]; exact h))]
end Ovc
namespace L2
open PySem PySem.Spec PyProof.Rows
/-! ### a dict comprehension whose keys are tuples -/
theorem dictSetT {X : Cx} {pins : List (Addr × Obj)} {σ : St} {H : Hp} {s : Shared} {E : Value → Shared → Prop} {D b : Addr} {kvs : List (List Key × V)} {k : List Key} {v : V} {r : Value} {Q : Unit → Shared → Prop} (hu : X.A.units + 1 < cLine) (I : Inv X pins σ H s)
    (hD : H D = some (.dT kvs)) (hb : H b = some (.tup (k.map kV))) (hz : kvs.length < sizeLine) (rv : RelV v r) (done : ∀ s', Inv X pins σ (upd H D (.dT (putK kvs k v))) s' → Q () s') : wpAny (model X.prog X.w) X.A (dictSet D (.ref b) r) Q E s := by
  obtain ⟨_, notSys, us, rel, dof⟩ := dt_of I.hok hD
  have us_small : us.length ≤ sizeLine := by
    have := Paired.length rel
    omega
  have put_small : (putK kvs k v).length ≤ sizeLine := by
    have := length_putK kvs k v
    omega
  refine wpAny_dictSet_heap (hsz := us_small) (Nat.lt_of_succ_lt hu) (key_of I.hok hb) dof fun h' after same => done _ ?_
  obtain ⟨ob, es, ep, at_, e2, e3, e4, _, e6⟩ := after
  refine d_write I (by rw [hD] <;> exact True.intro) same ⟨ob, at_⟩ ⟨put_small, notSys, _, (rel.put k hb rv).keeps fun c ys ec => ?_, ob, es, ep, at_, e2, e3, e4, e6⟩
  rw [upd_ne (ne_of ec hD (fun z => nomatch z))]
  exact ec
section
variable {X : Cx}
/-- the reading: D the new dict; y the key, a tuple of ints and texts -/
def tDcT (wi : TI) (g : TG) (tt : TT) (tk tv : TE) (vs : List Nat) : TE := fun σ H Q => wi σ H fun J H1 => ∀ D, H1 D = none → ∃ W : Nat → Nat → Hp → Prop, (∃ m, W 0 m (upd H1 D (.dT []))) ∧ ∀ i m H, W i m H →
  (J.stop i H ∧ Q (.ref D) H) ∨ (J.go i H ∧ ∃ Nx : Hp → Prop, (∀ H', Nx H' → ∃ m', m' < m ∧ W (i + 1) m' H') ∧ ∀ x H', J.yld i H x H' → g x (wipe σ vs) H' fun σ2 H2 => wipe σ2 vs = wipe σ vs ∧ tt σ2 H2 fun c H3 =>
    if c = true then tk σ2 H3 fun y H4 => tv σ2 H4 fun z H5 => ∃ kvs k b, y = .ref b ∧ H5 b = some (.tup (k.map kV)) ∧ H5 D = some (.dT kvs) ∧ kvs.length < sizeLine ∧ Nx (upd H5 D (.dT (putK kvs k z))) else Nx H3)
theorem dcT_core {pins : List (Addr × Obj)} {s : Shared} {σ : St} {H : Hp} {Q : VK} {kx vx tg iter : Expr} {ifs : List Expr} {scope : Scope} {own : List (Str × Nat)} {pos pos' : Pos} {wi : TI} {g : TG} {tt : TT} {tk tv : TE} {use : Option (Value → Sem Unit)} {Qf : Value → Shared → Prop} (hu : X.A.units + 1 < cLine) (calm : X.calm = true) (nd : X.N.Nodup) (src : PI X tg iter wi) (ok : BlkOk X.N X.env.scope scope own)
    (pg : ∀ (s : Shared) (H : Hp) (C : Addr) (cl : List (Str × Addr)) (fp : List Addr), PG (X.blk s H scope (compEnvC scope cl C X.env) fp) tg g)
    (pt : ∀ (s : Shared) (H : Hp) (C : Addr) (cl : List (Str × Addr)) (fp : List Addr), PTs (X.blk s H scope (compEnvC scope cl C X.env) fp) ifs tt)
    (pk : ∀ (s : Shared) (H : Hp) (C : Addr) (cl : List (Str × Addr)) (fp : List Addr), PE (X.blk s H scope (compEnvC scope cl C X.env) fp) kx tk)
    (pv : ∀ (s : Shared) (H : Hp) (C : Addr) (cl : List (Str × Addr)) (fp : List Addr), PE (X.blk s H scope (compEnvC scope cl C X.env) fp) vx tv) (I : Inv X pins σ H s) (hs : ∀ x, foldedSetIterable iter X.env x = pure x)
    (want : tDcT wi g tt tk tv (own.map (·.2)) σ H Q)
    (back : ∀ D C s' m H', Inv X pins σ H' s' → Q (.ref D) H' → s'.heap.Ns C m → FpOk X pins H' C → compPost (model X.prog X.w) X.A X.xe use Qf (.ref D) C (.ok .next) s') :
    wpAny (model X.prog X.w) X.A (comprehension (.DictComp kx vx [⟨tg, iter, ifs, 0⟩] scope pos) scope X.env pos' newDict false (eval iter X.env) use) Qf X.xe s := by
  have cells : ∀ y ∈ scope.names, y.2 = .free → ∃ c, X.env.cells.lookup y.1 = some c := fun y hy e => I.ok.has _ (ok.free y hy e)
  refine wpAny_comprehension_free (use := use) rfl hs (closure_ok cells) ok.kind (fun y hy e => by rw [ok.uniq y hy, e]) (thn (src.run pins s σ H _ I want) fun xv s1 r1 => thn r1 fun itv s2 r2 => ?_)
  obtain ⟨it, fp, tn, J, Hi, rfl, Ii, T, t0, own0, reading⟩ := r2
  refine wpAny_newObj_type (newEnv_comp ?_)
  -- the new dict stands at D
  generalize eD : s2.heap.objs.size = D
  have freeD : Hi D = none := Ii.hok.fresh (Nat.le_of_eq eD)
  obtain ⟨W, ⟨m0, begin_⟩, turn⟩ := reading D freeD
  generalize e3 : (Shared.mk (s2.heap.push { cls := .type "dict", data := .dict #[] }) s2.gens s2.drawn s2.toks s2.os) = s3
  have heap3 : s3.heap = s2.heap.push { cls := .type "dict", data := .dict #[] } := by rw [← e3]
  have I3 : Inv X pins σ (upd Hi D (.dT [])) s3 := by
    rw [← e3]
    refine Ii.laid (t' := s2.toks) (fun b o q => Heap.get?_push_of_some _ q) (Nat.le_of_eq eD) ?_
    have := dt_empty (P := X.prog) (w := X.w) (H := upd Hi D (.dT [])) s2.heap Ii.big
    rw [eD] at this
    exact this
  have below : ∀ b ∈ fp, b < s2.heap.objs.size := fun b hb => let ⟨_, q, _⟩ := T.obj _ _ t0 b hb; Heap.lt_size q
  have own3 : ∀ b ∈ fp, FpOk X pins (upd Hi D (.dT [])) b ∧ b < s3.heap.objs.size := fun b hb => by
    have lt := below b hb
    constructor
    · refine ⟨?_, (own0 b hb).2⟩
      rw [upd_ne (by rw [← eD] <;> exact Nat.ne_of_lt lt)]
      exact (own0 b hb).1
    · rw [heap3, Heap.size_push]
      exact Nat.lt_succ_of_lt lt
  have t3 : tn 0 s3.heap := T.keep _ _ _ t0 fun b _ o q => by
    rw [heap3]
    exact Heap.get?_push_of_some _ q
  have I4 := block_start I3 ok nd own3
  have none3 : ∀ b ∈ fp, (upd Hi D (.dT [])) b = none := fun b hb => (own3 b hb).1.1
  show codeAny _ _ (.compStart (.DictComp kx vx [⟨tg, iter, ifs, 0⟩] scope pos) 0 (.ref it) (.ref D) (compEnvC scope (cellsFrom (s3.heap.objs.size + 1) scope.names (cloFrom X.env.cells scope.names [])) s3.heap.objs.size X.env)) _ { s3 with heap := pushCells (s3.heap.push { cls := .type "dict", data := .dict #[] }) scope.names }
  have pg' := pg s3 (upd Hi D (.dT [])) s3.heap.objs.size (cellsFrom (s3.heap.objs.size + 1) scope.names (cloFrom X.env.cells scope.names [])) fp
  have pt' := pt s3 (upd Hi D (.dT [])) s3.heap.objs.size (cellsFrom (s3.heap.objs.size + 1) scope.names (cloFrom X.env.cells scope.names [])) fp
  have pk' := pk s3 (upd Hi D (.dT [])) s3.heap.objs.size (cellsFrom (s3.heap.objs.size + 1) scope.names (cloFrom X.env.cells scope.names [])) fp
  have pv' := pv s3 (upd Hi D (.dT [])) s3.heap.objs.size (cellsFrom (s3.heap.objs.size + 1) scope.names (cloFrom X.env.cells scope.names [])) fp
  generalize ece : compEnvC scope (cellsFrom (s3.heap.objs.size + 1) scope.names (cloFrom X.env.cells scope.names [])) s3.heap.objs.size X.env = ce at I4 pg' pt' pk' pv' ⊢
  have loc : ce.locals = s3.heap.objs.size := by rw [← ece] <;> rfl
  generalize upd Hi D (.dT []) = H3 at I3 I4 pg' pt' pk' pv' begin_ none3 own3
  generalize e4 : ({ s3 with heap := pushCells (s3.heap.push { cls := .type "dict", data := .dict #[] }) scope.names } : Shared) = s4 at I4 ⊢
  have t4 : tn 0 s4.heap := T.keep _ _ _ t3 fun b _ o q => by
    rw [← e4]
    exact pushCells_keeps _ _ _ _ (Heap.get?_push_of_some _ q)
  have mine : ∀ {σ' : St} {H' : Hp} {s' : Shared}, Inv (X.blk s3 H3 scope ce fp) [] σ' H' s' → (∀ b ∈ fp, H' b = none) → ∀ b ∈ fp, FpOk (X.blk s3 H3 scope ce fp) [] H' b := fun {σ' H' s'} J' hn b hb =>
    ⟨hn b hb, (J'.ok.exf b hb).1, J'.ok.exfs b hb, .inl hb, fun x c e => (J'.ok.exf b hb).2 x c e, fun p hp => by cases hp⟩
  refine codeAny_compStart_dict ?goes (T.self X.A 0 _ _ _ t4 ?goes)
  refine compLoop_anyD (fun n s' => ∃ i H', Inv (X.blk s3 H3 scope ce fp) [] (wipe σ (own.map (·.2))) H' s' ∧ tn i s'.heap ∧ (∀ b ∈ fp, H' b = none) ∧ W i n H') ?_ m0 ⟨0, H3, I4, t4, none3, begin_⟩
  rintro n s5 ⟨i, H5, I5, t5, n5, w5⟩
  rcases turn i n H5 w5 with ⟨over, q⟩ | ⟨goes, Nx, next, step⟩
  · refine thnF (T.done (X.blk s3 H3 scope ce fp) rfl rfl rfl calm i [] s5 _ H5 (fun _ _ => False) I5 (mine I5 n5) t5 over) fun r s6 ⟨hr, I6⟩ => ?_
    subst hr
    have out : Inv X pins σ H5 s6 := I3.call' (ch := fp) I6.os I6.base I6.hok I6.bare fun b hb => let f := (own3 b hb).1; ⟨f.2.2.2.1, f.2.1, f.2.2.2.2.1, f.2.2.2.2.2⟩
    have nC : H5 s3.heap.objs.size = none := by
      rw [← loc]
      exact I6.free
    obtain ⟨m, ns, _⟩ := I6.loc
    have ns : s6.heap.Ns ce.locals m := ns
    rw [loc] at ns
    exact back D s3.heap.objs.size s6 m H5 out q ns (I3.fpOk (Nat.le_refl _) nC)
  · refine thnF (T.item (X.blk s3 H3 scope ce fp) rfl rfl rfl calm i [] s5 _ H5 (fun _ _ => False) I5 (mine I5 n5) t5 goes) fun r s6 ⟨u, hr, r6⟩ => ?_
    subst hr
    refine thnF r6 fun _ s7 ⟨x, H7, I7, rx, y7, t7, n7⟩ => ?_
    refine thnF (pg'.run _ s7 _ H7 x u _ (I7.pinned (mine I7 n7) (T.obj _ _ t7)) rx (step x H7 y7)) fun _ s8 ⟨σ8, H8, I8, w8, q8⟩ => ?_
    refine thnF (pt'.run _ s8 σ8 H8 _ I8 q8) fun c s9 ⟨H9, I9, q9⟩ => ?_
    have close : ∀ {s' : Shared} {H' : Hp}, Inv (X.blk s3 H3 scope ce fp) ([] ++ pinsAt fp s7.heap) σ8 H' s' → Nx H' → ∃ m, m < n ∧ ∃ i H', Inv (X.blk s3 H3 scope ce fp) [] (wipe σ (own.map (·.2))) H' s' ∧ tn i s'.heap ∧ (∀ b ∈ fp, H' b = none) ∧ W i m H' := fun {s' H'} J' nx => by
      obtain ⟨m', lt, w'⟩ := next H' nx
      have pinned : ∀ b ∈ fp, ∀ o, s7.heap.get? b = some o → s'.heap.get? b = some o ∧ H' b = none := fun b hb o e =>
        let z := J'.pin (b, o) (List.mem_append_right _ (List.mem_append_right _ (mem_pinsAt hb e)))
        ⟨z.1, z.2.1⟩
      have len : (wipe σ (own.map (·.2))).length = σ8.length := by rw [← w8, wipe_length]
      refine ⟨m', lt, i + 1, H', (J'.unpinned (pins := [])).weak len (fun j v e => ?_), T.keep _ _ _ t7 fun b hb o e => (pinned b hb o e).1, fun b hb => ?_, w'⟩
      · rw [← w8] at e
        exact (wipe_some e).1
      · obtain ⟨o, e, _⟩ := T.obj _ _ t7 b hb
        exact (pinned b hb o e).2
    cases c with
    | false =>
      simp only [Bool.false_eq_true, if_false] at q9 ⊢
      exact close I9 q9
    | true =>
      simp only [if_true] at q9 ⊢
      refine thnF (pk'.run _ s9 σ8 H9 _ I9 q9) fun z s10 ⟨yk, H10, I10, r10, q10⟩ => ?_
      refine thnF (pv'.run _ s10 σ8 H10 _ I10 q10) fun z2 s11 ⟨yv, H11, I11, r11, kvs, k, b, ek, hb, hD, hz, nx⟩ => ?_
      subst ek
      cases (show z = Value.ref b from r10)
      exact dictSetT (X := X.blk s3 H3 scope ce fp) hu I11 hD hb hz r11 fun s12 I12 => close I12 nx
theorem pe_dcT {kx vx tg iter : Expr} {ifs : List Expr} {scope : Scope} {own : List (Str × Nat)} {pos : Pos} {wi : TI} {g : TG} {tt : TT} {tk tv : TE} (hu : X.A.units + 1 < cLine) (calm : X.calm = true) (nd : X.N.Nodup) (src : PI X tg iter wi) (ok : BlkOk X.N X.env.scope scope own)
    (pg : ∀ (s : Shared) (H : Hp) (C : Addr) (cl : List (Str × Addr)) (fp : List Addr), PG (X.blk s H scope (compEnvC scope cl C X.env) fp) tg g)
    (pt : ∀ (s : Shared) (H : Hp) (C : Addr) (cl : List (Str × Addr)) (fp : List Addr), PTs (X.blk s H scope (compEnvC scope cl C X.env) fp) ifs tt)
    (pk : ∀ (s : Shared) (H : Hp) (C : Addr) (cl : List (Str × Addr)) (fp : List Addr), PE (X.blk s H scope (compEnvC scope cl C X.env) fp) kx tk)
    (pv : ∀ (s : Shared) (H : Hp) (C : Addr) (cl : List (Str × Addr)) (fp : List Addr), PE (X.blk s H scope (compEnvC scope cl C X.env) fp) vx tv) (hs : ∀ x, foldedSetIterable iter X.env x = pure x := by intro _; rfl) :
    PE X (.DictComp kx vx [⟨tg, iter, ifs, 0⟩] scope pos) (tDcT wi g tt tk tv (own.map (·.2))) := by
  refine ⟨fun pins s σ H Q I want => ?_⟩
  rw [arm_eval_DictComp]
  refine dcT_core hu calm nd src ok pg pt pk pv I hs want fun D C s' m H' out q ns own' => ⟨m, ns, fun h'' sb => ?_⟩
  obtain ⟨f0, f1, f2, f3, f4, f5⟩ := own'
  exact ⟨.ref D, H', out.turned (t' := s'.toks) (fun b o hb e => (sb.2 b hb).trans e) f0 f1 f3 f4 f5, rfl, q⟩
/-! ### .. whose dict is stored at once -/
theorem swapsD {kx vx : Expr} {gs : List Comprehension} {scope : Scope} {pos py : Pos} {y : Str} {l : Nat} {env : Env} (fn : env.scope.kind = .function) (loc : env.scope.names.lookup y = some .local) (row : (py.line == pos.line) = true)
    (other : (scope.names.any fun (n, k) => n == y && (k == .local || k == .cell)) = false) : swapsWith (.DictComp kx vx gs scope pos) (some (.Name y py)) l env = pure true := by
  have k1 : env.kindOf y = some .local := loc
  have k2 : env.blockKind = .function := by
    unfold Env.blockKind
    rw [fn] <;> rfl
  unfold swapsWith
  simp only [k2, k1, other, Expr.pos, row]
  rfl
/-- the new dict in slot i -/
theorem stored_ok {pins : List (Addr × Obj)} {σ : St} {H' : Hp} {s' : Shared} {i : Nat} {y : Str} {py : Pos} {D C : Addr} {m : Str → Option Value} {Ends_ : Ends} (nd : X.N.Nodup) (at_ : X.N[i]? = some y) (loc : X.env.scope.names.lookup y = some .local)
    (I : Inv X pins σ H' s') (q : gName i (.ref D) σ H' Ends_.nx) (ns : s'.heap.Ns C m) (f : FpOk X pins H' C) :
    wpAny (model X.prog X.w) X.A (assign (.Name y py) X.env (.ref D)) (fun _ s'' => ∃ m, s''.heap.Ns C m ∧ ∀ h', Heap.SameBut C s''.heap h' → SP X pins Ends_ .next { s'' with heap := h' }) X.xe s' := by
  refine wpAny_assign_Name (store_ok2 (v := V.ref D) I nd at_ (.inl loc) rfl (fun s2 I2 where_ => ?_) (.inr loc))
  obtain ⟨a, sb, ha⟩ := where_
  obtain ⟨f0, f1, f2, f3, f4, f5⟩ := f
  have apart : C ≠ a := ha.elim (fun z => z ▸ f1) fun z e => f4 y a z e.symm
  exact ⟨m, ns.sameBut sb apart, fun h3 sb3 => ⟨_, H', I2.turned (t' := s2.toks) (fun b o hb e => (sb3.2 b hb).trans e) f0 f1 f3 f4 f5, q⟩⟩
theorem ps_setDcT {i : Nat} {y : Str} {py : Pos} {kx vx tg iter : Expr} {ifs : List Expr} {scope : Scope} {own : List (Str × Nat)} {pos spos : Pos} {wi : TI} {g : TG} {tt : TT} {tk tv : TE} (hu : X.A.units + 1 < cLine) (calm : X.calm = true) (nd : X.N.Nodup) (at_ : X.N[i]? = some y) (loc : X.env.scope.names.lookup y = some .local)
    (sw : swapsWith (.DictComp kx vx [⟨tg, iter, ifs, 0⟩] scope pos) (some (.Name y py)) spos.line X.env = pure true) (src : PI X tg iter wi) (ok : BlkOk X.N X.env.scope scope own)
    (pg : ∀ (s : Shared) (H : Hp) (C : Addr) (cl : List (Str × Addr)) (fp : List Addr), PG (X.blk s H scope (compEnvC scope cl C X.env) fp) tg g)
    (pt : ∀ (s : Shared) (H : Hp) (C : Addr) (cl : List (Str × Addr)) (fp : List Addr), PTs (X.blk s H scope (compEnvC scope cl C X.env) fp) ifs tt)
    (pk : ∀ (s : Shared) (H : Hp) (C : Addr) (cl : List (Str × Addr)) (fp : List Addr), PE (X.blk s H scope (compEnvC scope cl C X.env) fp) kx tk)
    (pv : ∀ (s : Shared) (H : Hp) (C : Addr) (cl : List (Str × Addr)) (fp : List Addr), PE (X.blk s H scope (compEnvC scope cl C X.env) fp) vx tv) (hs : ∀ x, foldedSetIterable iter X.env x = pure x := by intro _; rfl) :
    PS X (.Assign [.Name y py] (.DictComp kx vx [⟨tg, iter, ifs, 0⟩] scope pos) spos) (tAsg (tDcT wi g tt tk tv (own.map (·.2))) (gName i)) := by
  refine ⟨fun pins s σ H D I want => ?_⟩
  rw [exec_Assign_Name_used _ _ _ _ sw]
  refine wpAny_bind (wpAny_standAt (wpAny_bind ?_))
  show wpAny _ X.A (comprehension (.DictComp kx vx [⟨tg, iter, ifs, 0⟩] scope pos) scope X.env (firstIterPos [⟨tg, iter, ifs, 0⟩] pos) newDict false (eval iter X.env) (some (assign (.Name y py) X.env)) >>= _) _ _ s
  refine wpAny_bind (thn (dcT_core (Qf := fun _ s' => SP X pins D .next s') hu calm nd src ok pg pt pk pv I hs (show tDcT wi g tt tk tv (own.map (·.2)) σ H (fun x H1 => gName i x σ H1 D.nx) from want) fun A C s' m H' out q ns f => stored_ok nd at_ loc out q ns f) fun _ s' hq => wpAny_pure (wpAny_pure hq))
theorem ps_setDc {i : Nat} {y : Str} {py : Pos} {kx vx tg iter : Expr} {ifs : List Expr} {scope : Scope} {own : List (Str × Nat)} {pos spos : Pos} {wi : TI} {g : TG} {tt : TT} {tk tv : TE} (calm : X.calm = true) (nd : X.N.Nodup) (at_ : X.N[i]? = some y) (loc : X.env.scope.names.lookup y = some .local)
    (sw : swapsWith (.DictComp kx vx [⟨tg, iter, ifs, 0⟩] scope pos) (some (.Name y py)) spos.line X.env = pure true) (src : PI X tg iter wi) (ok : BlkOk X.N X.env.scope scope own)
    (pg : ∀ (s : Shared) (H : Hp) (C : Addr) (cl : List (Str × Addr)) (fp : List Addr), PG (X.blk s H scope (compEnvC scope cl C X.env) fp) tg g)
    (pt : ∀ (s : Shared) (H : Hp) (C : Addr) (cl : List (Str × Addr)) (fp : List Addr), PTs (X.blk s H scope (compEnvC scope cl C X.env) fp) ifs tt)
    (pk : ∀ (s : Shared) (H : Hp) (C : Addr) (cl : List (Str × Addr)) (fp : List Addr), PE (X.blk s H scope (compEnvC scope cl C X.env) fp) kx tk)
    (pv : ∀ (s : Shared) (H : Hp) (C : Addr) (cl : List (Str × Addr)) (fp : List Addr), PE (X.blk s H scope (compEnvC scope cl C X.env) fp) vx tv) (hs : ∀ x, foldedSetIterable iter X.env x = pure x := by intro _; rfl) :
    PS X (.Assign [.Name y py] (.DictComp kx vx [⟨tg, iter, ifs, 0⟩] scope pos) spos) (tAsg (tDc wi g tt tk tv (own.map (·.2))) (gName i)) := by
  refine ⟨fun pins s σ H D I want => ?_⟩
  rw [exec_Assign_Name_used _ _ _ _ sw]
  refine wpAny_bind (wpAny_standAt (wpAny_bind ?_))
  show wpAny _ X.A (comprehension (.DictComp kx vx [⟨tg, iter, ifs, 0⟩] scope pos) scope X.env (firstIterPos [⟨tg, iter, ifs, 0⟩] pos) newDict false (eval iter X.env) (some (assign (.Name y py) X.env)) >>= _) _ _ s
  refine wpAny_bind (thn (dc_core (Qf := fun _ s' => SP X pins D .next s') calm nd I src ok pg pt pk pv hs (show tDc wi g tt tk tv (own.map (·.2)) σ H (fun x H1 => gName i x σ H1 D.nx) from want) fun A C s' m H' out q ns f => stored_ok nd at_ loc out q ns f) fun _ s' hq => wpAny_pure (wpAny_pure hq))
end
end L2
namespace Ovc
open PySem PySem.Spec PyProof.Rows L2
/-! ### the dict of the ways of links -/
def lkS (x y : Int) (f : Option V) (l : Lnk) : Option V := if x = l.b ∧ y = l.a then some (oV l.k) else if x = l.a ∧ y = l.b then some (oV l.t) else f
def lkv (ls : List Lnk) (x y : Int) : Option V := ls.foldl (lkS x y) none
theorem lkv_snoc {ls : List Lnk} {l : Lnk} {x y : Int} : lkv (ls ++ [l]) x y = lkS x y (lkv ls x y) l := by
  unfold lkv
  rw [List.foldl_append]
  rfl
theorem key2 {x y a b : Int} : (([Sum.inl x, Sum.inl y] : List L2.Key) = [Sum.inl a, Sum.inl b]) ↔ (x = a ∧ y = b) := by
  constructor
  · intro e
    injection e with e1 e2
    injection e2 with e2 _
    exact ⟨Sum.inl.inj e1, Sum.inl.inj e2⟩
  · rintro ⟨rfl, rfl⟩
    rfl
structure LinksAt (H : Hp) (d : Addr) (ls : List Lnk) : Prop where
  ex : ∃ kvs : List (List L2.Key × V), H d = some (.dT kvs) ∧ kvs.length ≤ 2 * ls.length ∧ ∀ x y : Int, valV kvs [Sum.inl x, Sum.inl y] = lkv ls x y
theorem LinksAt.to {H H' : Hp} {d : Addr} {ls : List Lnk} (h : LinksAt H d ls) (s : Same H H') : LinksAt H' d ls := by
  obtain ⟨kvs, e, l, v⟩ := h.ex
  exact ⟨kvs, s _ _ e, l, v⟩
theorem put_len {kvs : List (List L2.Key × V)} {k : List L2.Key} {v : V} : (putK kvs k v).length ≤ kvs.length + 1 := by
  unfold putK
  split
  · rw [List.length_map]
    omega
  · rw [List.length_append]
    exact Nat.le_refl _
def spLinkWays (K : PySem.W.Frag) : Sp := fun vs H Q _ => ∃ (v : V) (N : Net), vs = [v] ∧ Dp K H v (netD N) ∧ N.ls.length ≤ 1700 ∧ ∀ H' d, Same H H' → H d = none → LinksAt H' d N.ls → Q (.ref d) H'
theorem q_dputK {σ : L2.St} {H : Hp} {td ta tb te : TE} {D : Ends} {tw : TS} {v : V} {o : Addr} {kvs : List (List L2.Key × V)} {y1 y2 : Int} (hv : Vl te σ H v) (ho : Vl td σ H (.ref o)) (h1 : Vl ta σ H (.int y1)) (h2 : Vl tb σ H (.int y2)) (hd : H o = some (.dT kvs)) (hl : kvs.length < sizeLine)
    (k : ∀ T, H T = none → o ≠ T → tw D σ (upd (upd H T (.tup [.int y1, .int y2])) o (.dT (putK kvs [.inl y1, .inl y2] v)))) : tSeq (sDPut td (tTup (tCons ta (tCons tb tNil))) te) tw D σ H := q_dput (ty := td) hv ho h1 h2 hd hl k
theorem g_dputK {σ : L2.St} {H : Hp} {td ta tb te : TE} {D : Ends} {v : V} {o : Addr} {kvs : List (List L2.Key × V)} {y1 y2 : Int} (hv : Vl te σ H v) (ho : Vl td σ H (.ref o)) (h1 : Vl ta σ H (.int y1)) (h2 : Vl tb σ H (.int y2)) (hd : H o = some (.dT kvs)) (hl : kvs.length < sizeLine)
    (k : ∀ T, H T = none → o ≠ T → D.nx σ (upd (upd H T (.tup [.int y1, .int y2])) o (.dT (putK kvs [.inl y1, .inl y2] v)))) : sDPut td (tTup (tCons ta (tCons tb tNil))) te D σ H := q_dputK (tw := fun D σ H => D.nx σ H) hv ho h1 h2 hd hl k
abbrev sLinkWays : Stmt := topS 12
theorem scLinkWays : FnScope ["net", "prices", "a", "b", "there", "back"] ["net"] (defScope sLinkWays) := ⟨rfl, rfl, rfl, by decide +kernel, rfl, by decide +kernel, by decide +kernel⟩
section
variable {P : Program} {w : World} {K : PySem.W.Frag} {mg : Str → Option Value} {base : Heap}
theorem ok_linkWays {f : Addr} {fd : FuncData} {k : Nat} (F : Fun K "link_ways" "link_ways" sLinkWays f fd) : FnOk P w K mg base CX0 (k + 1) f fd ["net"] (spLinkWays K) := by
  refine F.ok scLinkWays (fun vs H Q E h => ?_) (fun cdv A outer s H vs Q E hr h => ?_)
  · obtain ⟨v, N, rfl, _⟩ := h
    rfl
  · obtain ⟨v, N, rfl, hN, hl, q⟩ := h
    have hu := hu_of hr
    refine ⟨_, pss_cons (ps_set (i := 1) scLinkWays.nd rfl (.inl rfl) pe_dnewT)
      (pss_cons (ps_for PassesOwn.never rfl (pi_list (pe_ix ix_tup (pv 0) pe_int (fun _ _ => rfl))) (pg_tup rfl (pgs_cons (pg_name (i := 2) scLinkWays.nd rfl (.inl rfl)) (pgs_cons (pg_name (i := 3) scLinkWays.nd rfl (.inl rfl)) (pgs_cons (pg_name (i := 4) scLinkWays.nd rfl (.inl rfl)) (pgs_cons (pg_name (i := 5) scLinkWays.nd rfl (.inl rfl)) pgs_nil)))))
      (pss_cons (ps_dput hu (pv 1) (pe_tup (pa_cons (pv 2) (pa_cons (pv 3) pa_nil))) (pv 4) rfl)
        (pss_one (ps_dput hu (pv 1) (pe_tup (pa_cons (pv 3) (pa_cons (pv 2) pa_nil))) (pv 5) rfl))))
      (pss_one (ps_ret (pv 1)))), ?_⟩
    obtain ⟨p, c, xs, rfl, hp, hc, hx⟩ := Dp.net_inv hN
    refine q_dnewT fun o no => ?_
    refine q_forLnk (Hb := H) (vl_ixT (K := K) (vl_var rfl) vl_c (seqT (same_upd no) hp) (atI_nat (j := 1) rfl)) hc hx (same_upd no)
      (fun i σ H3 => ∃ y2 y3 y4 y5 kvs, σ = [some (.ref p), some (.ref o), y2, y3, y4, y5] ∧ Same H H3 ∧ H3 o = some (.dT kvs) ∧ kvs.length ≤ 2 * i ∧ ∀ x y : Int, valV kvs [Sum.inl x, Sum.inl y] = lkv (N.ls.take i) x y)
      ⟨none, none, none, none, [], rfl, same_upd no, upd_same, Nat.zero_le _, fun x y => rfl⟩ (fun i σ H3 hP => ?_) (fun i l σ H3 hi hP => ?_) (fun σ H3 hP => ?_)
    · obtain ⟨_, _, _, _, _, _, s3, _⟩ := hP
      exact s3
    · obtain ⟨y2, y3, y4, y5, kvs, rfl, s3, ho, hlen, hv⟩ := hP
      have hil := (List.getElem?_eq_some_iff.mp hi).1
      refine q_dputK (vl_var rfl) (vl_var rfl) (vl_var rfl) (vl_var rfl) ho (Nat.lt_of_le_of_lt (m := 10000) (by omega) (by decide)) fun T nT oT => ?_
      have hl1 := put_len (kvs := kvs) (k := [Sum.inl l.a, Sum.inl l.b]) (v := oV l.t)
      refine g_dputK (vl_var rfl) (vl_var rfl) (vl_var rfl) (vl_var rfl) upd_same (Nat.lt_of_le_of_lt (m := 10000) (by omega) (by decide)) fun T2 nT2 oT2 => ?_
      have hl2 := put_len (kvs := putK kvs [Sum.inl l.a, Sum.inl l.b] (oV l.t)) (k := [Sum.inl l.b, Sum.inl l.a]) (v := oV l.k)
      have s4 : Same H (upd (upd H3 T (.tup [.int l.a, .int l.b])) o (.dT (putK kvs [Sum.inl l.a, Sum.inl l.b] (oV l.t)))) := same_upd' (s3.trans (same_upd nT)) no
      refine ⟨_, _, _, _, _, rfl, same_upd' (s4.trans (same_upd nT2)) no, upd_same, by omega, fun x y => ?_⟩
      rw [valV_put, valV_put, hv, take_snoc hi, lkv_snoc]
      unfold lkS
      by_cases c1 : x = l.b ∧ y = l.a
      · rw [if_pos (key2.mpr c1), if_pos c1]
      · rw [if_neg (fun z => c1 (key2.mp z)), if_neg c1]
        by_cases c2 : x = l.a ∧ y = l.b
        · rw [if_pos (key2.mpr c2), if_pos c2]
        · rw [if_neg (fun z => c2 (key2.mp z)), if_neg c2]
    · obtain ⟨y2, y3, y4, y5, kvs, rfl, s3, ho, hlen, hv⟩ := hP
      rw [List.take_length] at hv
      exact g_ret (vl_var rfl) (q H3 o s3 no ⟨kvs, ho, hlen, hv⟩)
end
/-! ### lower places by pairs -/
theorem mem_cmbsF {α : Type} {f : α → Nat} : ∀ {l : List α} {p : α × α}, l.Pairwise (fun a b => f a < f b) → (p ∈ CpCmb.cmbs l ↔ f p.1 < f p.2 ∧ p.1 ∈ l ∧ p.2 ∈ l)
  | [], p, _ => ⟨fun h => (nomatch h), fun h => (nomatch h.2.1)⟩
  | x :: l, (a, b), h => by
    have h1 := List.pairwise_cons.mp h
    show (a, b) ∈ l.map (fun y => (x, y)) ++ CpCmb.cmbs l ↔ _
    rw [List.mem_append, List.mem_map, mem_cmbsF h1.2]
    constructor
    · rintro (⟨y, hy, e⟩ | ⟨h2, h3, h4⟩)
      · cases e
        exact ⟨h1.1 _ hy, List.mem_cons_self, List.mem_cons_of_mem _ hy⟩
      · exact ⟨h2, List.mem_cons_of_mem _ h3, List.mem_cons_of_mem _ h4⟩
    · rintro ⟨h2, h3, h4⟩
      have h2 : f a < f b := h2
      rcases List.mem_cons.mp h3 with e | e
      · have e : a = x := e
        rcases List.mem_cons.mp h4 with e2 | e2
        · have e2 : b = x := e2
          rw [e, e2] at h2
          exact absurd h2 (Nat.lt_irrefl _)
        · exact .inl ⟨b, e2, by rw [e]⟩
      · rcases List.mem_cons.mp h4 with e2 | e2
        · have e2 : b = x := e2
          have := h1.1 _ e
          rw [e2] at h2
          exact absurd h2 (Nat.not_lt.mpr (Nat.le_of_lt this))
        · exact .inr ⟨h2, e, e2⟩
theorem cmbs_nodup {α : Type} {f : α → Nat} : ∀ {l : List α}, l.Pairwise (fun a b => f a < f b) → (CpCmb.cmbs l).Nodup
  | [], _ => List.nodup_nil
  | x :: l, h => by
    have h1 := List.pairwise_cons.mp h
    have hn : l.Nodup := h1.2.imp fun h z => by
      rw [z] at h
      exact Nat.lt_irrefl _ h
    show (l.map (fun y => (x, y)) ++ CpCmb.cmbs l).Nodup
    refine List.nodup_append.mpr ⟨?_, cmbs_nodup h1.2, fun a ha b hb e => ?_⟩
    · exact List.Pairwise.map _ (fun a b hab e => hab (congrArg Prod.snd e)) hn
    · obtain ⟨y, hy, rfl⟩ := List.mem_map.mp ha
      rw [← e] at hb
      have := ((mem_cmbsF h1.2).mp hb).2.1
      exact Nat.lt_irrefl _ (h1.1 x this)
theorem flat_filter {g : Int → List Int} {w : Int} : ∀ {us : List Int}, us.Nodup → ((us.flatMap fun u => (g u).map fun v => (u, v)).filter fun p => decide (p.1 = w)).map (·.2) = if w ∈ us then g w else []
  | [], _ => rfl
  | u :: us, h => by
    have h := List.nodup_cons.mp h
    rw [List.flatMap_cons, List.filter_append, List.map_append, flat_filter h.2]
    by_cases e : u = w
    · subst e
      rw [if_neg h.1, if_pos List.mem_cons_self, List.append_nil]
      rw [List.filter_eq_self.mpr (fun p hp => by
        obtain ⟨v, _, rfl⟩ := List.mem_map.mp hp
        exact decide_eq_true rfl), List.map_map]
      exact List.map_id _
    · rw [List.filter_eq_nil_iff.mpr (fun p hp => by
        obtain ⟨v, _, rfl⟩ := List.mem_map.mp hp
        simpa using e)]
      rw [List.map_nil, List.nil_append]
      by_cases c : w ∈ us
      · rw [if_pos c, if_pos (List.mem_cons_of_mem _ c)]
      · rw [if_neg c, if_neg (fun z => by
          rcases List.mem_cons.mp z with z | z
          · exact e z.symm
          · exact c z)]
theorem above_all {n : Int} {ls : List Lnk} {os : List Int} {w : Int} (oo : OrdOk n os) (hw : w ∈ os) : ((pairsL ls os).filter fun p => decide (p.1 = w)).map (·.2) = upP ls os w := by
  unfold pairsL
  rw [flat_filter oo.nodup, if_pos hw]
/-- keys and addresses side by side -/
def kz {κ : Type} (ks : List κ) (rw : List Addr) : List (κ × V) := List.zipWith (fun k a => (k, V.ref a)) ks rw
theorem kz_snoc {κ : Type} {ks : List κ} {rs : List Addr} {k : κ} {a : Addr} (h : ks.length = rs.length) : kz (ks ++ [k]) (rs ++ [a]) = kz ks rs ++ [(k, V.ref a)] := by
  unfold kz
  rw [List.zipWith_append h]
  rfl
theorem kz_val {κ : Type} [DecidableEq κ] : ∀ {ks : List κ} {rs : List Addr} {i : Nat} {k : κ} {a : Addr}, ks.Nodup → ks[i]? = some k → rs[i]? = some a → valV (kz ks rs) k = some (.ref a)
  | [], _, _, _, _, _, h, _ => by simp at h
  | _ :: _, [], _, _, _, _, _, h => by simp at h
  | x :: ks, r :: rs, 0, k, a, _, h1, h2 => by
    cases Option.some.inj h1
    cases Option.some.inj h2
    show (List.find? (fun kv : κ × V => decide (kv.1 = x)) ((x, V.ref r) :: kz ks rs)).map (·.2) = _
    rw [List.find?_cons, decide_eq_true (rfl : x = x)] <;> rfl
  | x :: ks, r :: rs, i + 1, k, a, hn, h1, h2 => by
    have hn := List.nodup_cons.mp hn
    have h1 : ks[i]? = some k := h1
    have h2 : rs[i]? = some a := h2
    have ne : ¬ x = k := fun z => hn.1 (by rw [z]; exact List.mem_of_getElem? h1)
    have ih := kz_val hn.2 h1 h2
    show (List.find? (fun kv : κ × V => decide (kv.1 = k)) ((x, V.ref r) :: kz ks rs)).map (·.2) = _
    rw [List.find?_cons, decide_eq_false ne]
    exact ih
theorem kz_any {κ : Type} [DecidableEq κ] : ∀ {ks : List κ} {rs : List Addr} {k : κ}, k ∉ ks → ((kz ks rs).any fun kv => decide (kv.1 = k)) = false
  | [], _, _, _ => rfl
  | _ :: _, [], _, _ => rfl
  | x :: ks, r :: rs, k, h => by
    show (decide (x = k) || (kz ks rs).any fun kv => decide (kv.1 = k)) = false
    rw [kz_any (rs := rs) (fun z => h (List.mem_cons_of_mem _ z)), decide_eq_false (fun z => h (by
      rw [z]
      exact List.mem_cons_self))]
    rfl
theorem kz_put {κ : Type} [DecidableEq κ] {ks : List κ} {rs : List Addr} {k : κ} {a : Addr} (h : k ∉ ks) (hl : ks.length = rs.length) : putK (kz ks rs) k (.ref a) = kz (ks ++ [k]) (rs ++ [a]) := by
  have hf := kz_any (rs := rs) h
  unfold putK
  rw [hf, if_neg Bool.false_ne_true, kz_snoc hl]
theorem kz_len {κ : Type} {ks : List κ} {rs : List Addr} (h : rs.length = ks.length) : (kz ks rs).length = ks.length := by
  unfold kz
  rw [List.length_zipWith, h, Nat.min_self]
def K2 (p : Int × Int) : List L2.Key := [Sum.inl p.1, Sum.inl p.2]
theorem K2_inj {p q : Int × Int} (h : K2 p = K2 q) : p = q := by
  unfold K2 at h
  injection h with e1 e2
  injection e2 with e2 _
  exact Prod.ext (Sum.inl.inj e1) (Sum.inl.inj e2)
section
variable {K : PySem.W.Frag} {σ : L2.St} {H : Hp} {tl : TE}
/-- {x: [] for x in ns} -/
theorem dc_rows {j : Nat} {ns : List Int} {Q : VK} (hj : j < σ.length) (hl : ∀ Q : VK, (∀ a H1, Same H H1 → SqL K H1 a (ns.map V.int) → Q (.ref a) H1) → tl σ H Q) (hn : ns.Nodup) (hz : ns.length ≤ 1000)
    (q : ∀ D H' (rw : List Addr), Same H H' → H D = none → H' D = some (.dK (kz (ns.map Sum.inl) rw)) → rw.length = ns.length → rw.Nodup → D ∉ rw → (∀ a ∈ rw, H a = none ∧ H' a = some (.lst [])) → Q (.ref D) H') : tDc (iList K tl) (gName j) tYes (tVar j) (tLst tNil) [j] σ H Q := by
  refine hl _ fun a H1 s1 hx => ⟨a, rfl, ⟨_, hx⟩, fun D nD => ?_⟩
  refine ⟨fun i m H2 => m + i = ns.length ∧ ∃ rw : List Addr, H2 D = some (.dK (kz ((ns.take i).map Sum.inl) rw)) ∧ Same H1 H2 ∧ rw.length = i ∧ rw.Nodup ∧ D ∉ rw ∧ ∀ a ∈ rw, H a = none ∧ H2 a = some (.lst []),
    ⟨ns.length, rfl, [], upd_same, same_upd nD, rfl, .nil, List.not_mem_nil, fun _ h => (nomatch h)⟩, fun i m H2 hW => ?_⟩
  obtain ⟨em, rw_, hD, s2, hlen, hnd, hDn, hr⟩ := hW
  by_cases hi : i < ns.length
  · refine .inr ⟨⟨_, _, s2.seq hx, by rw [List.getElem?_map, List.getElem?_eq_getElem hi] <;> rfl⟩, fun H2 => ∃ rw : List Addr, H2 D = some (.dK (kz ((ns.take (i + 1)).map Sum.inl) rw)) ∧ Same H1 H2 ∧ rw.length = i + 1 ∧ rw.Nodup ∧ D ∉ rw ∧ ∀ a ∈ rw, H a = none ∧ H2 a = some (.lst []), fun H' h => ⟨m - 1, by omega, by omega, h⟩, fun x H' hy => ?_⟩
    obtain ⟨rfl, hy⟩ := hy
    have hy := hy _ (s2.seq hx)
    have hg : ns[i]? = some ns[i] := List.getElem?_eq_getElem hi
    rw [List.getElem?_map, hg] at hy
    have hnew : ns[i] ∉ ns.take i := fun h => by
      obtain ⟨k, hk⟩ := List.mem_iff_getElem?.mp h
      have hlt := (List.getElem?_eq_some_iff.mp hk).1
      rw [List.length_take] at hlt
      rw [List.getElem?_take, if_pos (by omega), ← hg] at hk
      have := (List.getElem?_inj (by omega) hn).mp hk
      omega
    generalize ns[i] = n at hg hy hnew
    cases hy
    refine ⟨?_, ?_⟩
    · show ((σ.set j none).set j (some (V.int n))).set j none = σ.set j none
      rw [List.set_set, List.set_set]
    · refine yes_of ?_
      dsimp only
      rw [if_pos rfl]
      have hjl : ((σ.set j none).set j (some (V.int n)))[j]? = some (some (V.int n)) := List.getElem?_set_self (by rw [List.length_set]; exact hj)
      refine ⟨_, hjl, Nat.zero_le _, fun p np => ⟨_, Sum.inl n, rfl, same_upd np _ _ hD, ?_, rw_ ++ [p], ?_, ?_, ?_, ?_, ?_, fun b hb => ?_⟩⟩
      · rw [kz_len (by rw [List.length_map, List.length_take, hlen]; omega), List.length_map, List.length_take]
        exact Nat.lt_of_le_of_lt (m := 1000) (by omega) (by decide)
      · rw [upd_same, kz_put (fun h => by
          obtain ⟨z, hz, e⟩ := List.mem_map.mp h
          exact hnew (by rw [← Sum.inl.inj e]; exact hz)) (by rw [List.length_map, List.length_take, hlen]; omega), take_snoc hg, List.map_append]
        rfl
      · exact same_upd' (s2.trans (same_upd np)) nD
      · rw [List.length_append, hlen]
        rfl
      · refine List.nodup_append.mpr ⟨hnd, List.nodup_cons.mpr ⟨List.not_mem_nil, .nil⟩, fun x hx y hy e => ?_⟩
        rw [List.mem_singleton.mp hy] at e
        have := (hr x hx).2
        rw [e, np] at this
        cases this
      · intro h
        rcases List.mem_append.mp h with h | h
        · exact hDn h
        · rw [List.mem_singleton.mp h, np] at hD
          cases hD
      · rcases List.mem_append.mp hb with h | h
        · exact ⟨(hr b h).1, by
            rw [upd_ne (fun e => hDn (by rw [← e]; exact h))]
            exact same_upd np _ _ (hr b h).2⟩
        · have e := List.mem_singleton.mp h
          refine ⟨by rw [e]; exact Same.free (s1.trans s2) np, ?_⟩
          rw [e, upd_ne (fun z => by rw [← z, np] at hD; cases hD)]
          exact upd_same
  · refine .inl ⟨⟨_, s2.seq hx, by rw [List.length_map]; omega⟩, ?_⟩
    rw [List.take_of_length_le (by omega)] at hD
    exact q D H2 rw_ (s1.trans s2) (Same.free s1 nD) hD (by omega) hnd hDn hr
/-- {pair: [] for pair in found} -/
theorem dcT_rows {j : Nat} {ts : List V} {L : List (Int × Int)} {Q : VK} {a : Addr} (hj : j < σ.length) (hl : Vl tl σ H (.ref a)) (hx : SqL K H a ts) (hT : TupsAt H ts L) (hn : L.Nodup) (hz : L.length ≤ 2000)
    (q : ∀ D H' (rw : List Addr), Same H H' → H D = none → H' D = some (.dT (kz (L.map K2) rw)) → rw.length = L.length → rw.Nodup → D ∉ rw → (∀ a ∈ rw, H a = none ∧ H' a = some (.lst [])) → Q (.ref D) H') : tDcT (iList K tl) (gName j) tYes (tVar j) (tLst tNil) [j] σ H Q := by
  refine hl _ ⟨a, rfl, ⟨_, hx⟩, fun D nD => ?_⟩
  refine ⟨fun i m H2 => m + i = L.length ∧ ∃ rw : List Addr, H2 D = some (.dT (kz ((L.take i).map K2) rw)) ∧ Same H H2 ∧ rw.length = i ∧ rw.Nodup ∧ D ∉ rw ∧ ∀ a ∈ rw, H a = none ∧ H2 a = some (.lst []),
    ⟨L.length, rfl, [], upd_same, same_upd nD, rfl, .nil, List.not_mem_nil, fun _ h => (nomatch h)⟩, fun i m H2 hW => ?_⟩
  obtain ⟨em, rw_, hD, s2, hlen, hnd, hDn, hr⟩ := hW
  by_cases hi : i < L.length
  · have hg : L[i]? = some L[i] := List.getElem?_eq_getElem hi
    have hnew : L[i] ∉ L.take i := fun h => by
      obtain ⟨k, hk⟩ := List.mem_iff_getElem?.mp h
      have hlt := (List.getElem?_eq_some_iff.mp hk).1
      rw [List.length_take] at hlt
      rw [List.getElem?_take, if_pos (by omega), ← hg] at hk
      have := (List.getElem?_inj (by omega) hn).mp hk
      omega
    generalize L[i] = n at hg hnew
    obtain ⟨u, v⟩ := n
    obtain ⟨t, e1, e2⟩ := hT.at_ i u v hg
    refine .inr ⟨⟨_, _, s2.seq hx, e1⟩, fun H2 => ∃ rw : List Addr, H2 D = some (.dT (kz ((L.take (i + 1)).map K2) rw)) ∧ Same H H2 ∧ rw.length = i + 1 ∧ rw.Nodup ∧ D ∉ rw ∧ ∀ a ∈ rw, H a = none ∧ H2 a = some (.lst []), fun H' h => ⟨m - 1, by omega, by omega, h⟩, fun x H' hy => ?_⟩
    obtain ⟨rfl, hy⟩ := hy
    cases (hy _ (s2.seq hx)).symm.trans e1
    refine ⟨?_, ?_⟩
    · show ((σ.set j none).set j (some (V.ref t))).set j none = σ.set j none
      rw [List.set_set, List.set_set]
    · refine yes_of ?_
      dsimp only
      rw [if_pos rfl]
      have hjl : ((σ.set j none).set j (some (V.ref t)))[j]? = some (some (V.ref t)) := List.getElem?_set_self (by rw [List.length_set]; exact hj)
      refine ⟨_, hjl, Nat.zero_le _, fun p np => ⟨_, K2 (u, v), t, rfl, same_upd np _ _ (s2 _ _ e2), same_upd np _ _ hD, ?_, rw_ ++ [p], ?_, ?_, ?_, ?_, ?_, fun b hb => ?_⟩⟩
      · rw [kz_len (by rw [List.length_map, List.length_take, hlen]; omega), List.length_map, List.length_take]
        exact Nat.lt_of_le_of_lt (m := 2000) (by omega) (by decide)
      · rw [upd_same, kz_put (fun h => by
          obtain ⟨z, hz, e⟩ := List.mem_map.mp h
          exact hnew (by rw [← K2_inj e]; exact hz)) (by rw [List.length_map, List.length_take, hlen]; omega), take_snoc hg, List.map_append]
        rfl
      · exact same_upd' (s2.trans (same_upd np)) nD
      · rw [List.length_append, hlen]
        rfl
      · refine List.nodup_append.mpr ⟨hnd, List.nodup_cons.mpr ⟨List.not_mem_nil, .nil⟩, fun x hx y hy e => ?_⟩
        rw [List.mem_singleton.mp hy] at e
        have := (hr x hx).2
        rw [e, np] at this
        cases this
      · intro h
        rcases List.mem_append.mp h with h | h
        · exact hDn h
        · rw [List.mem_singleton.mp h, np] at hD
          cases hD
      · rcases List.mem_append.mp hb with h | h
        · exact ⟨(hr b h).1, by
            rw [upd_ne (fun e => hDn (by rw [← e]; exact h))]
            exact same_upd np _ _ (hr b h).2⟩
        · have e := List.mem_singleton.mp h
          refine ⟨by rw [e]; exact Same.free s2 np, ?_⟩
          rw [e, upd_ne (fun z => by rw [← z, np] at hD; cases hD)]
          exact upd_same
  · refine .inl ⟨⟨_, s2.seq hx, by rw [hT.len]; omega⟩, ?_⟩
    rw [List.take_of_length_le (by omega)] at hD
    exact q D H2 rw_ s2 nD hD (by omega) hnd hDn hr
theorem vl_dgetT {td ty : TE} {o b : Addr} {p : Int × Int} {kvs : List (List L2.Key × V)} {v : V} (ho : Vl td σ H (.ref o)) (hk : Vl ty σ H (.ref b)) (hb : H b = some (.tup [.int p.1, .int p.2])) (hd : H o = some (.dT kvs)) (hv : valV kvs (K2 p) = some v) : Vl (tDGet td ty) σ H v := fun Q q => ho _ (hk _ ⟨o, v, rfl, by
  rw [← hv]
  exact DGet.t (k := K2 p) hd hb, q⟩)
end
def spLowBy (K : PySem.W.Frag) : Sp := fun vs H Q _ => ∃ (fp p : Addr) (ts : List V) (N : Net) (os : List Int), vs = [.ref fp, .ref p] ∧ SqL K H fp ts ∧ TupsAt H ts (pairsL N.ls os) ∧ SqL K H p (os.map V.int) ∧ NetOk N ∧ OrdOk N.n os ∧
  ∀ H' d kvs, Same H H' → H d = none → LowD H H' d kvs (pairsL N.ls os) os → Q (.ref d) H'
abbrev sLowBy : Stmt := topS 22
theorem scLowBy : FnScope ["found", "order", "place", "above", "low", "high", "pair", "lower"] ["found", "order"] (defScope sLowBy) := ⟨rfl, rfl, rfl, by decide +kernel, rfl, by decide +kernel, by decide +kernel⟩
section
variable {P : Program} {w : World} {K : PySem.W.Frag} {mg : Str → Option Value} {base : Heap}
theorem ok_lowBy {f : Addr} {fd : FuncData} {k : Nat} (F : Fun K "_lower_by_pair" "_lower_by_pair" sLowBy f fd) (mcmb : mg "combinations" = some (.type "itertools.combinations")) : FnOk P w K mg base CX0 (k + 1) f fd ["found", "order"] (spLowBy K) := by
  refine F.ok scLowBy (fun vs H Q E h => ?_) (fun cdv A outer s H vs Q E hr h => ?_)
  · obtain ⟨fp, p, ts, N, os, rfl, _⟩ := h
    rfl
  · obtain ⟨fp, p, ts, N, os, rfl, hF, hT, hS, okN, oo, q⟩ := h
    have hu := hu_of hr
    refine ⟨_, pss_cons (ps_setDc (i := 3) (own := [("place", 2)]) (g := gName 2) (tt := tYes) (tk := (tVar 2)) (tv := (tLst tNil)) rfl scLowBy.nd rfl rfl (swapsD rfl rfl rfl (by decide +kernel)) (pi_list (pv 1)) (blkOk_by (own := [("place", 2)]) (N := ["found", "order", "place", "above", "low", "high", "pair", "lower"]) (sc := defScope sLowBy) (by decide +kernel)) (fun _ _ _ _ _ => pg_name (i := 2) scLowBy.nd rfl (Or.inl rfl)) (fun _ _ _ _ _ => by exact pts_nil) (fun _ _ _ _ _ => by exact (pv 2)) (fun _ _ _ _ _ => by exact (pe_lst pa_nil)))
      (pss_cons (ps_for PassesOwn.never rfl (pi_list (pv 0)) (pg_tup rfl (pgs_cons (pg_name (i := 4) scLowBy.nd rfl (.inl rfl)) (pgs_cons (pg_name (i := 5) scLowBy.nd rfl (.inl rfl)) pgs_nil)))
      (pss_one (ps_expr (pe_bm PySem.F.plainAttrs_list PySem.F.slot_list_append PySem.F.type_list_append mt_append (pe_dget hu (pv 3) (pv 4) (fun _ _ => rfl)) (pa_cons (pv 5) pa_nil)))))
      (pss_cons (ps_setDcT (i := 7) (own := [("pair", 6)]) (g := gName 6) (tt := tYes) (tk := (tVar 6)) (tv := (tLst tNil)) hu rfl scLowBy.nd rfl rfl (swapsD rfl rfl rfl (by decide +kernel)) (pi_list (pv 0)) (blkOk_by (own := [("pair", 6)]) (N := ["found", "order", "place", "above", "low", "high", "pair", "lower"]) (sc := defScope sLowBy) (by decide +kernel)) (fun _ _ _ _ _ => pg_name (i := 6) scLowBy.nd rfl (Or.inl rfl)) (fun _ _ _ _ _ => by exact pts_nil) (fun _ _ _ _ _ => by exact (pv 6)) (fun _ _ _ _ _ => by exact (pe_lst pa_nil)))
      (pss_cons (ps_for PassesOwn.never rfl (pi_list (pv 1)) (pg_name (i := 2) scLowBy.nd rfl (.inl rfl))
      (pss_one (ps_for PassesOwn.never rfl (pi_cmb (by rfl) mcmb (pa_cons (pe_dget hu (pv 3) (pv 2) (fun _ _ => rfl)) (pa_cons pe_int pa_nil))) (pg_name (i := 6) scLowBy.nd rfl (.inl rfl))
        (pss_one (ps_expr (pe_bm PySem.F.plainAttrs_list PySem.F.slot_list_append PySem.F.type_list_append mt_append (pe_dget hu (pv 7) (pv 6) (fun _ _ => rfl)) (pa_cons (pv 2) pa_nil)))))))
      (pss_one (ps_ret (pv 7)))))), ?_⟩
    have on := oo.len
    have n40 := okN.n40
    have n1 := okN.n1
    have hnd := oo.nodup
    have hLn := pairsL_nodup (ls := N.ls) oo
    have hLl := pairsL_len okN oo
    have tl := hT.len
    refine q_asgE (dc_rows (K := K) (by show 2 < 8; decide) (vx_list (vl_var rfl) hS) hnd (by omega) fun d1 H1 r1 s1 n1_ e1 l1 nd1 nn1 hr1 => ?_)
    refine q_forP (vl_var rfl) (s1.seq hF) tl
      (fun i σ H2 => ∃ y4 y5, σ = [some (.ref fp), some (.ref p), none, some (.ref d1), y4, y5, none, none] ∧ Same H H2 ∧ H2 d1 = some (.dK (kz (os.map Sum.inl) r1)) ∧
        ∀ (k : Nat) w a, os[k]? = some w → r1[k]? = some a → H2 a = some (.lst (((((pairsL N.ls os).take i).filter fun p => decide (p.1 = w)).map (·.2)).map V.int)))
      ⟨none, none, rfl, s1, e1, fun k w a hk ha => (hr1 a (List.mem_of_getElem? ha)).2⟩ (fun i σ H2 hP => ?_) (fun i u v t σ H2 hi ht hP => ?_) (fun σ H2 hP => ?_)
    · obtain ⟨_, _, _, s2, _⟩ := hP
      exact ⟨s2.seq hF, hT.to s2⟩
    · obtain ⟨y4, y5, rfl, s2, e2, hA⟩ := hP
      have hm : (u, v) ∈ pairsL N.ls os := List.mem_of_getElem? hi
      have hp := (mem_pairsL okN oo).mp hm
      have huo : u ∈ os := oo.mem.mpr (hp.ins okN).1
      have hk := posOf_lt huo
      have hkl := pos_len huo
      have ha : r1[posOf u os]? = some r1[posOf u os] := List.getElem?_eq_getElem (by omega)
      generalize r1[posOf u os] = a at ha
      have hal := hA _ u a hk ha
      have hv := kz_val (ks := os.map Sum.inl) (rs := r1) (k := (Sum.inl u : L2.Key)) (List.Pairwise.map _ (fun a b hab e => hab (Sum.inl.inj e)) hnd) (by rw [List.getElem?_map, hk] <;> rfl) ha
      refine g_app (vl_dgetI (vl_var rfl) (vl_var rfl) e2 hv) hal (vl_var rfl) ?_ ⟨_, _, rfl, same_upd' s2 (hr1 a (List.mem_of_getElem? ha)).1, ?_, fun k' w' a' hk' ha' => ?_⟩
      · rw [List.length_map, List.length_map]
        refine Nat.lt_of_le_of_lt (m := 2000) ?_ (by decide)
        have := List.length_filter_le (fun p : Int × Int => decide (p.1 = u)) ((pairsL N.ls os).take i)
        rw [List.length_take] at this
        omega
      · rw [upd_ne (fun z => nn1 (by rw [z]; exact List.mem_of_getElem? ha))]
        exact e2
      · rw [take_snoc hi, List.filter_append, List.map_append, List.map_append]
        by_cases e : w' = u
        · subst e
          have ek : k' = posOf w' os := by
            have := posOf_get hnd hk'
            omega
          rw [ek, ha] at ha'
          cases ha'
          rw [upd_same, List.filter_cons, decide_eq_true (rfl : w' = w')]
          rfl
        · rw [upd_ne (fun z => by
            rw [z, ← ha] at ha'
            have := (List.getElem?_inj (by
              have := (List.getElem?_eq_some_iff.mp hk').1
              omega) nd1).mp ha'
            rw [this, hk] at hk'
            exact e (Option.some.inj hk').symm), hA k' w' a' hk' ha', List.filter_cons, decide_eq_false (fun z : u = w' => e z.symm)]
          simp
    · obtain ⟨y4, y5, rfl, s2, e2, hA⟩ := hP
      rw [List.take_length] at hA
      have hA2 : ∀ (k : Nat) w a, os[k]? = some w → r1[k]? = some a → H2 a = some (.lst ((upP N.ls os w).map V.int)) := fun k w a hk ha => by
        rw [hA k w a hk ha, above_all oo (List.mem_of_getElem? hk)]
      clear hA
      -- lower
      refine q_asgE (dcT_rows (K := K) (by show 6 < 8; decide) (vl_var rfl) (s2.seq hF) (hT.to s2) hLn (by omega) fun d2 H3 r2 s3 n2 e3 l2 nd2 nn2 hr2 => ?_)
      have hrd : ∀ a ∈ r2, H a = none := fun a h => Same.free s2 (hr2 a h).1
      have hd1 : d1 ∉ r2 := fun h => by
        have := (hr2 d1 h).1
        rw [e2] at this
        cases this
      have e13 := s3 _ _ e2
      have hA3 : ∀ (k : Nat) w a, os[k]? = some w → r1[k]? = some a → H3 a = some (.lst ((upP N.ls os w).map V.int)) ∧ a ∉ r2 := fun k w a hk ha => ⟨s3 _ _ (hA2 k w a hk ha), fun h => by
        have := (hr2 a h).1
        rw [hA2 k w a hk ha] at this
        cases this⟩
      refine q_forL (K := K) (j := 2) (xs := os.map V.int) (vl_var rfl) ((s2.trans s3).seq hS)
        (fun m σ H4 => ∃ y2 y4 y5 y6, σ = [some (.ref fp), some (.ref p), y2, some (.ref d1), y4, y5, y6, some (.ref d2)] ∧ Same H H4 ∧ Same (msk (· ∈ r2) H3) (msk (· ∈ r2) H4) ∧
          ∀ (k : Nat) u v a, (pairsL N.ls os)[k]? = some (u, v) → r2[k]? = some a → H4 a = some (.lst (((os.take m).filter fun w => decide ((w, u) ∈ pairsL N.ls os) && decide ((w, v) ∈ pairsL N.ls os)).map V.int)))
        ⟨_, _, _, _, rfl, s2.trans s3, Same.refl _, fun k u v a hk ha => (hr2 a (List.mem_of_getElem? ha)).2⟩ (fun m σ H4 hP => ?_) (fun m x σ H4 hi hP => ?_) (fun σ H4 hP => ?_)
      · obtain ⟨_, _, _, _, _, s4, _⟩ := hP
        exact s4.seq hS
      · obtain ⟨y2, y4', y5', y6, rfl, s4, k4, hB⟩ := hP
        have hm : m < os.length := by
          have := (List.getElem?_eq_some_iff.mp hi).1
          rw [List.length_map] at this
          exact this
        have hg : os[m]? = some os[m] := List.getElem?_eq_getElem hm
        rw [List.getElem?_map, hg] at hi
        generalize os[m] = w0 at hg hi
        cases hi
        have ha : r1[m]? = some r1[m] := List.getElem?_eq_getElem (by omega)
        generalize r1[m] = a at ha
        obtain ⟨ha3, har⟩ := hA3 m w0 a hg ha
        have hv := kz_val (ks := os.map Sum.inl) (rs := r1) (k := (Sum.inl w0 : L2.Key)) (List.Pairwise.map _ (fun a b hab e => hab (Sum.inl.inj e)) hnd) (by rw [List.getElem?_map, hg] <;> rfl) ha
        have ha4 := msk_get k4 ha3 har
        have hs := up_sorted (N := N) (u := w0) oo
        have hcn := cmbs_nodup hs
        refine (vl_dgetI (σ := [some (.ref fp), some (.ref p), some (.int w0), some (.ref d1), y4', y5', y6, some (.ref d2)]) (vl_var (i := 3) rfl) (vl_var (i := 2) rfl) (msk_get k4 e13 hd1) hv) _ ⟨a, _, rfl, .of ha4, for_cm
          (fun t σ H5 => ∃ y6, σ = [some (.ref fp), some (.ref p), some (.int w0), some (.ref d1), y4', y5', y6, some (.ref d2)] ∧ Same H H5 ∧ Same (msk (· ∈ r2) H3) (msk (· ∈ r2) H5) ∧
            ∀ (k : Nat) u v a, (pairsL N.ls os)[k]? = some (u, v) → r2[k]? = some a → H5 a = some (.lst (((os.take m).filter fun w => decide ((w, u) ∈ pairsL N.ls os) && decide ((w, v) ∈ pairsL N.ls os)).map V.int ++ if (u, v) ∈ (CpCmb.cmbs (upP N.ls os w0)).take t then [V.int w0] else [])))
          ⟨_, rfl, s4, k4, fun k u v a hk ha => by
            rw [hB k u v a hk ha, List.take_zero, if_neg List.not_mem_nil, List.append_nil]⟩ (fun t x y T σ H5 ht hP nT => ?_) (fun σ H5 hP => ?_)⟩
        · obtain ⟨y6, rfl, s5, k5, hC⟩ := hP
          rw [CpCmb.cmbs_map, List.getElem?_map] at ht
          cases hq : (CpCmb.cmbs (upP N.ls os w0))[t]? with
          | none =>
            rw [hq] at ht
            cases ht
          | some xy =>
            obtain ⟨i1, k1⟩ := xy
            rw [hq] at ht
            cases ht
            have hmem := (mem_cmbsF hs).mp (List.mem_of_getElem? hq)
            have p1 := (mem_up.mp hmem.2.1).2
            have p2 := (mem_up.mp hmem.2.2).2
            have hpL : (i1, k1) ∈ pairsL N.ls os := (mem_pairsL okN oo).mpr (pair_clique okN p1 p2 hmem.1)
            obtain ⟨kk, hkk⟩ := List.mem_iff_getElem?.mp hpL
            have hkkl := (List.getElem?_eq_some_iff.mp hkk).1
            have hb : r2[kk]? = some r2[kk] := List.getElem?_eq_getElem (by omega)
            generalize r2[kk] = b at hb
            have hbm := List.mem_of_getElem? hb
            have hv2 := kz_val (ks := (pairsL N.ls os).map K2) (rs := r2) (k := K2 (i1, k1)) (List.Pairwise.map _ (fun a b hab e => hab (K2_inj e)) hLn) (by rw [List.getElem?_map, hkk] <;> rfl) hb
            have s6 : Same H5 (upd H5 T (.tup [.int i1, .int k1])) := same_upd nT
            have e35 := s6 _ _ (msk_get k5 e3 nn2)
            have hb6 := s6 _ _ (hC kk i1 k1 b hkk hb)
            have hnt : (i1, k1) ∉ (CpCmb.cmbs (upP N.ls os w0)).take t := fun h => by
              obtain ⟨k', hk'⟩ := List.mem_iff_getElem?.mp h
              have hlt := (List.getElem?_eq_some_iff.mp hk').1
              rw [List.length_take] at hlt
              rw [List.getElem?_take, if_pos (by omega), ← hq] at hk'
              have := (List.getElem?_inj (by omega) hcn).mp hk'
              omega
            rw [if_neg hnt, List.append_nil] at hb6
            refine g_app (v := .int w0) (vl_dgetT (p := (i1, k1)) (vl_var (i := 7) rfl) (vl_var (i := 6) rfl) upd_same e35 hv2) hb6 (vl_var (i := 2) rfl) ?_ ⟨_, rfl, same_upd' (s5.trans s6) (hrd b hbm), ?_, fun k' u' v' a' hk' ha' => ?_⟩
            · rw [List.length_map]
              refine Nat.lt_of_le_of_lt (m := 2000) ?_ (by decide)
              have := List.length_filter_le (fun w => decide ((w, i1) ∈ pairsL N.ls os) && decide ((w, k1) ∈ pairsL N.ls os)) (os.take m)
              rw [List.length_take] at this
              omega
            · rw [msk_upd hbm]
              exact k5.trans (msk_mono s6)
            · rw [take_snoc hq]
              by_cases e : (u', v') = (i1, k1)
              · cases e
                have ekk : k' = kk := (List.getElem?_inj (by
                  have := (List.getElem?_eq_some_iff.mp hk').1
                  exact this) hLn).mp (hk'.trans hkk.symm)
                rw [ekk, hb] at ha'
                cases ha'
                rw [upd_same, if_pos (List.mem_append.mpr (.inr (List.mem_singleton.mpr rfl)))]
              · rw [upd_ne (fun z => by
                  rw [z, ← hb] at ha'
                  have hk2 := (List.getElem?_inj (by
                    have := (List.getElem?_eq_some_iff.mp hk').1
                    omega) nd2).mp ha'
                  rw [hk2, hkk] at hk'
                  exact e (Option.some.inj hk').symm), s6 _ _ (hC k' u' v' a' hk' ha')]
                have e2 : ((u', v') ∈ (CpCmb.cmbs (upP N.ls os w0)).take t ++ [(i1, k1)]) ↔ (u', v') ∈ (CpCmb.cmbs (upP N.ls os w0)).take t := by
                  rw [List.mem_append, List.mem_singleton]
                  exact ⟨fun h => h.resolve_right e, .inl⟩
                by_cases c : (u', v') ∈ (CpCmb.cmbs (upP N.ls os w0)).take t
                · rw [if_pos c, if_pos (e2.mpr c)]
                · rw [if_neg c, if_neg (fun z => c (e2.mp z))]
        · obtain ⟨y6, rfl, s5, k5, hC⟩ := hP
          refine ⟨_, _, _, _, rfl, s5, k5, fun k u v a hk ha => ?_⟩
          have hpl : (pairsL N.ls os)[k]? = some (u, v) := hk
          have hp := (mem_pairsL okN oo).mp (List.mem_of_getElem? hpl)
          have hlen : (CpCmb.cmbs ((upP N.ls os w0).map V.int)).length = (CpCmb.cmbs (upP N.ls os w0)).length := by rw [CpCmb.cmbs_map, List.length_map]
          rw [hC k u v a hk ha, hlen, List.take_length, take_snoc hg, List.filter_append, List.map_append]
          congr 2
          have e : ((u, v) ∈ CpCmb.cmbs (upP N.ls os w0)) ↔ ((w0, u) ∈ pairsL N.ls os ∧ (w0, v) ∈ pairsL N.ls os) := by
            rw [mem_cmbsF hs, mem_upP okN oo, mem_upP okN oo, mem_pairsL okN oo, mem_pairsL okN oo]
            exact ⟨fun h => h.2, fun h => ⟨hp.1, h⟩⟩
          by_cases c : (w0, u) ∈ pairsL N.ls os ∧ (w0, v) ∈ pairsL N.ls os
          · rw [if_pos (e.mpr c), List.filter_cons, decide_eq_true c.1, decide_eq_true c.2]
            rfl
          · rw [if_neg (fun z => c (e.mp z)), List.filter_cons]
            have hf : (decide ((w0, u) ∈ pairsL N.ls os) && decide ((w0, v) ∈ pairsL N.ls os)) = false := by
              rw [Bool.and_eq_false_iff, decide_eq_false_iff_not, decide_eq_false_iff_not]
              exact Classical.not_and_iff_not_or_not.mp c
            rw [hf]
            rfl
      · obtain ⟨y2, y4', y5', y6, rfl, s4, k4, hB⟩ := hP
        rw [List.length_map, List.take_length] at hB
        have e34 := msk_get k4 e3 nn2
        refine g_ret (vl_var rfl) (q H4 d2 _ s4 (Same.free s2 n2) ⟨e34, by rw [kz_len (by rw [List.length_map]; exact l2), List.length_map], fun kv hkv => ?_, fun u v hm => ?_⟩)
        · obtain ⟨k, hk⟩ := List.mem_iff_getElem?.mp hkv
          unfold kz at hk
          rw [List.getElem?_zipWith] at hk
          cases h1 : ((pairsL N.ls os).map K2)[k]? with
          | none =>
            rw [h1] at hk
            cases hk
          | some kk =>
            cases h2 : r2[k]? with
            | none =>
              rw [h1, h2] at hk
              cases hk
            | some a =>
              rw [h1, h2] at hk
              cases hk
              rw [List.getElem?_map] at h1
              cases h3 : (pairsL N.ls os)[k]? with
              | none =>
                rw [h3] at h1
                cases h1
              | some uv =>
                obtain ⟨u, v⟩ := uv
                rw [h3] at h1
                cases h1
                exact ⟨u, v, a, List.mem_of_getElem? h3, rfl, hrd a (List.mem_of_getElem? h2), hB k u v a h3 h2⟩
        · obtain ⟨k, hk⟩ := List.mem_iff_getElem?.mp hm
          have hkl := (List.getElem?_eq_some_iff.mp hk).1
          have hb : r2[k]? = some r2[k] := List.getElem?_eq_getElem (by omega)
          exact ⟨_, kz_val (ks := (pairsL N.ls os).map K2) (rs := r2) (k := K2 (u, v)) (List.Pairwise.map _ (fun a b hab e => hab (K2_inj e)) hLn) (by rw [List.getElem?_map, hk] <;> rfl) hb⟩
end
/-! ### fillings, row by row -/
def mkRow (N : Net) (os : List Int) (L : List (Int × Int)) (rs : List Row) (u v : Int) : Row :=
  let a := bestF (linkW N.ls u v) (fun w => addO (prR rs u w) (prR rs w v)) (lowerL L os u v)
  let b := bestF (linkW N.ls v u) (fun w => addO (prR rs v w) (prR rs w u)) (lowerL L os u v)
  ⟨u, v, a.1, b.1, a.2, b.2⟩
theorem bestF_congr {o : Option Int} {s t : Int → Option Int} {ws : List Int} (h : ∀ w ∈ ws, s w = t w) : bestF o s ws = bestF o t ws := by
  unfold bestF
  have gen : ∀ (ws : List Int) (acc : Option Int × Option Int), (∀ w ∈ ws, s w = t w) → ws.foldl (bestStep s) acc = ws.foldl (bestStep t) acc := by
    intro ws
    induction ws with
    | nil => intro acc _; rfl
    | cons w r ih =>
      intro acc h
      rw [List.foldl_cons, List.foldl_cons, show bestStep s acc w = bestStep t acc w by
        unfold bestStep
        rw [h w List.mem_cons_self]]
      exact ih _ fun x hx => h x (List.mem_cons_of_mem _ hx)
  exact gen ws _ h
def prOf (r : Row) : Int × Int := (r.u, r.v)
theorem find_none {rs : List Row} {x y : Int} (h : (x, y) ∉ rs.map prOf) : rs.find? (fun r => decide (r.u = x ∧ r.v = y)) = none := by
  rw [List.find?_eq_none]
  intro r hr z
  have z := of_decide_eq_true z
  exact h (List.mem_map.mpr ⟨r, hr, by
    unfold prOf
    rw [z.1, z.2]⟩)
theorem find_some {rs : List Row} {x y : Int} (h : (x, y) ∈ rs.map prOf) : ∃ r, rs.find? (fun r => decide (r.u = x ∧ r.v = y)) = some r ∧ r ∈ rs ∧ r.u = x ∧ r.v = y := by
  obtain ⟨r0, hr, e⟩ := List.mem_map.mp h
  have h1 := congrArg Prod.fst e
  have h2 := congrArg Prod.snd e
  cases e2 : rs.find? (fun r => decide (r.u = x ∧ r.v = y)) with
  | none =>
    rw [List.find?_eq_none] at e2
    exact absurd (decide_eq_true ⟨h1, h2⟩) (e2 r0 hr)
  | some r =>
    have h3 : r.u = x ∧ r.v = y := by simpa using List.find?_some e2
    exact ⟨r, rfl, List.mem_of_find?_eq_some e2, h3⟩
theorem prR_pre1 {rs ss : List Row} {x y : Int} (h : (x, y) ∈ rs.map prOf) : prR (rs ++ ss) x y = prR rs x y := by
  obtain ⟨r, e, _⟩ := find_some h
  unfold prR
  rw [List.find?_append, e] <;> rfl
theorem prR_pre2 {rs ss : List Row} {x y : Int} (h : (y, x) ∈ rs.map prOf) (n : (x, y) ∉ (rs ++ ss).map prOf) : prR (rs ++ ss) x y = prR rs x y := by
  obtain ⟨r, e, _⟩ := find_some h
  have n1 : (x, y) ∉ rs.map prOf := fun z => n (by
    rw [List.map_append]
    exact List.mem_append.mpr (.inl z))
  unfold prR
  rw [find_none n, find_none n1, List.find?_append, e] <;> rfl
theorem pairsL_sorted {n : Int} {ls : List Lnk} {os : List Int} (oo : OrdOk n os) : (pairsL ls os).Pairwise fun p q => posOf p.1 os ≤ posOf q.1 os := by
  unfold pairsL
  rw [List.pairwise_flatMap]
  constructor
  · intro u _
    rw [List.pairwise_map]
    exact List.pairwise_of_forall fun _ _ => Nat.le_refl _
  · exact (pos_sorted oo.nodup).imp fun h x hx y hy => by
      obtain ⟨_, _, rfl⟩ := List.mem_map.mp hx
      obtain ⟨_, _, rfl⟩ := List.mem_map.mp hy
      exact Nat.le_of_lt h
section
variable {N : Net} {os : List Int}
theorem before (ok : NetOk N) (oo : OrdOk N.n os) {i : Nat} {u v w z : Int} (hi : (pairsL N.ls os)[i]? = some (u, v)) (hm : (w, z) ∈ pairsL N.ls os) (hl : posOf w os < posOf u os) : (w, z) ∈ (pairsL N.ls os).take i := by
  obtain ⟨j, hj⟩ := List.mem_iff_getElem?.mp hm
  have hjl := (List.getElem?_eq_some_iff.mp hj).1
  have hil := (List.getElem?_eq_some_iff.mp hi).1
  by_cases c : j < i
  · refine List.mem_iff_getElem?.mpr ⟨j, ?_⟩
    rw [List.getElem?_take, if_pos c]
    exact hj
  · exfalso
    by_cases e : j = i
    · rw [e, hi] at hj
      cases hj
      exact Nat.lt_irrefl _ hl
    · have := List.pairwise_iff_getElem.mp (pairsL_sorted (ls := N.ls) oo) i j hil hjl (by omega)
      rw [(List.getElem?_eq_some_iff.mp hi).2, (List.getElem?_eq_some_iff.mp hj).2] at this
      have this : posOf u os ≤ posOf w os := this
      omega
theorem anti (ok : NetOk N) (oo : OrdOk N.n os) {u v : Int} (h : (u, v) ∈ pairsL N.ls os) : (v, u) ∉ pairsL N.ls os := fun h2 => by
  have h1 := ((mem_pairsL ok oo).mp h).1
  have h3 := ((mem_pairsL ok oo).mp h2).1
  omega
/-- the prices of lower pairs, told by the rows ahead -/
theorem pr_lower (ok : NetOk N) (oo : OrdOk N.n os) {rows : List Row} (hp : rows.map prOf = pairsL N.ls os) {i : Nat} {r : Row} (hi : rows[i]? = some r) {w z : Int} (hz : z = r.u ∨ z = r.v) (hw : w ∈ lowerL (pairsL N.ls os) os r.u r.v) :
    (w, z) ∈ (rows.take i).map prOf ∧ prR rows w z = prR (rows.take i) w z ∧ prR rows z w = prR (rows.take i) z w := by
  have hm := mem_lowerL.mp hw
  have hwz : (w, z) ∈ pairsL N.ls os := by
    rcases hz with rfl | rfl
    · exact hm.2.1
    · exact hm.2.2
  have hl := ((mem_pairsL ok oo).mp hm.2.1).1
  have hiL : (pairsL N.ls os)[i]? = some (r.u, r.v) := by
    rw [← hp, List.getElem?_map, hi] <;> rfl
  have hb := before ok oo hiL hwz hl
  rw [← hp, ← List.map_take] at hb
  have e : rows = rows.take i ++ rows.drop i := (List.take_append_drop i rows).symm
  refine ⟨hb, ?_, ?_⟩
  · have := prR_pre1 (ss := rows.drop i) hb
    rw [← e] at this
    exact this
  · have := prR_pre2 (ss := rows.drop i) (x := z) (y := w) hb (by
      rw [← e, hp]
      exact anti ok oo hwz)
    rw [← e] at this
    exact this
theorem mk_full (ok : NetOk N) (oo : OrdOk N.n os) {rows : List Row} (hp : rows.map prOf = pairsL N.ls os) {i : Nat} {r : Row} (hi : rows[i]? = some r) :
    mkRow N os (pairsL N.ls os) rows r.u r.v = mkRow N os (pairsL N.ls os) (rows.take i) r.u r.v := by
  unfold mkRow
  dsimp only
  rw [bestF_congr (fun w hw => by rw [(pr_lower ok oo hp hi (.inl rfl) hw).2.2, (pr_lower ok oo hp hi (.inr rfl) hw).2.1] : ∀ w ∈ lowerL (pairsL N.ls os) os r.u r.v, addO (prR rows r.u w) (prR rows w r.v) = addO (prR (rows.take i) r.u w) (prR (rows.take i) w r.v)),
    bestF_congr (fun w hw => by rw [(pr_lower ok oo hp hi (.inr rfl) hw).2.2, (pr_lower ok oo hp hi (.inl rfl) hw).2.1] : ∀ w ∈ lowerL (pairsL N.ls os) os r.u r.v, addO (prR rows r.v w) (prR rows w r.u) = addO (prR (rows.take i) r.v w) (prR (rows.take i) w r.u))]
theorem fill_iff (ok : NetOk N) (oo : OrdOk N.n os) {rows : List Row} : FillOk N os rows ↔ rows.map prOf = pairsL N.ls os ∧ ∀ (i : Nat) r, rows[i]? = some r → r = mkRow N os (pairsL N.ls os) (rows.take i) r.u r.v := by
  constructor
  · intro h
    refine ⟨h.pairs, fun i r hi => ?_⟩
    rw [← mk_full ok oo h.pairs hi]
    have hm := List.mem_of_getElem? hi
    have h1 := h.up r hm
    have h2 := h.dn r hm
    unfold mkRow
    dsimp only
    rw [← h1, ← h2]
  · rintro ⟨hp, h⟩
    have key : ∀ r ∈ rows, r = mkRow N os (pairsL N.ls os) rows r.u r.v := fun r hr => by
      obtain ⟨i, hi⟩ := List.mem_iff_getElem?.mp hr
      rw [mk_full ok oo hp hi]
      exact h i r hi
    refine ⟨hp, fun r hr => ?_, fun r hr => ?_⟩
    · have := key r hr
      have e1 := congrArg Row.up this
      have e2 := congrArg Row.um this
      exact Prod.ext e1 e2
    · have := key r hr
      have e1 := congrArg Row.dn this
      have e2 := congrArg Row.dm this
      exact Prod.ext e1 e2
end
/-! ### ways, and what mending does: the mathematics -/
/-- the ways of pairs, the way up first -/
def wysL (L : List (Int × Int)) : List (Int × Int) := L.flatMap fun p => [p, (p.2, p.1)]
theorem wys_cons {p : Int × Int} {L : List (Int × Int)} : wysL (p :: L) = p :: (p.2, p.1) :: wysL L := rfl
theorem wys_len {L : List (Int × Int)} : (wysL L).length = 2 * L.length := by
  induction L with
  | nil => rfl
  | cons p L ih =>
    rw [wys_cons, List.length_cons, List.length_cons, List.length_cons, ih]
    omega
theorem wys_take {L : List (Int × Int)} : ∀ i : Nat, (wysL L).take (2 * i) = wysL (L.take i) := by
  induction L with
  | nil => exact fun i => by rw [List.take_nil]; exact List.take_nil
  | cons p L ih =>
    intro i
    cases i with
    | zero => rfl
    | succ i =>
      rw [wys_cons, List.take_succ_cons, wys_cons, show 2 * (i + 1) = 2 * i + 1 + 1 by omega, List.take_succ_cons, List.take_succ_cons, ih]
theorem wys_get0 {L : List (Int × Int)} {p : Int × Int} : ∀ {i : Nat}, L[i]? = some p → (wysL L)[2 * i]? = some p := by
  induction L with
  | nil => exact fun h => by cases h
  | cons q L ih =>
    intro i h
    cases i with
    | zero => exact h
    | succ i =>
      rw [wys_cons, show 2 * (i + 1) = 2 * i + 1 + 1 by omega]
      exact ih h
theorem wys_get1 {L : List (Int × Int)} {p : Int × Int} : ∀ {i : Nat}, L[i]? = some p → (wysL L)[2 * i + 1]? = some (p.2, p.1) := by
  induction L with
  | nil => exact fun h => by cases h
  | cons q L ih =>
    intro i h
    cases i with
    | zero =>
      cases h
      rfl
    | succ i =>
      rw [wys_cons, show 2 * (i + 1) + 1 = 2 * i + 1 + 1 + 1 by omega]
      exact ih h
theorem mem_wys {L : List (Int × Int)} {x y : Int} : (x, y) ∈ wysL L ↔ (x, y) ∈ L ∨ (y, x) ∈ L := by
  unfold wysL
  rw [List.mem_flatMap]
  constructor
  · rintro ⟨p, hp, h⟩
    rcases List.mem_cons.mp h with h | h
    · exact .inl (by rw [h]; exact hp)
    · have := List.mem_singleton.mp h
      cases this
      exact .inr hp
  · rintro (h | h)
    · exact ⟨_, h, List.mem_cons_self⟩
    · exact ⟨_, h, List.mem_cons_of_mem _ (List.mem_singleton.mpr rfl)⟩
theorem wys_nodup {L : List (Int × Int)} (nd : L.Nodup) (an : ∀ u v, (u, v) ∈ L → (v, u) ∉ L) : (wysL L).Nodup := by
  induction L with
  | nil => exact .nil
  | cons p L ih =>
    obtain ⟨u, v⟩ := p
    have n := List.nodup_cons.mp nd
    have h1 : (u, v) ∉ wysL L := fun h => by
      rcases mem_wys.mp h with h | h
      · exact n.1 h
      · exact an u v List.mem_cons_self (List.mem_cons_of_mem _ h)
    have h2 : (v, u) ∉ wysL L := fun h => by
      rcases mem_wys.mp h with h | h
      · exact an u v List.mem_cons_self (List.mem_cons_of_mem _ h)
      · exact n.1 h
    have h3 : (u, v) ≠ (v, u) := fun h => an u v List.mem_cons_self (by rw [← h]; exact List.mem_cons_self)
    rw [wys_cons]
    refine List.nodup_cons.mpr ⟨fun h => ?_, List.nodup_cons.mpr ⟨h2, ih n.2 fun a b h k => an a b (List.mem_cons_of_mem _ h) (List.mem_cons_of_mem _ k)⟩⟩
    rcases List.mem_cons.mp h with h | h
    · exact h3 h
    · exact h1 h
theorem lowerL_sym {L : List (Int × Int)} {os : List Int} {u v : Int} : lowerL L os u v = lowerL L os v u := by
  unfold lowerL
  refine List.filter_congr fun w _ => ?_
  rw [Bool.and_comm]
/-- price and middle of a way, told by the rows -/
def wv (rows : List Row) (x y : Int) : Option Int × Option Int :=
  match rows.find? (fun r => decide (r.u = x ∧ r.v = y)) with
  | some r => (r.up, r.um)
  | none => match rows.find? (fun r => decide (r.u = y ∧ r.v = x)) with
    | some r => (r.dn, r.dm)
    | none => (none, none)
theorem wv_fst {rows : List Row} {x y : Int} : (wv rows x y).1 = prR rows x y := by
  unfold wv prR
  cases rows.find? (fun r => decide (r.u = x ∧ r.v = y)) with
  | some r => rfl
  | none => cases rows.find? (fun r => decide (r.u = y ∧ r.v = x)) <;> rfl
section
variable {N : Net} {os : List Int} {rows : List Row}
theorem FillOk.mapP (h : FillOk N os rows) : rows.map prOf = pairsL N.ls os := h.pairs
theorem wv_fill (ok : NetOk N) (oo : OrdOk N.n os) (h : FillOk N os rows) {x y : Int} (hw : (x, y) ∈ wysL (pairsL N.ls os)) :
    wv rows x y = bestF (linkW N.ls x y) (fun w => addO (prR rows x w) (prR rows w y)) (lowerL (pairsL N.ls os) os x y) := by
  rcases mem_wys.mp hw with h1 | h1
  · obtain ⟨r, e, hr, rfl, rfl⟩ := find_some (rs := rows) (by rw [h.mapP]; exact h1)
    rw [← h.up r hr]
    unfold wv
    rw [e]
  · have n : (x, y) ∉ rows.map prOf := by
      rw [h.mapP]
      exact anti ok oo h1
    obtain ⟨r, e, hr, rfl, rfl⟩ := find_some (rs := rows) (x := y) (y := x) (by rw [h.mapP]; exact h1)
    rw [lowerL_sym, ← h.dn r hr]
    unfold wv
    rw [find_none n, e]
/-- the ways of lower places stand ahead -/
theorem low_ahead (ok : NetOk N) (oo : OrdOk N.n os) {m : Nat} {x y w : Int} (hm : (wysL (pairsL N.ls os))[m]? = some (x, y)) (hw : w ∈ lowerL (pairsL N.ls os) os x y) : (x, w) ∈ (wysL (pairsL N.ls os)).take m ∧ (w, y) ∈ (wysL (pairsL N.ls os)).take m := by
  have ml := (List.getElem?_eq_some_iff.mp hm).1
  rw [wys_len] at ml
  obtain ⟨i, s, hs, rfl⟩ : ∃ i s, s < 2 ∧ m = 2 * i + s := ⟨m / 2, m % 2, Nat.mod_lt _ (by decide), (Nat.div_add_mod m 2).symm⟩
  have il : i < (pairsL N.ls os).length := by omega
  have hi : (pairsL N.ls os)[i]? = some ((pairsL N.ls os)[i]'il) := List.getElem?_eq_getElem il
  generalize (pairsL N.ls os)[i]'il = p at hi
  obtain ⟨u, v⟩ := p
  have hxy : (x = u ∧ y = v) ∨ (x = v ∧ y = u) := by
    have c : s = 0 ∨ s = 1 := by omega
    rcases c with rfl | rfl
    · rw [Nat.add_zero, wys_get0 hi] at hm
      cases hm
      exact .inl ⟨rfl, rfl⟩
    · rw [wys_get1 hi] at hm
      cases hm
      exact .inr ⟨rfl, rfl⟩
  have key : ∀ z, (w, z) ∈ pairsL N.ls os → posOf w os < posOf u os → (w, z) ∈ (wysL (pairsL N.ls os)).take (2 * i + s) ∧ (z, w) ∈ (wysL (pairsL N.ls os)).take (2 * i + s) := fun z hz hl => by
    have hb := before ok oo hi hz hl
    have sub : ∀ q, q ∈ wysL ((pairsL N.ls os).take i) → q ∈ (wysL (pairsL N.ls os)).take (2 * i + s) := fun q hq => by
      rw [← wys_take] at hq
      obtain ⟨k, hk⟩ := List.mem_iff_getElem?.mp hq
      have hk2 := hk
      have kl := (List.getElem?_eq_some_iff.mp hk).1
      rw [List.length_take] at kl
      rw [List.getElem?_take, if_pos (by omega)] at hk2
      refine List.mem_iff_getElem?.mpr ⟨k, ?_⟩
      rw [List.getElem?_take, if_pos (by omega)]
      exact hk2
    exact ⟨sub _ (mem_wys.mpr (.inl hb)), sub _ (mem_wys.mpr (.inr hb))⟩
  have hw2 := mem_lowerL.mp hw
  have lu : posOf w os < posOf u os := by
    rcases hxy with ⟨rfl, rfl⟩ | ⟨rfl, rfl⟩
    · exact ((mem_pairsL ok oo).mp hw2.2.1).1
    · exact ((mem_pairsL ok oo).mp hw2.2.2).1
  exact ⟨(key x hw2.2.1 lu).2, (key y hw2.2.2 lu).1⟩
end
/-! ### nets with other prices -/
def endsL (ls : List Lnk) : List (Int × Int) := ls.map fun l => (l.a, l.b)
def netL (es : List (Int × Int)) (f : Int → Int → Option Int) : List Lnk := es.map fun e => ⟨e.1, e.2, f e.1 e.2, f e.2 e.1⟩
theorem ends_net {es : List (Int × Int)} {f : Int → Int → Option Int} : endsL (netL es f) = es := by
  unfold endsL netL
  rw [List.map_map]
  exact List.map_id' _
theorem adj_ends {ls ls' : List Lnk} (h : endsL ls = endsL ls') : adj0 ls = adj0 ls' := by
  have e : ∀ (ls : List Lnk) x y, adj0 ls x y = (endsL ls).any fun e => decide ((e.1 = x ∧ e.2 = y) ∨ (e.1 = y ∧ e.2 = x)) := fun ls x y => by
    unfold adj0 endsL
    rw [List.any_map]
    rfl
  funext x y
  rw [e, e, h]
theorem pairP_ends {ls ls' : List Lnk} {os : List Int} (h : endsL ls = endsL ls') (u v : Int) : PairP ls os u v ↔ PairP ls' os u v := by
  unfold PairP
  rw [adj_ends h]
theorem upP_ends {ls ls' : List Lnk} {os : List Int} {u : Int} (h : endsL ls = endsL ls') : upP ls os u = upP ls' os u := by
  unfold upP
  exact List.filter_congr fun v _ => decide_eq_decide.mpr (pairP_ends h u v)
theorem pairsL_ends {ls ls' : List Lnk} {os : List Int} (h : endsL ls = endsL ls') : pairsL ls os = pairsL ls' os := by
  unfold pairsL
  have : (fun u : Int => (upP ls os u).map fun v => (u, v)) = fun u => (upP ls' os u).map fun v => (u, v) := by
    funext u
    rw [upP_ends h]
  rw [this]
/-- links: each pair of places once, in one direction -/
structure EndsOk (n : Int) (es : List (Int × Int)) : Prop where
  lt : ∀ e ∈ es, 0 ≤ e.1 ∧ e.1 < e.2 ∧ e.2 < n
  ord : es.Pairwise fun x y => x.1 < y.1 ∨ (x.1 = y.1 ∧ x.2 < y.2)
  len : es.length ≤ 1600
theorem EndsOk.nd {n : Int} {es : List (Int × Int)} (h : EndsOk n es) : es.Nodup := h.ord.imp fun {a b} hab e => by
  subst e
  omega
theorem linkW_net {n : Int} {es : List (Int × Int)} {f : Int → Int → Option Int} (h : EndsOk n es) {x y : Int} : linkW (netL es f) x y = if (x, y) ∈ es ∨ (y, x) ∈ es then f x y else none := by
  have gen : ∀ es : List (Int × Int), (∀ e ∈ es, e.1 < e.2) → linkW (netL es f) x y = if (x, y) ∈ es ∨ (y, x) ∈ es then f x y else none := fun es => by
    induction es with
    | nil =>
      intro _
      rw [if_neg (by rintro (h | h) <;> cases h)]
      rfl
    | cons e es ih =>
      intro hl
      obtain ⟨a, b⟩ := e
      have hab : a < b := hl _ List.mem_cons_self
      show (if a = x ∧ b = y then f a b else if b = x ∧ a = y then f b a else linkW (netL es f) x y) = _
      by_cases c1 : a = x ∧ b = y
      · obtain ⟨rfl, rfl⟩ := c1
        rw [if_pos ⟨rfl, rfl⟩, if_pos (.inl List.mem_cons_self)]
      · rw [if_neg c1]
        by_cases c2 : b = x ∧ a = y
        · obtain ⟨rfl, rfl⟩ := c2
          rw [if_pos ⟨rfl, rfl⟩, if_pos (.inr List.mem_cons_self)]
        · rw [if_neg c2, ih fun e he => hl e (List.mem_cons_of_mem _ he)]
          have : ((x, y) ∈ es ∨ (y, x) ∈ es) ↔ ((x, y) ∈ (a, b) :: es ∨ (y, x) ∈ (a, b) :: es) := by
            constructor
            · rintro (h | h)
              · exact .inl (List.mem_cons_of_mem _ h)
              · exact .inr (List.mem_cons_of_mem _ h)
            · rintro (h | h)
              · rcases List.mem_cons.mp h with h | h
                · cases h
                  exact absurd ⟨rfl, rfl⟩ c1
                · exact .inl h
              · rcases List.mem_cons.mp h with h | h
                · cases h
                  exact absurd ⟨rfl, rfl⟩ c2
                · exact .inr h
          simp only [this]
  exact gen es fun e he => (h.lt e he).2.1
theorem ends_ok {N : Net} (ok : NetOk N) : EndsOk N.n (endsL N.ls) := ⟨fun e he => by
  obtain ⟨l, hl, rfl⟩ := List.mem_map.mp he
  have := ok.ok l hl
  exact ⟨this.a0, this.ab, this.bn⟩, List.pairwise_map.mpr ok.lt, by unfold endsL; rw [List.length_map]; exact ok.len⟩
theorem net_ok {n : Int} {es : List (Int × Int)} {f : Int → Int → Option Int} (n1 : 1 ≤ n) (n40 : n ≤ 40) (h : EndsOk n es) (hp : ∀ x y, PriceOk (f x y)) : NetOk ⟨n, netL es f⟩ := by
  refine ⟨n1, n40, fun l hl => ?_, ?_, ?_⟩
  · obtain ⟨e, he, rfl⟩ := List.mem_map.mp hl
    have := h.lt e he
    exact ⟨this.1, this.2.1, this.2.2, hp _ _, hp _ _⟩
  · exact List.pairwise_map.mpr h.ord
  · show (netL es f).length ≤ 1600
    unfold netL
    rw [List.length_map]
    exact h.len
/-- a net is told by its links and its prices -/
theorem net_self {N : Net} (ok : NetOk N) : netL (endsL N.ls) (linkW N.ls) = N.ls := by
  have key : ∀ l ∈ N.ls, linkW N.ls l.a l.b = l.t ∧ linkW N.ls l.b l.a = l.k := by
    have gen : ∀ ls : List Lnk, ls.Pairwise LnkLt → (∀ l ∈ ls, l.a < l.b) → ∀ l ∈ ls, linkW ls l.a l.b = l.t ∧ linkW ls l.b l.a = l.k := fun ls => by
      induction ls with
      | nil => exact fun _ _ l hl => nomatch hl
      | cons m ls ih =>
        intro hp hl l hm
        have hp' := List.pairwise_cons.mp hp
        rcases List.mem_cons.mp hm with rfl | hm
        · have := hl l List.mem_cons_self
          refine ⟨if_pos ⟨rfl, rfl⟩, ?_⟩
          show (if l.a = l.b ∧ l.b = l.a then l.t else if l.b = l.b ∧ l.a = l.a then l.k else linkW ls l.b l.a) = l.k
          rw [if_neg (by omega), if_pos ⟨rfl, rfl⟩]
        · have lt := hp'.1 l hm
          have h1 := hl l (List.mem_cons_of_mem _ hm)
          have h2 := hl m List.mem_cons_self
          have i := ih hp'.2 (fun z hz => hl z (List.mem_cons_of_mem _ hz)) l hm
          unfold LnkLt at lt
          constructor
          · show (if m.a = l.a ∧ m.b = l.b then m.t else if m.b = l.a ∧ m.a = l.b then m.k else linkW ls l.a l.b) = l.t
            rw [if_neg (by omega), if_neg (by omega)]
            exact i.1
          · show (if m.a = l.b ∧ m.b = l.a then m.t else if m.b = l.b ∧ m.a = l.a then m.k else linkW ls l.b l.a) = l.k
            rw [if_neg (by omega), if_neg (by omega)]
            exact i.2
    exact gen N.ls ok.lt fun l hl => (ok.ok l hl).ab
  unfold netL endsL
  rw [List.map_map]
  have : N.ls = N.ls.map id := (List.map_id _).symm
  conv => rhs; rw [this]
  refine List.map_congr_left fun l hl => ?_
  have := key l hl
  show (⟨l.a, l.b, linkW N.ls l.a l.b, linkW N.ls l.b l.a⟩ : Lnk) = l
  rw [this.1, this.2]
/-! ### mending, way by way -/
/-- the ways whose price is another one -/
def chB (f0 f1 : Int → Int → Option Int × Option Int) (p : Int × Int) : Bool := decide ((f0 p.1 p.2).1 ≠ (f1 p.1 p.2).1)
/-- the ways that are looked at -/
def lkB (L : List (Int × Int)) (os : List Int) (dom : Int × Int → Bool) (f0 f1 : Int → Int → Option Int × Option Int) (p : Int × Int) : Bool :=
  dom p || (lowerL L os p.1 p.2).any fun w => chB f0 f1 (p.1, w) || chB f0 f1 (w, p.2)
/-- the ways that a changed way may be a part of -/
def mkA (ls : List Lnk) (os : List Int) (l h x : Int) (p : Int × Int) : Prop := ∃ o, o ∈ upP ls os l ∧ o ≠ h ∧ p = if x = l then (o, h) else (h, o)
structure MendI (L : List (Int × Int)) (os : List Int) (dom : Int × Int → Bool) (f0 f1 : Int → Int → Option Int × Option Int) (m : Nat) (f : Int → Int → Option Int × Option Int) (mk : Int × Int → Bool) (lkd chg : List (Int × Int)) : Prop where
  f : ∀ x y, (x, y) ∈ wysL L → f x y = if (x, y) ∈ (wysL L).take m then f1 x y else f0 x y
  mks : ∀ x y, (x, y) ∈ wysL L → (mk (x, y) = true ↔ dom (x, y) = true ∨ ∃ w, w ∈ lowerL L os x y ∧ ((x, w) ∈ chg ∨ (w, y) ∈ chg))
  lkd : lkd = ((wysL L).take m).filter (lkB L os dom f0 f1)
  chg : chg = ((wysL L).take m).filter (chB f0 f1)
/-- what stands for the two fillings -/
structure Two (N N' : Net) (os : List Int) (dom : Int × Int → Bool) (f0 f1 : Int → Int → Option Int × Option Int) : Prop where
  ok : NetOk N
  ok' : NetOk N'
  oo : OrdOk N.n os
  n : N'.n = N.n
  e : endsL N'.ls = endsL N.ls
  w0 : ∀ x y, (x, y) ∈ wysL (pairsL N.ls os) → f0 x y = bestF (linkW N.ls x y) (fun w => addO (f0 x w).1 (f0 w y).1) (lowerL (pairsL N.ls os) os x y)
  w1 : ∀ x y, (x, y) ∈ wysL (pairsL N.ls os) → f1 x y = bestF (linkW N'.ls x y) (fun w => addO (f1 x w).1 (f1 w y).1) (lowerL (pairsL N.ls os) os x y)
  lk : ∀ x y, dom (x, y) = false → linkW N'.ls x y = linkW N.ls x y
theorem two_of {N N' : Net} {os : List Int} {rows rows' : List Row} {dom : Int × Int → Bool} (ok : NetOk N) (ok' : NetOk N') (oo : OrdOk N.n os) (n : N'.n = N.n) (e : endsL N'.ls = endsL N.ls) (h : FillOk N os rows) (h' : FillOk N' os rows') (lk : ∀ x y, dom (x, y) = false → linkW N'.ls x y = linkW N.ls x y) :
    Two N N' os dom (wv rows) (wv rows') := by
  refine ⟨ok, ok', oo, n, e, fun x y hw => ?_, fun x y hw => ?_, lk⟩
  · have := wv_fill ok oo h hw
    simp only [wv_fst]
    exact this
  · have := wv_fill ok' (by rw [n]; exact oo) h' (by rw [pairsL_ends e]; exact hw)
    rw [pairsL_ends e] at this
    simp only [wv_fst]
    exact this
section
variable {N N' : Net} {os : List Int} {dom : Int × Int → Bool} {f0 f1 f : Int → Int → Option Int × Option Int} {m : Nat} {mk : Int × Int → Bool} {lkd chg : List (Int × Int)} {x y : Int}
theorem Two.nd (T : Two N N' os dom f0 f1) : (wysL (pairsL N.ls os)).Nodup := wys_nodup (pairsL_nodup T.oo) fun u v h => anti T.ok T.oo h
theorem MendI.start (T : Two N N' os dom f0 f1) (hmk : ∀ x y, (x, y) ∈ wysL (pairsL N.ls os) → mk (x, y) = dom (x, y)) : MendI (pairsL N.ls os) os dom f0 f1 0 f0 mk [] [] :=
  ⟨fun x y _ => by rw [if_neg (show (x, y) ∉ (wysL (pairsL N.ls os)).take 0 from fun h => nomatch h)], fun x y hw => by
    rw [hmk x y hw]
    exact ⟨.inl, fun h => h.elim id fun ⟨w, _, h⟩ => h.elim (fun h => nomatch h) fun h => nomatch h⟩, rfl, rfl⟩
theorem MendI.low (T : Two N N' os dom f0 f1) (I : MendI (pairsL N.ls os) os dom f0 f1 m f mk lkd chg) (hm : (wysL (pairsL N.ls os))[m]? = some (x, y)) {w : Int} (hw : w ∈ lowerL (pairsL N.ls os) os x y) :
    f x w = f1 x w ∧ f w y = f1 w y ∧ ((x, w) ∈ chg ↔ chB f0 f1 (x, w) = true) ∧ ((w, y) ∈ chg ↔ chB f0 f1 (w, y) = true) := by
  obtain ⟨h1, h2⟩ := low_ahead T.ok T.oo hm hw
  refine ⟨?_, ?_, ?_, ?_⟩
  · rw [I.f x w (List.mem_of_mem_take h1), if_pos h1]
  · rw [I.f w y (List.mem_of_mem_take h2), if_pos h2]
  · rw [I.chg, List.mem_filter]
    exact ⟨fun h => h.2, fun h => ⟨h1, h⟩⟩
  · rw [I.chg, List.mem_filter]
    exact ⟨fun h => h.2, fun h => ⟨h2, h⟩⟩
theorem MendI.marked (T : Two N N' os dom f0 f1) (I : MendI (pairsL N.ls os) os dom f0 f1 m f mk lkd chg) (hm : (wysL (pairsL N.ls os))[m]? = some (x, y)) : mk (x, y) = lkB (pairsL N.ls os) os dom f0 f1 (x, y) := by
  rw [Bool.eq_iff_iff, I.mks x y (List.mem_of_getElem? hm)]
  unfold lkB
  rw [Bool.or_eq_true, List.any_eq_true]
  refine or_congr_right ⟨fun ⟨w, hw, h⟩ => ⟨w, hw, ?_⟩, fun ⟨w, hw, h⟩ => ⟨w, hw, ?_⟩⟩
  · obtain ⟨_, _, h3, h4⟩ := I.low T hm hw
    rw [Bool.or_eq_true]
    exact h.imp h3.mp h4.mp
  · obtain ⟨_, _, h3, h4⟩ := I.low T hm hw
    rw [Bool.or_eq_true] at h
    exact h.imp h3.mpr h4.mpr
/-- what the way is filled in with -/
theorem MendI.calc (T : Two N N' os dom f0 f1) (I : MendI (pairsL N.ls os) os dom f0 f1 m f mk lkd chg) (hm : (wysL (pairsL N.ls os))[m]? = some (x, y)) :
    bestF (linkW N'.ls x y) (fun w => addO (f x w).1 (f w y).1) (lowerL (pairsL N.ls os) os x y) = f1 x y := by
  rw [T.w1 x y (List.mem_of_getElem? hm)]
  refine bestF_congr fun w hw => ?_
  obtain ⟨h1, h2, _⟩ := I.low T hm hw
  rw [h1, h2]
theorem take_at {α : Type} {l : List α} {m : Nat} {a : α} (nd : l.Nodup) (h : l[m]? = some a) : a ∉ l.take m := fun hm => by
  obtain ⟨k, hk⟩ := List.mem_iff_getElem?.mp hm
  have kl := (List.getElem?_eq_some_iff.mp hk).1
  rw [List.length_take] at kl
  rw [List.getElem?_take, if_pos (by omega), ← h] at hk
  have := (List.getElem?_inj (by omega) nd).mp hk
  omega
theorem MendI.fnow (T : Two N N' os dom f0 f1) (I : MendI (pairsL N.ls os) os dom f0 f1 m f mk lkd chg) (hm : (wysL (pairsL N.ls os))[m]? = some (x, y)) : f x y = f0 x y := by
  rw [I.f x y (List.mem_of_getElem? hm), if_neg (take_at T.nd hm)]
theorem wtake_snoc {L : List (Int × Int)} {m : Nat} {p : Int × Int} (h : L[m]? = some p) : L.take (m + 1) = L.take m ++ [p] := by
  rw [List.take_add_one, h]
  rfl
theorem MendI.fstep (T : Two N N' os dom f0 f1) (I : MendI (pairsL N.ls os) os dom f0 f1 m f mk lkd chg) (hm : (wysL (pairsL N.ls os))[m]? = some (x, y)) :
    ∀ a b, (a, b) ∈ wysL (pairsL N.ls os) → (if (a, b) = (x, y) then f1 x y else f a b) = if (a, b) ∈ (wysL (pairsL N.ls os)).take (m + 1) then f1 a b else f0 a b := fun a b hw => by
  rw [wtake_snoc hm]
  by_cases c : (a, b) = (x, y)
  · cases c
    rw [if_pos rfl, if_pos (List.mem_append.mpr (.inr (List.mem_singleton.mpr rfl)))]
  · rw [if_neg c, I.f a b hw]
    by_cases c2 : (a, b) ∈ (wysL (pairsL N.ls os)).take m
    · rw [if_pos c2, if_pos (List.mem_append.mpr (.inl c2))]
    · rw [if_neg c2, if_neg fun h => (List.mem_append.mp h).elim c2 fun h => c (List.mem_singleton.mp h)]
/-- a way that is not marked has the same price and middle -/
theorem MendI.same (T : Two N N' os dom f0 f1) (I : MendI (pairsL N.ls os) os dom f0 f1 m f mk lkd chg) (hm : (wysL (pairsL N.ls os))[m]? = some (x, y)) (hk : mk (x, y) = false) : f1 x y = f0 x y := by
  have hw := List.mem_of_getElem? hm
  have hn : ¬ (dom (x, y) = true ∨ ∃ w, w ∈ lowerL (pairsL N.ls os) os x y ∧ ((x, w) ∈ chg ∨ (w, y) ∈ chg)) := fun h => by
    rw [(I.mks x y hw).mpr h] at hk
    cases hk
  rw [T.w1 x y hw, T.w0 x y hw, T.lk x y (Bool.eq_false_iff.mpr fun h => hn (.inl h))]
  refine bestF_congr fun w hw' => ?_
  obtain ⟨_, _, h3, h4⟩ := I.low T hm hw'
  have e1 : (f0 x w).1 = (f1 x w).1 := Classical.byContradiction fun h => hn (.inr ⟨w, hw', .inl (h3.mpr (decide_eq_true h))⟩)
  have e2 : (f0 w y).1 = (f1 w y).1 := Classical.byContradiction fun h => hn (.inr ⟨w, hw', .inr (h4.mpr (decide_eq_true h))⟩)
  rw [e1, e2]
theorem MendI.skip (T : Two N N' os dom f0 f1) (I : MendI (pairsL N.ls os) os dom f0 f1 m f mk lkd chg) (hm : (wysL (pairsL N.ls os))[m]? = some (x, y)) (hk : mk (x, y) = false) : MendI (pairsL N.ls os) os dom f0 f1 (m + 1) f mk lkd chg := by
  have hs := I.same T hm hk
  refine ⟨fun a b hw => ?_, I.mks, ?_, ?_⟩
  · rw [← I.fstep T hm a b hw]
    by_cases c : (a, b) = (x, y)
    · cases c
      rw [if_pos rfl, hs, I.fnow T hm]
    · rw [if_neg c]
  · rw [wtake_snoc hm, List.filter_append, ← I.lkd, List.filter_cons_of_neg (by rw [← I.marked T hm, hk]; exact Bool.false_ne_true)]
    exact (List.append_nil _).symm
  · rw [wtake_snoc hm, List.filter_append, ← I.chg, List.filter_cons_of_neg (by
      unfold chB
      rw [decide_eq_true_eq]
      exact fun h => h (by rw [hs]))]
    exact (List.append_nil _).symm
/-- a marked way whose price stays -/
theorem MendI.stay (T : Two N N' os dom f0 f1) (I : MendI (pairsL N.ls os) os dom f0 f1 m f mk lkd chg) (hm : (wysL (pairsL N.ls os))[m]? = some (x, y)) (hk : mk (x, y) = true) (hp : (f0 x y).1 = (f1 x y).1) {f' : Int → Int → Option Int × Option Int} (hf : ∀ a b, (a, b) ∈ wysL (pairsL N.ls os) → f' a b = if (a, b) = (x, y) then f1 x y else f a b) :
    MendI (pairsL N.ls os) os dom f0 f1 (m + 1) f' mk (lkd ++ [(x, y)]) chg := by
  refine ⟨fun a b hw => by rw [hf a b hw]; exact I.fstep T hm a b hw, I.mks, ?_, ?_⟩
  · rw [wtake_snoc hm, List.filter_append, ← I.lkd, List.filter_cons_of_pos (by rw [← I.marked T hm, hk])]
    rfl
  · rw [wtake_snoc hm, List.filter_append, ← I.chg, List.filter_cons_of_neg (by
      unfold chB
      rw [decide_eq_true_eq]
      exact fun h => h hp)]
    exact (List.append_nil _).symm
/-- a way whose price is another one -/
theorem MendI.move (T : Two N N' os dom f0 f1) (I : MendI (pairsL N.ls os) os dom f0 f1 m f mk lkd chg) (hm : (wysL (pairsL N.ls os))[m]? = some (x, y)) (hk : mk (x, y) = true) (hp : (f0 x y).1 ≠ (f1 x y).1) {f' : Int → Int → Option Int × Option Int} (hf : ∀ a b, (a, b) ∈ wysL (pairsL N.ls os) → f' a b = if (a, b) = (x, y) then f1 x y else f a b)
    {l h : Int} (hlh : (l, h) ∈ pairsL N.ls os) (hxy : (x = l ∧ y = h) ∨ (x = h ∧ y = l)) {mk' : Int × Int → Bool} (hmk : ∀ p, p ∈ wysL (pairsL N.ls os) → (mk' p = true ↔ mk p = true ∨ mkA N.ls os l h x p)) :
    MendI (pairsL N.ls os) os dom f0 f1 (m + 1) f' mk' (lkd ++ [(x, y)]) (chg ++ [(x, y)]) := by
  have lne : ∀ u v, (u, v) ∈ pairsL N.ls os → u ≠ v := fun u v h e => anti T.ok T.oo h (by rw [e] at h ⊢; exact h)
  refine ⟨fun a b hw => by rw [hf a b hw]; exact I.fstep T hm a b hw, fun a b hw => ?_, ?_, ?_⟩
  · rw [hmk _ hw, I.mks a b hw]
    have eq : (∃ w, w ∈ lowerL (pairsL N.ls os) os a b ∧ ((a, w) = (x, y) ∨ (w, b) = (x, y))) ↔ mkA N.ls os l h x (a, b) := by
      have up : ∀ o, o ∈ upP N.ls os l ↔ (l, o) ∈ pairsL N.ls os := fun o => by rw [mem_upP T.ok T.oo, mem_pairsL T.ok T.oo]
      have anl := anti T.ok T.oo hlh
      have hlo : l ∈ os := T.oo.mem.mpr (((mem_pairsL T.ok T.oo).mp hlh).ins T.ok).1
      constructor
      · rintro ⟨w, hw', e⟩
        have hw2 := mem_lowerL.mp hw'
        have ab : a ≠ b := fun e => by
          rcases mem_wys.mp hw with h | h
          · exact lne _ _ h e
          · exact lne _ _ h e.symm
        rcases hxy with ⟨rfl, rfl⟩ | ⟨rfl, rfl⟩
        · rcases e with e | e
          · cases e
            exact absurd hw2.2.1 anl
          · cases e
            exact ⟨a, (up a).mpr hw2.2.1, ab, by rw [if_pos rfl]⟩
        · rcases e with e | e
          · cases e
            exact ⟨b, (up b).mpr hw2.2.2, fun e => ab e.symm, by rw [if_neg (fun e => lne _ _ hlh e.symm)]⟩
          · cases e
            exact absurd hw2.2.2 anl
      · rintro ⟨o, ho, ne, e⟩
        have hlo2 := (up o).mp ho
        rcases hxy with ⟨rfl, rfl⟩ | ⟨rfl, rfl⟩
        · rw [if_pos rfl] at e
          cases e
          exact ⟨x, mem_lowerL.mpr ⟨hlo, hlo2, hlh⟩, .inr rfl⟩
        · rw [if_neg (fun e => lne _ _ hlh e.symm)] at e
          cases e
          exact ⟨y, mem_lowerL.mpr ⟨hlo, hlh, hlo2⟩, .inl rfl⟩
    rw [← eq]
    constructor
    · rintro ((h | ⟨w, h1, h2⟩) | ⟨w, h1, h2⟩)
      · exact .inl h
      · exact .inr ⟨w, h1, h2.imp (fun h => List.mem_append.mpr (.inl h)) fun h => List.mem_append.mpr (.inl h)⟩
      · exact .inr ⟨w, h1, h2.imp (fun h => List.mem_append.mpr (.inr (List.mem_singleton.mpr h))) fun h => List.mem_append.mpr (.inr (List.mem_singleton.mpr h))⟩
    · rintro (h | ⟨w, h1, h2⟩)
      · exact .inl (.inl h)
      · rcases h2 with h2 | h2
        · rcases List.mem_append.mp h2 with h2 | h2
          · exact .inl (.inr ⟨w, h1, .inl h2⟩)
          · exact .inr ⟨w, h1, .inl (List.mem_singleton.mp h2)⟩
        · rcases List.mem_append.mp h2 with h2 | h2
          · exact .inl (.inr ⟨w, h1, .inr h2⟩)
          · exact .inr ⟨w, h1, .inr (List.mem_singleton.mp h2)⟩
  · rw [wtake_snoc hm, List.filter_append, ← I.lkd, List.filter_cons_of_pos (by rw [← I.marked T hm, hk])]
    rfl
  · rw [wtake_snoc hm, List.filter_append, ← I.chg, List.filter_cons_of_pos (p := chB f0 f1) (show chB f0 f1 (x, y) = true from decide_eq_true hp)]
    rfl
theorem MendI.fin (T : Two N N' os dom f0 f1) (I : MendI (pairsL N.ls os) os dom f0 f1 (wysL (pairsL N.ls os)).length f mk lkd chg) :
    (∀ x y, (x, y) ∈ wysL (pairsL N.ls os) → f x y = f1 x y) ∧ lkd = (wysL (pairsL N.ls os)).filter (lkB (pairsL N.ls os) os dom f0 f1) ∧ chg = (wysL (pairsL N.ls os)).filter (chB f0 f1) := by
  have h1 := I.lkd
  have h2 := I.chg
  rw [List.take_length] at h1 h2
  exact ⟨fun x y hw => by rw [I.f x y hw, List.take_length, if_pos hw], h1, h2⟩
end
def spWayF (K : PySem.W.Frag) : Sp := fun vs H Q _ => ∃ (dl dp pl : Addr) (x y : Int) (ls : List Lnk) (kvs : List (List L2.Key × V)) (ws : List Int) (o : Option Int) (f g : Int → Option Int), vs = [.ref dl, .ref dp, .ref pl, .int x, .int y] ∧
  LinksAt H dl ls ∧ (lkv ls x y).getD .non = oV o ∧ H dp = some (.dT kvs) ∧ SqL K H pl (ws.map V.int) ∧ ws.length ≤ 1000 ∧ (∀ w ∈ ws, valV kvs (K2 (x, w)) = some (oV (f w)) ∧ valV kvs (K2 (w, y)) = some (oV (g w))) ∧
  ∀ H' T, Same H H' → H' T = some (.tup [oV (bestF o (fun w => addO (f w) (g w)) ws).1, oV (bestF o (fun w => addO (f w) (g w)) ws).2]) → Q (.ref T) H'
theorem bs_none {s : Int → Option Int} {acc : Option Int × Option Int} {w : Int} (h : s w = none) : bestStep s acc w = acc := by
  unfold bestStep
  rw [h]
theorem bs_first {s : Int → Option Int} {m : Option Int} {w t : Int} (h : s w = some t) : bestStep s (none, m) w = (some t, some w) := by
  unfold bestStep
  rw [h]
theorem bs_next {s : Int → Option Int} {m : Option Int} {w t b : Int} (h : s w = some t) : bestStep s (some b, m) w = if t < b then (some t, some w) else (some b, m) := by
  unfold bestStep
  rw [h]
abbrev sWayF : Stmt := topS 21
theorem scWayF : FnScope ["links", "prices", "places", "x", "y", "price", "middle", "place", "first", "second"] ["links", "prices", "places", "x", "y"] (defScope sWayF) := ⟨rfl, rfl, rfl, by decide +kernel, rfl, by decide +kernel, by decide +kernel⟩
section
variable {P : Program} {w : World} {K : PySem.W.Frag} {mg : Str → Option Value} {base : Heap}
theorem ok_wayF {f : Addr} {fd : FuncData} {k : Nat} (F : Fun K "fill_way" "fill_way" sWayF f fd) : FnOk P w K mg base CX0 (k + 1) f fd ["links", "prices", "places", "x", "y"] (spWayF K) := by
  refine F.ok scWayF (fun vs H Q E h => ?_) (fun cdv A outer s H vs Q E hr h => ?_)
  · obtain ⟨dl, dp, pl, x, y, ls, kvs, ws, o, f1, g1, rfl, _⟩ := h
    rfl
  · obtain ⟨dl, dp, pl, x, y, ls, kvs, ws, o, f1, g1, rfl, hL, ho, hD, hP, hw, hk, q⟩ := h
    have hu := hu_of hr
    refine ⟨_, pss_cons (ps_set (i := 5) scWayF.nd rfl (.inl rfl) (pe_dget1 hu (pv 0) (pe_tup (pa_cons (pv 3) (pa_cons (pv 4) pa_nil))) ⟨by rfl, by rfl, by rfl, by rfl⟩))
      (pss_cons (ps_set (i := 6) scWayF.nd rfl (.inl rfl) pe_non)
      (pss_cons (ps_for PassesOwn.never rfl (pi_list (pv 2)) (pg_name (i := 7) scWayF.nd rfl (.inl rfl))
      (pss_cons (ps_par (i := 8) (j := 9) (by rfl) scWayF.nd rfl rfl (by decide) rfl rfl (pa_cons (pe_dget hu (pv 1) (pe_tup (pa_cons (pv 3) (pa_cons (pv 7) pa_nil))) (fun _ _ => rfl)) (pa_cons (pe_dget hu (pv 1) (pe_tup (pa_cons (pv 7) (pa_cons (pv 4) pa_nil))) (fun _ _ => rfl)) pa_nil)) (by rfl))
        (pss_cons (ps_if (PW.pt (pw_or (pt_cmpR op_isN (pv 8) pe_non (nomark _)) (pw_or1 (pt_cmpR op_isN (pv 9) pe_non (nomark _)))))
        (pss_one ps_continue)
        pss_nil)
        (pss_one (ps_if (PW.pt (pw_or (pt_cmpR op_isN (pv 5) pe_non (nomark _)) (pw_or1 (pt_cmpR op_lt (pe_op op_add (pv 8) (pv 9)) (pv 5) (nomark _)))))
        (pss_cons (ps_set (i := 5) scWayF.nd rfl (.inl rfl) (pe_op op_add (pv 8) (pv 9)))
          (pss_one (ps_set (i := 6) scWayF.nd rfl (.inl rfl) (pv 7))))
        pss_nil)))))
      (pss_one (ps_ret (pe_tup (pa_cons (pv 5) (pa_cons (pv 6) pa_nil))))))), ?_⟩
    obtain ⟨lkvs, eL, lL, vL⟩ := hL.ex
    refine q_dgetT (vl_var rfl) (fun _ => vl_var rfl) (fun _ => vl_var rfl) eL fun T0 nT0 => ?_
    rw [vL, ho]
    refine q_asg vl_c ?_
    have s0 : Same H (upd H T0 (.tup [.int x, .int y])) := same_upd nT0
    refine q_forL (K := K) (j := 7) (xs := ws.map V.int) (vl_var rfl) (s0.seq hP)
      (fun i σ H1 => ∃ y7 y8 y9 p m, σ = [some (.ref dl), some (.ref dp), some (.ref pl), some (.int x), some (.int y), some (oV p), some (oV m), y7, y8, y9] ∧ Same H H1 ∧ (p, m) = (ws.take i).foldl (bestStep fun w => addO (f1 w) (g1 w)) (o, none))
      ⟨none, none, none, o, none, rfl, s0, rfl⟩ (fun i σ H1 hP1 => ?_) (fun i v σ H1 hi hP1 => ?_) (fun σ H1 hP1 => ?_)
    · obtain ⟨_, _, _, _, _, _, s1, _⟩ := hP1
      exact s1.seq hP
    · obtain ⟨y7, y8, y9, p, m, rfl, s1, hf⟩ := hP1
      rw [List.getElem?_map] at hi
      cases hg : ws[i]? with
      | none =>
        rw [hg] at hi
        cases hi
      | some w0 =>
        rw [hg] at hi
        cases hi
        obtain ⟨k1, k2⟩ := hk w0 (List.mem_of_getElem? hg)
        refine ⟨.ref dp, rfl, .int x, rfl, .int w0, rfl, by show 2 ≤ sizeLine; decide, fun T nT => ?_⟩
        have s2 : Same H1 (upd H1 T (.tup [.int x, .int w0])) := same_upd nT
        have s12 := s1.trans s2
        refine ⟨dp, oV (f1 w0), rfl, by
          rw [← k1]
          exact DGet.t (k := K2 (x, w0)) (s12 _ _ hD) upd_same, .ref dp, rfl, .int w0, rfl, .int y, rfl, by show 2 ≤ sizeLine; decide, fun T2 nT2 => ?_⟩
        have s3 : Same (upd H1 T (.tup [.int x, .int w0])) (upd (upd H1 T (.tup [.int x, .int w0])) T2 (.tup [.int w0, .int y])) := same_upd nT2
        have s13 := s12.trans s3
        refine ⟨dp, oV (g1 w0), rfl, by
          rw [← k2]
          exact DGet.t (k := K2 (w0, y)) (s13 _ _ hD) upd_same, _, _, rfl, ?_⟩
        have hstep : (ws.take (i + 1)).foldl (bestStep fun w => addO (f1 w) (g1 w)) (o, none) = bestStep (fun w => addO (f1 w) (g1 w)) (p, m) w0 := by
          rw [take_snoc hg, List.foldl_append, ← hf]
          rfl
        generalize upd (upd H1 T (.tup [.int x, .int w0])) T2 (.tup [.int w0, .int y]) = H3 at s13 ⊢
        refine q_when (b := decide (oV (f1 w0) = .non) || decide (oV (g1 w0) = .non)) (an_or (an_test (vl_isN (vl_var rfl))) fun _ => an_test (vl_isN (vl_var rfl))) (fun hb => ?_) (fun hb => ?_)
        · refine ⟨_, _, _, p, m, rfl, s13, ?_⟩
          rw [oV_non, oV_non] at hb
          rw [hstep]
          refine (bs_none ?_).symm
          show addO (f1 w0) (g1 w0) = none
          cases e1 : f1 w0 with
          | none => rfl
          | some a =>
            cases e2 : g1 w0 with
            | none => rfl
            | some c =>
              rw [e1, e2] at hb
              cases hb
        · rw [oV_non, oV_non] at hb
          cases e1 : f1 w0 with
          | none =>
            rw [e1] at hb
            cases hb
          | some a =>
            cases e2 : g1 w0 with
            | none =>
              rw [e1, e2] at hb
              cases hb
            | some c =>
              have hsum : (fun w => addO (f1 w) (g1 w)) w0 = some (a + c) := by
                show addO (f1 w0) (g1 w0) = some (a + c)
                rw [e1, e2]
                rfl
              cases p with
              | none =>
                refine g_when (b := true) (an_or (k := true) (m := true) (an_test ((vl_isN (vl_var rfl)).is rfl)) fun h => by cases h) (fun _ => ?_) (fun h => by cases h)
                refine q_asg (v := .int (a + c)) (vl_I0 (vl_var rfl) (vl_var rfl)) ?_
                exact g_asg (v := .int w0) (vl_var rfl) ⟨_, _, _, some (a + c), some w0, rfl, s13, by rw [hstep, bs_first hsum]⟩
              | some b =>
                refine g_when (b := decide (a + c < b)) ((an_or (k := false) (m := decide (a + c < b)) (an_test ((vl_isN (vl_var rfl)).is rfl)) fun _ => an_test (vl_I0 (g := fun i j => .bl (decide (i < j))) (vl_I0 (vl_var rfl) (vl_var rfl)) (vl_var rfl))).is (Bool.false_or _)) (fun h => ?_) (fun h => ?_)
                · refine q_asg (v := .int (a + c)) (vl_I0 (vl_var rfl) (vl_var rfl)) ?_
                  refine g_asg (v := .int w0) (vl_var rfl) ⟨_, _, _, some (a + c), some w0, rfl, s13, ?_⟩
                  rw [hstep, bs_next hsum]
                  exact (if_pos (of_decide_eq_true h)).symm
                · refine ⟨_, _, _, some b, m, rfl, s13, ?_⟩
                  rw [hstep, bs_next hsum]
                  exact (if_neg (of_decide_eq_false h)).symm
    · obtain ⟨y7, y8, y9, p, m, rfl, s1, hf⟩ := hP1
      rw [List.length_map, List.take_length] at hf
      refine ⟨_, rfl, _, rfl, by show 2 ≤ sizeLine; decide, fun T nT => q _ T (s1.trans (same_upd nT)) ?_⟩
      unfold bestF
      rw [← hf]
      exact upd_same
end
theorem keepV {x y : Int} : ∀ (ls : List Lnk) (f : Option V), (∀ m ∈ ls, ¬ (x = m.b ∧ y = m.a) ∧ ¬ (x = m.a ∧ y = m.b)) → ls.foldl (lkS x y) f = f
  | [], f, _ => rfl
  | l :: ls, f, h => by
    have hl := h l List.mem_cons_self
    rw [List.foldl_cons, show lkS x y f l = f by
      unfold lkS
      rw [if_neg hl.1, if_neg hl.2]]
    exact keepV ls f fun m hm => h m (List.mem_cons_of_mem _ hm)
theorem lkv_fold {x y : Int} : ∀ (ls : List Lnk), ls.Pairwise LnkLt → (∀ m ∈ ls, m.a < m.b) → (ls.foldl (lkS x y) none).getD .non = oV (linkW ls x y)
  | [], _, _ => rfl
  | l :: ls, hp, ha => by
    have hp := List.pairwise_cons.mp hp
    have hl := ha l List.mem_cons_self
    have far : (x = l.b ∧ y = l.a) ∨ (x = l.a ∧ y = l.b) → ∀ m ∈ ls, ¬ (x = m.b ∧ y = m.a) ∧ ¬ (x = m.a ∧ y = m.b) := fun h m hm => by
      have h1 := hp.1 m hm
      have h2 := ha m (List.mem_cons_of_mem _ hm)
      unfold LnkLt at h1
      omega
    rw [List.foldl_cons]
    unfold linkW
    by_cases c1 : l.a = x ∧ l.b = y
    · rw [if_pos c1, show lkS x y none l = some (oV l.t) by
        unfold lkS
        rw [if_neg (by omega), if_pos ⟨c1.1.symm, c1.2.symm⟩], keepV ls _ (far (.inr ⟨c1.1.symm, c1.2.symm⟩))]
      rfl
    · rw [if_neg c1]
      by_cases c2 : l.b = x ∧ l.a = y
      · rw [if_pos c2, show lkS x y none l = some (oV l.k) by
          unfold lkS
          rw [if_pos ⟨c2.1.symm, c2.2.symm⟩], keepV ls _ (far (.inl ⟨c2.1.symm, c2.2.symm⟩))]
        rfl
      · rw [if_neg c2, show lkS x y none l = none by
          unfold lkS
          rw [if_neg (fun z => c2 ⟨z.1.symm, z.2.symm⟩), if_neg (fun z => c1 ⟨z.1.symm, z.2.symm⟩)]]
        exact lkv_fold ls hp.2 fun m hm => ha m (List.mem_cons_of_mem _ hm)
theorem lkv_linkW {N : Net} (ok : NetOk N) (x y : Int) : (lkv N.ls x y).getD .non = oV (linkW N.ls x y) := lkv_fold N.ls ok.lt fun m hm => (ok.ok m hm).ab
def spRowF (K : PySem.W.Frag) : Sp := fun vs H Q _ => ∃ (dl dp dw pl : Addr) (u v : Int) (ls : List Lnk) (kvs kvw : List (List L2.Key × V)) (ws : List Int) (pr lk : Int → Int → Option Int), vs = [.ref dl, .ref dp, .ref dw, .int u, .int v] ∧
  LinksAt H dl ls ∧ (∀ x y, (lkv ls x y).getD .non = oV (lk x y)) ∧ H dp = some (.dT kvs) ∧ H dw = some (.dT kvw) ∧ valV kvw (K2 (u, v)) = some (.ref pl) ∧ SqL K H pl (ws.map V.int) ∧ ws.length ≤ 1000 ∧
  (∀ w ∈ ws, ∀ z, (z = u ∨ z = v) → valV kvs (K2 (z, w)) = some (oV (pr z w)) ∧ valV kvs (K2 (w, z)) = some (oV (pr w z))) ∧
  ∀ H' T, Same H H' → H T = none → H' T = some (.tup (rowV ⟨u, v, (bestF (lk u v) (fun w => addO (pr u w) (pr w v)) ws).1, (bestF (lk v u) (fun w => addO (pr v w) (pr w u)) ws).1, (bestF (lk u v) (fun w => addO (pr u w) (pr w v)) ws).2, (bestF (lk v u) (fun w => addO (pr v w) (pr w u)) ws).2⟩)) → Q (.ref T) H'
abbrev sRowF : Stmt := topS 23
theorem scRowF : FnScope ["links", "prices", "lower", "low", "high", "places", "up", "up_middle", "down", "down_middle"] ["links", "prices", "lower", "low", "high"] (defScope sRowF) := ⟨rfl, rfl, rfl, by decide +kernel, rfl, by decide +kernel, by decide +kernel⟩
section
variable {P : Program} {w : World} {K : PySem.W.Frag} {mg : Str → Option Value} {base : Heap}
theorem ok_rowF {f : Addr} {fd : FuncData} {k : Nat} (F : Fun K "_row" "_row" sRowF f fd) (c_fill_way : Kal P w K mg base k "fill_way" ["links", "prices", "places", "x", "y"] (spWayF K)) : FnOk P w K mg base CX0 (k + 1) f fd ["links", "prices", "lower", "low", "high"] (spRowF K) := by
  refine F.ok scRowF (fun vs H Q E h => ?_) (fun cdv A outer s H vs Q E hr h => ?_)
  · obtain ⟨dl, dp, dw, pl, u, v, ls, kvs, kvw, ws, pr, lk, rfl, _⟩ := h
    rfl
  · obtain ⟨dl, dp, dw, pl, u, v, ls, kvs, kvw, ws, pr, lk, rfl, hL, hlk, hD, hW, hpl, hP, hw, hk, q⟩ := h
    have hu := hu_of hr
    refine ⟨_, pss_cons (ps_set (i := 5) scRowF.nd rfl (.inl rfl) (pe_dget hu (pv 2) (pe_tup (pa_cons (pv 3) (pa_cons (pv 4) pa_nil))) (fun _ _ => rfl)))
      (pss_cons (ps_asg (pe_k c_fill_way hr (by first | decide | omega) (by rfl) (pa_cons (pv 0) (pa_cons (pv 1) (pa_cons (pv 5) (pa_cons (pv 3) (pa_cons (pv 4) pa_nil)))))) (pg_tup rfl (pgs_cons (pg_name (i := 6) scRowF.nd rfl (.inl rfl)) (pgs_cons (pg_name (i := 7) scRowF.nd rfl (.inl rfl)) pgs_nil))))
      (pss_cons (ps_asg (pe_k c_fill_way hr (by first | decide | omega) (by rfl) (pa_cons (pv 0) (pa_cons (pv 1) (pa_cons (pv 5) (pa_cons (pv 4) (pa_cons (pv 3) pa_nil)))))) (pg_tup rfl (pgs_cons (pg_name (i := 8) scRowF.nd rfl (.inl rfl)) (pgs_cons (pg_name (i := 9) scRowF.nd rfl (.inl rfl)) pgs_nil))))
      (pss_one (ps_ret (pe_tup (pa_cons (pv 3) (pa_cons (pv 4) (pa_cons (pv 6) (pa_cons (pv 8) (pa_cons (pv 7) (pa_cons (pv 9) pa_nil))))))))))), ?_⟩
    refine q_asgE ⟨.ref dw, rfl, .int u, rfl, .int v, rfl, by show 2 ≤ sizeLine; decide, fun T0 nT0 => ?_⟩
    have s0 : Same H (upd H T0 (.tup [.int u, .int v])) := same_upd nT0
    refine ⟨dw, .ref pl, rfl, by
      rw [← hpl]
      exact DGet.t (k := K2 (u, v)) (s0 _ _ hW) upd_same, ?_⟩
    generalize upd H T0 (.tup [.int u, .int v]) = H0 at s0 ⊢
    refine ⟨.ref dl, rfl, .ref dp, rfl, .ref pl, rfl, .int u, rfl, .int v, rfl, dl, dp, pl, u, v, ls, kvs, ws, lk u v, fun w => pr u w, fun w => pr w v, rfl, hL.to s0, hlk u v, s0 _ _ hD, s0.seq hP, hw, fun w hw2 => ⟨(hk w hw2 u (.inl rfl)).1, (hk w hw2 v (.inr rfl)).2⟩, fun H1 T1 s1 e1 => ?_⟩
    refine ⟨T1, _, rfl, .of e1, rfl, _, _, rfl, _, _, rfl, rfl, ?_⟩
    have s01 := s0.trans s1
    refine ⟨.ref dl, rfl, .ref dp, rfl, .ref pl, rfl, .int v, rfl, .int u, rfl, dl, dp, pl, v, u, ls, kvs, ws, lk v u, fun w => pr v w, fun w => pr w u, rfl, hL.to s01, hlk v u, s01 _ _ hD, s01.seq hP, hw, fun w hw2 => ⟨(hk w hw2 v (.inr rfl)).1, (hk w hw2 u (.inl rfl)).2⟩, fun H2 T2 s2 e2 => ?_⟩
    refine ⟨T2, _, rfl, .of e2, rfl, _, _, rfl, _, _, rfl, rfl, ?_⟩
    refine ⟨_, rfl, _, rfl, _, rfl, _, rfl, _, rfl, _, rfl, by show 6 ≤ sizeLine; decide, fun T nT => q _ T ((s01.trans s2).trans (same_upd nT)) (Same.free (s01.trans s2) nT) upd_same⟩
end
theorem prR_newU {rs : List Row} {r : Row} (h : (r.u, r.v) ∉ rs.map prOf) : prR (rs ++ [r]) r.u r.v = r.up := by
  unfold prR
  rw [List.find?_append, find_none h, Option.none_or, List.find?_cons, decide_eq_true (show r.u = r.u ∧ r.v = r.v from ⟨rfl, rfl⟩)]
theorem prR_newD {rs : List Row} {r : Row} (h : (r.u, r.v) ∉ rs.map prOf) (h2 : (r.v, r.u) ∉ (rs ++ [r]).map prOf) : prR (rs ++ [r]) r.v r.u = r.dn := by
  unfold prR
  rw [find_none h2]
  rw [List.find?_append, find_none h, Option.none_or, List.find?_cons, decide_eq_true (show r.u = r.u ∧ r.v = r.v from ⟨rfl, rfl⟩)]
/-- the dict of prices, told by the rows -/
structure PrAt (kvs : List (List L2.Key × V)) (rs : List Row) : Prop where
  len : kvs.length ≤ 2 * rs.length
  at_ : ∀ x y : Int, ((x, y) ∈ rs.map prOf ∨ (y, x) ∈ rs.map prOf) → valV kvs (K2 (x, y)) = some (oV (prR rs x y))
theorem PrAt.nil : PrAt [] [] := ⟨Nat.le_refl _, fun x y h => by rcases h with h | h <;> cases h⟩
theorem PrAt.step {N : Net} {os : List Int} {kvs : List (List L2.Key × V)} {rs : List Row} {r : Row} {i : Nat} (ok : NetOk N) (oo : OrdOk N.n os) (h : PrAt kvs rs) (hp : rs.map prOf = (pairsL N.ls os).take i) (hi : (pairsL N.ls os)[i]? = some (r.u, r.v)) :
    PrAt (putK (putK kvs (K2 (r.u, r.v)) (oV r.up)) (K2 (r.v, r.u)) (oV r.dn)) (rs ++ [r]) := by
  have hLn := pairsL_nodup (ls := N.ls) oo
  have hmL : (r.u, r.v) ∈ pairsL N.ls os := List.mem_of_getElem? hi
  have hnew : (r.u, r.v) ∉ rs.map prOf := fun hh => by
    rw [hp] at hh
    obtain ⟨k, hk⟩ := List.mem_iff_getElem?.mp hh
    have hlt := (List.getElem?_eq_some_iff.mp hk).1
    rw [List.length_take] at hlt
    rw [List.getElem?_take, if_pos (by omega), ← hi] at hk
    have := (List.getElem?_inj (by omega) hLn).mp hk
    omega
  have hall : ∀ p ∈ (rs ++ [r]).map prOf, p ∈ pairsL N.ls os := fun p hpm => by
    rw [List.map_append] at hpm
    rcases List.mem_append.mp hpm with e | e
    · rw [hp] at e
      exact List.mem_of_mem_take e
    · rw [List.mem_singleton.mp e]
      exact hmL
  have hD : (r.v, r.u) ∉ (rs ++ [r]).map prOf := fun hh => anti ok oo hmL (hall _ hh)
  refine ⟨?_, fun x y hxy => ?_⟩
  · have h1 := put_len (kvs := putK kvs (K2 (r.u, r.v)) (oV r.up)) (k := K2 (r.v, r.u)) (v := oV r.dn)
    have h2 := put_len (kvs := kvs) (k := K2 (r.u, r.v)) (v := oV r.up)
    have h3 := h.len
    rw [List.length_append]
    show _ ≤ 2 * (_ + 1)
    omega
  · rw [valV_put, valV_put]
    by_cases c1 : (x, y) = (r.v, r.u)
    · cases c1
      rw [if_pos rfl, prR_newD hnew hD]
    · rw [if_neg (fun z => c1 (K2_inj z))]
      by_cases c2 : (x, y) = (r.u, r.v)
      · cases c2
        rw [if_pos rfl, prR_newU hnew]
      · rw [if_neg (fun z => c2 (K2_inj z))]
        have old : (x, y) ∈ rs.map prOf ∨ (y, x) ∈ rs.map prOf := by
          rw [List.map_append] at hxy
          rcases hxy with e | e
          · rcases List.mem_append.mp e with e | e
            · exact .inl e
            · exact absurd (List.mem_singleton.mp e) c2
          · rcases List.mem_append.mp e with e | e
            · exact .inr e
            · have e := List.mem_singleton.mp e
              exact absurd (by
                have e1 := congrArg Prod.fst e
                have e2 := congrArg Prod.snd e
                exact Prod.ext e2 e1) c1
        rw [h.at_ x y old]
        rcases old with e | e
        · rw [prR_pre1 e]
        · rw [prR_pre2 e fun hh => anti ok oo (hall _ (by
            rw [List.map_append]
            exact List.mem_append.mpr (.inl e))) (hall _ hh)]
/-- the rows in the heap -/
structure RowsT (H : Hp) (tr : List V) (rs : List Row) : Prop where
  len : tr.length = rs.length
  at_ : ∀ (k : Nat) r, rs[k]? = some r → ∃ t, tr[k]? = some (.ref t) ∧ H t = some (.tup (rowV r))
theorem RowsT.to {H H' : Hp} {tr : List V} {rs : List Row} (h : RowsT H tr rs) (s : Same H H') : RowsT H' tr rs := ⟨h.len, fun k r e => let ⟨t, e1, e2⟩ := h.at_ k r e; ⟨t, e1, s _ _ e2⟩⟩
theorem RowsT.dp {K : PySem.W.Frag} {H : Hp} : ∀ {tr : List V} {rs : List Row}, RowsT H tr rs → DpAll K H tr (rs.map rowD)
  | [], [], _ => .nil
  | [], _ :: _, h => absurd h.len (by simp)
  | _ :: _, [], h => absurd h.len (by simp)
  | x :: tr, r :: rs, h => by
    obtain ⟨t, e1, e2⟩ := h.at_ 0 r rfl
    cases Option.some.inj e1
    exact .cons (.tup (.of e2) (.cons (.int _) (.cons (.int _) (.cons (Dp.o _) (.cons (Dp.o _) (.cons (Dp.o _) (.cons (Dp.o _) .nil))))))) (RowsT.dp ⟨Nat.succ.inj h.len, fun k r e => h.at_ (k + 1) r e⟩)
theorem LowD.get {H H' : Hp} {d : Addr} {kvs : List (List L2.Key × V)} {L : List (Int × Int)} {os : List Int} (h : LowD H H' d kvs L os) {u v : Int} (hm : (u, v) ∈ L) : ∃ a, valV kvs (K2 (u, v)) = some (.ref a) ∧ H' a = some (.lst ((lowerL L os u v).map V.int)) := by
  obtain ⟨y, hy⟩ := h.has u v hm
  unfold valV at hy
  cases e : kvs.find? fun kv => decide (kv.1 = [Sum.inl u, Sum.inl v]) with
  | none =>
    rw [e] at hy
    cases hy
  | some p =>
    have e1 := List.mem_of_find?_eq_some e
    have e2 : p.1 = [Sum.inl u, Sum.inl v] := by simpa using List.find?_some e
    obtain ⟨u', v', a, hm', rfl, _, ha⟩ := h.all p e1
    have e3 := key2.mp e2
    obtain ⟨rfl, rfl⟩ := e3
    refine ⟨a, ?_, ha⟩
    show (kvs.find? fun kv => decide (kv.1 = [Sum.inl u', Sum.inl v'])).map (·.2) = _
    rw [e] <;> rfl
/-- what the row of a pair wants, from the rows ahead -/
theorem row_wants {N : Net} {os : List Int} {kvs : List (List L2.Key × V)} {rs : List Row} {i : Nat} {u v : Int} (ok : NetOk N) (oo : OrdOk N.n os) (h : PrAt kvs rs) (hp : rs.map prOf = (pairsL N.ls os).take i) (hi : (pairsL N.ls os)[i]? = some (u, v)) :
    ∀ w ∈ lowerL (pairsL N.ls os) os u v, ∀ z, (z = u ∨ z = v) → valV kvs (K2 (z, w)) = some (oV (prR rs z w)) ∧ valV kvs (K2 (w, z)) = some (oV (prR rs w z)) := fun w hw z hz => by
  have hm := mem_lowerL.mp hw
  have hl := ((mem_pairsL ok oo).mp hm.2.1).1
  have hwz : (w, z) ∈ pairsL N.ls os := by
    rcases hz with rfl | rfl
    · exact hm.2.1
    · exact hm.2.2
  have hb := before ok oo hi hwz hl
  rw [← hp] at hb
  exact ⟨h.at_ z w (.inr hb), h.at_ w z (.inl hb)⟩
abbrev sFill : Stmt := topS 19
theorem scFill : FnScope ["net", "order", "found", "lower", "links", "prices", "rows", "low", "high", "row"] ["net", "order"] (defScope sFill) := ⟨rfl, rfl, rfl, by decide +kernel, rfl, by decide +kernel, by decide +kernel⟩
section
variable {P : Program} {w : World} {K : PySem.W.Frag} {mg : Str → Option Value} {base : Heap}
theorem ok_fill {f : Addr} {fd : FuncData} {k k1 k2 k3 k4 : Nat} (h1 : k1 ≤ k) (h2 : k2 ≤ k) (h3 : k3 ≤ k) (h4 : k4 ≤ k) (F : Fun K "fill" "fill" sFill f fd) (c_pairs : Kal P w K mg base k1 "pairs" ["net", "order"] (spPairs K)) (c_lower_by_pair : Kal P w K mg base k2 "_lower_by_pair" ["found", "order"] (spLowBy K))
    (c_link_ways : Kal P w K mg base k3 "link_ways" ["net"] (spLinkWays K)) (c_row : Kal P w K mg base k4 "_row" ["links", "prices", "lower", "low", "high"] (spRowF K)) : FnOk P w K mg base CX0 (k + 1) f fd ["net", "order"] (spFill K) := by
  refine F.ok scFill (fun vs H Q E h => ?_) (fun cdv A outer s H vs Q E hr h => ?_)
  · obtain ⟨v, N, p, os, rfl, _⟩ := h
    rfl
  · obtain ⟨v, N, p, os, rfl, hN, okN, hS, oo, q⟩ := h
    have hu := hu_of hr
    refine ⟨_, pss_cons (ps_set (i := 2) scFill.nd rfl (.inl rfl) (pe_k c_pairs hr (by first | decide | omega) (by rfl) (pa_cons (pv 0) (pa_cons (pv 1) pa_nil))))
      (pss_cons (ps_set (i := 3) scFill.nd rfl (.inl rfl) (pe_k c_lower_by_pair hr (by first | decide | omega) (by rfl) (pa_cons (pv 2) (pa_cons (pv 1) pa_nil))))
      (pss_cons (ps_set (i := 4) scFill.nd rfl (.inl rfl) (pe_k c_link_ways hr (by first | decide | omega) (by rfl) (pa_cons (pv 0) pa_nil)))
      (pss_cons (ps_set (i := 5) scFill.nd rfl (.inl rfl) pe_dnewT)
      (pss_cons (ps_set (i := 6) scFill.nd rfl (.inl rfl) (pe_lst pa_nil))
      (pss_cons (ps_for PassesOwn.never rfl (pi_list (pv 2)) (pg_tup rfl (pgs_cons (pg_name (i := 7) scFill.nd rfl (.inl rfl)) (pgs_cons (pg_name (i := 8) scFill.nd rfl (.inl rfl)) pgs_nil)))
      (pss_cons (ps_set (i := 9) scFill.nd rfl (.inl rfl) (pe_k c_row hr (by first | decide | omega) (by rfl) (pa_cons (pv 4) (pa_cons (pv 5) (pa_cons (pv 3) (pa_cons (pv 7) (pa_cons (pv 8) pa_nil)))))))
        (pss_cons (ps_dput hu (pv 5) (pe_tup (pa_cons (pv 7) (pa_cons (pv 8) pa_nil))) (pe_ix ix_tup (pv 9) pe_int (fun _ _ => rfl)) rfl)
        (pss_cons (ps_dput hu (pv 5) (pe_tup (pa_cons (pv 8) (pa_cons (pv 7) pa_nil))) (pe_ix ix_tup (pv 9) pe_int (fun _ _ => rfl)) rfl)
        (pss_one (ps_expr (pe_bm PySem.F.plainAttrs_list PySem.F.slot_list_append PySem.F.type_list_append mt_append (pv 6) (pa_cons (pv 9) pa_nil))))))))
      (pss_one (ps_ret (pv 6)))))))), ?_⟩
    have l16 := okN.len
    have hLl := pairsL_len okN oo
    refine q_asgE ⟨v, rfl, .ref p, rfl, v, N, p, os, rfl, hN, okN, hS, oo, fun H1 fp ts s1 nfp efp hT => ?_⟩
    refine q_asgE ⟨.ref fp, rfl, .ref p, rfl, fp, p, ts, N, os, rfl, .of efp, hT, s1.seq hS, okN, oo, fun H2 d kvw s2 nd hLow => ?_⟩
    have s12 := s1.trans s2
    refine q_asgE ⟨v, rfl, v, N, rfl, Dp.to hN s12, by omega, fun H3 dl s3 ndl hLk => ?_⟩
    have s13 := s12.trans s3
    refine q_dnewT fun dp ndp => ?_
    refine q_lnew fun ro nro => ?_
    have s4 : Same H3 (upd H3 dp (.dT [])) := same_upd ndp
    have s5 : Same (upd H3 dp (.dT [])) (upd (upd H3 dp (.dT [])) ro (.lst [])) := same_upd nro
    have hrd : ro ≠ dp := fun z => by
      rw [z, upd_same] at nro
      cases nro
    have nro3 : H3 ro = none := Same.free s4 nro
    have hT3 := hT.to (s2.trans s3)
    have efp3 := (s2.trans s3) _ _ efp
    refine q_forP (vl_var rfl) (.of ((s4.trans s5) _ _ efp3)) hT.len
      (fun i σ H4 => ∃ y7 y8 y9 kvs rs tr, σ = [some v, some (.ref p), some (.ref fp), some (.ref d), some (.ref dl), some (.ref dp), some (.ref ro), y7, y8, y9] ∧ Same H3 H4 ∧ H4 dp = some (.dT kvs) ∧ H4 ro = some (.lst tr) ∧ RowsT H4 tr rs ∧ PrAt kvs rs ∧ rs.map prOf = (pairsL N.ls os).take i ∧
        ∀ (k : Nat) r, rs[k]? = some r → r = mkRow N os (pairsL N.ls os) (rs.take k) r.u r.v)
      ⟨none, none, none, [], [], [], rfl, s4.trans s5, by rw [upd_ne (fun z => hrd z.symm)]; exact upd_same, upd_same, ⟨rfl, fun k r e => by simp at e⟩, PrAt.nil, by simp, fun k r e => by simp at e⟩ (fun i σ H4 hP => ?_) (fun i u v0 t σ H4 hi ht hP => ?_) (fun σ H4 hP => ?_)
    · obtain ⟨_, _, _, _, _, _, _, s6, _⟩ := hP
      exact ⟨.of (s6 _ _ efp3), hT3.to s6⟩
    · obtain ⟨y7, y8, y9, kvs, rs, tr, rfl, s6, edp, ero, hR, hPr, hpm, hmk⟩ := hP
      have hm : (u, v0) ∈ pairsL N.ls os := List.mem_of_getElem? hi
      have hil := (List.getElem?_eq_some_iff.mp hi).1
      obtain ⟨pl, hv, hpl⟩ := hLow.get hm
      have hrl : rs.length = i := by
        have := congrArg List.length hpm
        rw [List.length_map, List.length_take] at this
        omega
      refine q_asgE ⟨.ref dl, rfl, .ref dp, rfl, .ref d, rfl, .int u, rfl, .int v0, rfl, dl, dp, d, pl, u, v0, N.ls, kvs, kvw, lowerL (pairsL N.ls os) os u v0, prR rs, linkW N.ls, rfl, hLk.to s6, lkv_linkW okN, edp, s6 _ _ (s3 _ _ hLow.d), hv, .of (s6 _ _ (s3 _ _ hpl)), ?_, row_wants okN oo hPr hpm hi, fun H5 T s7 nT eT => ?_⟩
      · have e1 : (lowerL (pairsL N.ls os) os u v0).length ≤ os.length := List.length_filter_le _ _
        have := oo.len
        have := okN.n40
        omega
      · have hreq : mkRow N os (pairsL N.ls os) rs u v0 = ⟨u, v0, (bestF (linkW N.ls u v0) (fun w => addO (prR rs u w) (prR rs w v0)) (lowerL (pairsL N.ls os) os u v0)).1, (bestF (linkW N.ls v0 u) (fun w => addO (prR rs v0 w) (prR rs w u)) (lowerL (pairsL N.ls os) os u v0)).1, (bestF (linkW N.ls u v0) (fun w => addO (prR rs u w) (prR rs w v0)) (lowerL (pairsL N.ls os) os u v0)).2, (bestF (linkW N.ls v0 u) (fun w => addO (prR rs v0 w) (prR rs w u)) (lowerL (pairsL N.ls os) os u v0)).2⟩ := rfl
        rw [← hreq] at eT
        have ru : (mkRow N os (pairsL N.ls os) rs u v0).u = u := rfl
        have rv : (mkRow N os (pairsL N.ls os) rs u v0).v = v0 := rfl
        generalize hrr : mkRow N os (pairsL N.ls os) rs u v0 = r at eT ru rv
        have s67 := s6.trans s7
        have hstep := hPr.step (r := r) okN oo hpm (by rw [ru, rv]; exact hi)
        rw [ru, rv] at hstep
        refine q_dputK (v := oV r.up) (y1 := u) (y2 := v0) (vl_ixT (K := K) (vl_var rfl) vl_c (.of eT) (atI_nat (j := 2) rfl)) (vl_var rfl) (vl_var rfl) (vl_var rfl) (s7 _ _ edp) ?_ fun T1 nT1 oT1 => ?_
        · have := hPr.len
          exact Nat.lt_of_le_of_lt (m := 10000) (by omega) (by decide)
        have s8 : Same H5 (upd H5 T1 (.tup [.int u, .int v0])) := same_upd nT1
        have hT_dp : T ≠ dp := fun z => by
          rw [z, s7 _ _ edp] at eT
          cases eT
        have eT8 : upd (upd H5 T1 (.tup [.int u, .int v0])) dp (.dT (putK kvs [.inl u, .inl v0] (oV r.up))) T = some (.tup (rowV r)) := by
          rw [upd_ne hT_dp]
          exact s8 _ _ eT
        have b8 : Same (but H5 dp) (but (upd (upd H5 T1 (.tup [.int u, .int v0])) dp (.dT (putK kvs [.inl u, .inl v0] (oV r.up)))) dp) := by
          rw [but_upd]
          exact but_mono s8
        have g8 : Same H3 (upd (upd H5 T1 (.tup [.int u, .int v0])) dp (.dT (putK kvs [.inl u, .inl v0] (oV r.up)))) := same_upd' (s67.trans s8) ndp
        have e8 : upd (upd H5 T1 (.tup [.int u, .int v0])) dp (.dT (putK kvs [.inl u, .inl v0] (oV r.up))) dp = some (.dT (putK kvs [.inl u, .inl v0] (oV r.up))) := upd_same
        generalize upd (upd H5 T1 (.tup [.int u, .int v0])) dp (.dT (putK kvs [.inl u, .inl v0] (oV r.up))) = H8 at eT8 b8 g8 e8 ⊢
        refine q_dputK (v := oV r.dn) (y1 := v0) (y2 := u) (vl_ixT (K := K) (vl_var rfl) vl_c (.of eT8) (atI_nat (j := 3) rfl)) (vl_var rfl) (vl_var rfl) (vl_var rfl) e8 ?_ fun T2 nT2 oT2 => ?_
        · have h1 := hPr.len
          have h2 := put_len (kvs := kvs) (k := [Sum.inl u, Sum.inl v0]) (v := oV r.up)
          exact Nat.lt_of_le_of_lt (m := 10000) (by omega) (by decide)
        have s9 : Same H8 (upd H8 T2 (.tup [.int v0, .int u])) := same_upd nT2
        have eT9 : upd (upd H8 T2 (.tup [.int v0, .int u])) dp (.dT (putK (putK kvs [.inl u, .inl v0] (oV r.up)) [.inl v0, .inl u] (oV r.dn))) T = some (.tup (rowV r)) := by
          rw [upd_ne hT_dp]
          exact s9 _ _ eT8
        have b9 : Same (but H5 dp) (but (upd (upd H8 T2 (.tup [.int v0, .int u])) dp (.dT (putK (putK kvs [.inl u, .inl v0] (oV r.up)) [.inl v0, .inl u] (oV r.dn)))) dp) := by
          rw [but_upd]
          exact b8.trans (but_mono s9)
        have g9 : Same H3 (upd (upd H8 T2 (.tup [.int v0, .int u])) dp (.dT (putK (putK kvs [.inl u, .inl v0] (oV r.up)) [.inl v0, .inl u] (oV r.dn)))) := same_upd' (g8.trans s9) ndp
        have e9 : upd (upd H8 T2 (.tup [.int v0, .int u])) dp (.dT (putK (putK kvs [.inl u, .inl v0] (oV r.up)) [.inl v0, .inl u] (oV r.dn))) dp = some (.dT (putK (putK kvs [.inl u, .inl v0] (oV r.up)) [.inl v0, .inl u] (oV r.dn))) := upd_same
        generalize upd (upd H8 T2 (.tup [.int v0, .int u])) dp (.dT (putK (putK kvs [.inl u, .inl v0] (oV r.up)) [.inl v0, .inl u] (oV r.dn))) = H9 at eT9 b9 g9 e9 ⊢
        have keep : ∀ a x, a ≠ dp → H5 a = some x → H9 a = some x := fun a x hne hx => but_same _ _ (b9 _ _ (by rw [but_ne hne]; exact hx))
        have ero9 := keep ro _ hrd (s7 _ _ ero)
        have hTro : T ≠ ro := fun z => by
          rw [z, ero9] at eT9
          cases eT9
        refine g_app (v := .ref T) (vl_var rfl) ero9 (vl_var rfl) ?_ ⟨_, _, _, _, rs ++ [r], tr ++ [.ref T], rfl, same_upd' g9 nro3, ?_, upd_same, ⟨?_, fun k r' hk => ?_⟩, hstep, ?_, fun k r' hk => ?_⟩
        · rw [hR.len, hrl]
          exact Nat.lt_of_le_of_lt (m := 10000) (by omega) (by decide)
        · rw [upd_ne (fun z => hrd z.symm)]
          exact e9
        · rw [List.length_append, List.length_append, hR.len]
          rfl
        · by_cases hkl : k < rs.length
          · rw [List.getElem?_append_left hkl] at hk
            obtain ⟨t', z1, z2⟩ := hR.at_ k r' hk
            refine ⟨t', by rw [List.getElem?_append_left (by rw [hR.len]; exact hkl)]; exact z1, ?_⟩
            have zdp : t' ≠ dp := fun z => by
              rw [z, edp] at z2
              cases z2
            have zro : t' ≠ ro := fun z => by
              rw [z, ero] at z2
              cases z2
            rw [upd_ne zro]
            exact keep t' _ zdp (s7 _ _ z2)
          · rw [List.getElem?_append_right (by omega)] at hk
            have e0 : k - rs.length = 0 := by
              have := (List.getElem?_eq_some_iff.mp hk).1
              simp at this
              exact this
            rw [e0] at hk
            cases hk
            refine ⟨T, ?_, ?_⟩
            · rw [List.getElem?_append_right (by rw [hR.len]; omega), hR.len, e0]
              rfl
            · rw [upd_ne hTro]
              exact eT9
        · rw [List.map_append, hpm, take_snoc hi]
          show _ ++ [(r.u, r.v)] = _
          rw [ru, rv]
        · by_cases hkl : k < rs.length
          · rw [List.getElem?_append_left hkl] at hk
            rw [List.take_append_of_le_length (by omega)]
            exact hmk k r' hk
          · rw [List.getElem?_append_right (by omega)] at hk
            have e0 : k - rs.length = 0 := by
              have := (List.getElem?_eq_some_iff.mp hk).1
              simp at this
              exact this
            rw [e0] at hk
            cases hk
            have ek : k = rs.length := by omega
            rw [ek, List.take_left', ru, rv]
            · exact hrr.symm
            · rfl
    · obtain ⟨y7, y8, y9, kvs, rs, tr, rfl, s6, edp, ero, hR, hPr, hpm, hmk⟩ := hP
      rw [List.take_length] at hpm
      exact g_ret (vl_var rfl) (q H4 ro tr rs (s13.trans s6) (Same.free s13 nro3) ero hR.dp ((fill_iff okN oo).mpr ⟨hpm, hmk⟩))
end
theorem Dp.row_inv {K : PySem.W.Frag} {H : Hp} {v : V} {r : Row} (h : Dp K H v (rowD r)) : ∃ a, v = .ref a ∧ SqT K H a (rowV r) := by
  obtain ⟨a, xs, rfl, hs, ha⟩ := Dp.tup_inv h
  cases ha with
  | cons h1 r1 =>
    cases r1 with
    | cons h2 r2 =>
      cases r2 with
      | cons h3 r3 =>
        cases r3 with
        | cons h4 r4 =>
          cases r4 with
          | cons h5 r5 =>
            cases r5 with
            | cons h6 r6 =>
              cases r6
              rw [Dp.int_inv h1, Dp.int_inv h2, Dp.o_inv h3, Dp.o_inv h4, Dp.o_inv h5, Dp.o_inv h6] at hs
              exact ⟨a, rfl, hs⟩
theorem Dp.row {K : PySem.W.Frag} {H : Hp} {a : Addr} {r : Row} (h : SqT K H a (rowV r)) : Dp K H (.ref a) (rowD r) :=
  .tup h (.cons (.int _) (.cons (.int _) (.cons (Dp.o _) (.cons (Dp.o _) (.cons (Dp.o _) (.cons (Dp.o _) .nil))))))
theorem eqvAll_prs : ∀ L M : List (Int × Int), PyData.eqvAll (L.map pairD2) (M.map pairD2) = decide (L = M)
  | [], [] => rfl
  | [], _ :: _ => rfl
  | _ :: _, [] => rfl
  | (a, b) :: L, (c, d) :: M => by
    show (((a == c) && ((b == d) && true)) && PyData.eqvAll (L.map pairD2) (M.map pairD2)) = _
    rw [eqvAll_prs L M, Bool.and_true, Bool.eq_iff_iff, Bool.and_eq_true, Bool.and_eq_true, beq_iff_eq, beq_iff_eq, decide_eq_true_eq, decide_eq_true_eq]
    constructor
    · rintro ⟨⟨rfl, rfl⟩, rfl⟩
      rfl
    · intro h
      cases h
      exact ⟨⟨rfl, rfl⟩, rfl⟩
theorem lay_prs : ∀ L : List (Int × Int), PyData.canLayAll0 (L.map pairD2) = true ∧ PyData.depthAll (L.map pairD2) ≤ 1
  | [] => ⟨rfl, Nat.zero_le _⟩
  | p :: L => by
    have ih := lay_prs L
    constructor
    · show (((true && (true && true))) && PyData.canLayAll0 (L.map pairD2)) = true
      rw [ih.1]
      rfl
    · show max (max 0 (max 0 0) + 1) (PyData.depthAll (L.map pairD2)) ≤ 1
      have := ih.2
      omega
theorem shaped_prs (L : List (Int × Int)) : SeqAt.shaped (.list (L.map pairD2)) = true := by
  have h := lay_prs L
  show (PyData.canLayAll0 (L.map pairD2) && decide (PyData.depthAll (L.map pairD2) + 1 ≤ 64)) = true
  rw [h.1, decide_eq_true (by
    have := h.2
    omega)]
  rfl
theorem shaped_row (r : Row) : SeqAt.shaped (rowD r) = true := by
  have h := lay_row r
  show ((rowD r).canLay0 && decide ((rowD r).depth ≤ 64)) = true
  rw [h.1, h.2]
  rfl
theorem eqv_row (r s : Row) : PyData.eqv (rowD r) (rowD s) = true ↔ r = s := by
  show ((r.u == s.u) && ((r.v == s.v) && (PyData.eqv (oD r.up) (oD s.up) && (PyData.eqv (oD r.dn) (oD s.dn) && (PyData.eqv (oD r.um) (oD s.um) && (PyData.eqv (oD r.dm) (oD s.dm) && true)))))) = true ↔ r = s
  rw [eqv_o, eqv_o, eqv_o, eqv_o, Bool.and_true]
  simp only [Bool.and_eq_true, beq_iff_eq, decide_eq_true_eq]
  constructor
  · rintro ⟨h1, h2, h3, h4, h5, h6⟩
    cases r
    cases s
    simp only at h1 h2 h3 h4 h5 h6
    rw [h1, h2, h3, h4, h5, h6]
  · rintro rfl
    exact ⟨rfl, rfl, rfl, rfl, rfl, rfl⟩
/-- [(row[0], row[1]) for row in rows] -/
theorem lc_prs {K : PySem.W.Frag} {σ : L2.St} {H : Hp} {tl : TE} {j : Nat} {rows : List Row} {xs : List V} {a : Addr} {Q : VK} (hj : j < σ.length) (hl : Vl tl σ H (.ref a)) (hx : SqL K H a xs) (hd : DpAll K H xs (rows.map rowD)) (hz : rows.length ≤ 100000)
    (q : ∀ D H' ts, Same H H' → H D = none → H' D = some (.lst ts) → TupsAt H' ts (rows.map prOf) → Q (.ref D) H') : tLc (iList K tl) (gName j) tYes (tTup (tCons (tOp (rIxT K) (tVar j) (tC (.int 0))) (tCons (tOp (rIxT K) (tVar j) (tC (.int 1))) tNil))) [j] σ H Q := by
  have lx := DpAll.len hd
  rw [List.length_map] at lx
  refine hl _ ⟨a, rfl, ⟨_, hx⟩, fun D nD => lc_list (xs := xs) (fun i H' => ∃ ts, H' D = some (.lst ts) ∧ Same H H' ∧ TupsAt H' ts ((rows.take i).map prOf)) ⟨[], upd_same, same_upd nD, TupsAt.nil⟩ (fun i H' _ hP => hP.choose_spec.2.1.seq hx) (fun i x H2 hi hP => ?_) (fun H2 hP => ?_)⟩
  · obtain ⟨ts, hD, s2, hT⟩ := hP
    have hil := (List.getElem?_eq_some_iff.mp hi).1
    have hg : rows[i]? = some rows[i] := List.getElem?_eq_getElem (by omega)
    generalize rows[i] = r at hg
    obtain ⟨v', ev, dv⟩ := DpAll.get (i := i) (d := rowD r) hd (by
      rw [List.getElem?_map, hg]
      rfl)
    cases hi.symm.trans ev
    obtain ⟨t, rfl, ht⟩ := Dp.row_inv dv
    have hjl : ((σ.set j none).set j (some (V.ref t)))[j]? = some (some (V.ref t)) := List.getElem?_set_self (by rw [List.length_set]; exact hj)
    refine ⟨?_, ?_⟩
    · show ((σ.set j none).set j (some (V.ref t))).set j none = σ.set j none
      rw [List.set_set, List.set_set]
    · refine iteT (B := ∃ ts, H2 D = some (.lst ts) ∧ Same H H2 ∧ TupsAt H2 ts ((rows.take (i + 1)).map prOf)) ((vl_ixT (K := K) (vl_var hjl) vl_c (seqT s2 ht) (atI_nat (j := 0) rfl)) _ ((vl_ixT (K := K) (vl_var hjl) vl_c (seqT s2 ht) (atI_nat (j := 1) rfl)) _ ⟨by show 2 ≤ sizeLine; decide, fun T nT => ⟨ts, same_upd nT _ _ hD, ?_, ts ++ [.ref T], upd_same, same_upd' (s2.trans (same_upd nT)) nD, ?_⟩⟩))
      · rw [hT.len, List.length_map, List.length_take]
        exact Nat.lt_of_le_of_lt (m := 100000) (by omega) (by decide)
      · rw [take_snoc hg, List.map_append]
        exact ((hT.to (same_upd nT)).app (TupsAt.one upd_same)).upd (same_upd nT _ _ hD)
  · obtain ⟨ts, hD, s2, hT⟩ := hP
    rw [lx, List.take_length] at hT
    exact q D H2 ts s2 nD hD hT
theorem g_retCall1 {sp : Sp} {t : TE} {tr : TA} {D : Ends} {σ : L2.St} {H : Hp} (h : t σ H fun x H1 => tr σ H1 fun xs H2 => sp ((x :: xs) ++ []) H2 D.rt E0) : tRet (tCall sp [] E0 (tCons t tr)) D σ H := h
theorem q_asgE1 {t : TE} {i : Nat} {D : Ends} {tw : TS} {σ : L2.St} {H : Hp} (h : t σ H fun x H1 => tw D (σ.set i (some x)) H1) : tSeq (tAsg t (gName i)) tw D σ H := h
section
variable {P : Program} {w : World} {K : PySem.W.Frag} {mg : Str → Option Value} {base : Heap}
end
end Ovc
namespace L2
open PySem PySem.Spec PyProof.Rows
section
variable {X : Cx} {pins : List (Addr × Obj)} {σ : St} {H : Hp} {s : Shared} {d : Addr} {o : Obj}
theorem Inv.frzTV {kvs : List (List Key × V)} (I : Inv X pins σ H s) (h : H d = some (.frz o (.dT kvs))) :
    (d == sysModules) = false ∧ s.heap.get? d = some o ∧ o.ExactDict ∧ ∃ (es : Array DictEntry) (ep : Nat), o.data = .dict es ep ∧ es.size = kvs.length ∧
      ∀ (i : Nat) (k : List Key) (v : V), kvs[i]? = some (k, v) → ∃ (en : DictEntry) (q : Addr), es[i]? = some en ∧ en.key = .ref q ∧ H q = some (.tup (k.map kV)) ∧ RelV v en.val := by
  obtain ⟨hd, z, hs, xs, pr, o', es, ep, ho, hx, hdt, he, _⟩ := I.hok d _ h
  rw [hd] at ho
  cases ho
  refine ⟨hs, hd, hx, es, ep, hdt, ?_, fun i k v e => ?_⟩
  · have l1 : es.size = xs.length := size_of_entries he
    have l2 : kvs.length = xs.length := Paired.length pr
    omega
  · obtain ⟨b, hb, e1, e2, e3⟩ := paired_get pr e
    have q := entry_at he i
    rw [hb] at q
    exact ⟨_, b.2.1, q, rfl, e2, e3⟩
end
/-- the pairs of the locked dict at d, each a new tuple of the key's own tuple and the value -/
def ItiT (d : Addr) (o : Obj) (kvs : List (List Key × V)) : It :=
  ⟨fun i H => H d = some (.frz o (.dT kvs)) ∧ i < kvs.length, fun i H x H' => ∃ T k v q, kvs[i]? = some (k, v) ∧ H q = some (.tup (k.map kV)) ∧ x = .ref T ∧ H T = none ∧ H' = upd H T (.tup [.ref q, v]), fun i H => H d = some (.frz o (.dT kvs)) ∧ kvs.length ≤ i⟩
section
variable {P : Program} {w : World} {K : PySem.W.Frag} {d : Addr} {o : Obj} {es : Array DictEntry} {ep : Nat}
theorem turn_itemsT {kvs : List (List Key × V)} {elts : List Expr} {kk : Nat} {tpos : Pos} (it : Addr) (hod : o.data = .dict es ep) :
    Turn P w K (.Tuple elts kk tpos) (ItiT d o kvs) [it] it (fun i h => ∃ ok ov, IsItemIter h it d i kvs.length ep ok ov) where
  mem := by simp
  obj := fun i h st b hb => by
    have e : b = it := by simpa using hb
    subst e
    obtain ⟨ok, ov, e⟩ := st
    exact ⟨_, e, fun v z => nomatch z⟩
  keep := fun i h h' st k => let ⟨ok, ov, e⟩ := st; ⟨ok, ov, k it (by simp) _ e⟩
  item := by
    intro X hP hw hK hc i pins s σ H E I hf st hg
    subst hP hw hK
    obtain ⟨hd, hi⟩ := hg
    obtain ⟨hs, hgd, hx, es', ep', hdt, hsz, ent⟩ := I.frzTV hd
    obtain ⟨rfl, rfl⟩ := dict_ep hod hdt
    obtain ⟨⟨k, v⟩, hkv⟩ : ∃ p, kvs[i]? = some p := ⟨kvs[i], List.getElem?_eq_getElem hi⟩
    obtain ⟨en, q, hen, hkey, hq, hval⟩ := ent i k v hkv
    obtain ⟨ok, ov, he⟩ := st
    rw [← hsz] at he hi
    have een : es'[i]'hi = en := by
      have z := Array.getElem?_eq_getElem hi
      rw [hen] at z
      exact (Option.some.inj z).symm
    have hlt : it < s.heap.objs.size := Heap.lt_size he
    refine wpAny_pyNext_items_item_raw he ⟨o, hgd, hx, hdt⟩ hi fun h' ho hT hz hk => ?_
    rw [een] at ho hT
    refine ⟨_, rfl, wpAny_letOwnedTupleGo_items (s := { s with heap := h' }) ho fun h'' he' sb => ?_⟩
    have hT2 : h''.get? s.heap.objs.size = some { cls := .type "tuple", data := .seq #[en.key, en.val] } := (sb.2 _ (Nat.ne_of_gt hlt)).trans hT
    have new : ObjOk X.prog X.w (upd H s.heap.objs.size (.tup [.ref q, v])) h'' s.heap.objs.size (.tup [.ref q, v]) :=
      ⟨by show 2 ≤ sizeLine; decide, [en.key, en.val], .cons hkey (.cons hval .nil), ⟨_, hT2, rfl, _, rfl⟩⟩
    have I1 : Inv X pins σ (upd H s.heap.objs.size (.tup [.ref q, v])) { s with heap := h'' } :=
      I.turnedNew (t' := s.toks) (ch := [it]) (fun b ob hb e => (sb.2 b (by simpa using hb)).trans (hk b ob (by simpa using hb) e)) hf (Nat.le_refl _) new
    refine ⟨.ref s.heap.objs.size, _, I1, rfl, ⟨_, k, v, q, hkv, hq, rfl, I.hok.fresh (Nat.le_refl _), rfl⟩, ⟨en.key, en.val, ?_⟩, fun b hb => ?_⟩
    · rw [← hsz]
      exact he'
    · have e : b = it := by simpa using hb
      rw [e, upd_ne (Nat.ne_of_lt hlt)]
      exact (hf it (by simp)).1
  done := by
    intro X hP hw hK hc i pins s σ H E I hf st hg
    subst hP hw hK
    obtain ⟨hd, hi⟩ := hg
    obtain ⟨f0, f1, f2, f3, f4, f5⟩ := hf it (by simp)
    obtain ⟨hs, hgd, hx, es', ep', hdt, hsz, ent⟩ := I.frzTV hd
    obtain ⟨rfl, rfl⟩ := dict_ep hod hdt
    obtain ⟨ok, ov, he⟩ := st
    rw [← hsz] at he hi
    exact wpAny_pyNext_items_end_raw (I.ok.hd hc) he ⟨o, hgd, hx, hdt⟩ hi fun h' eb => ⟨rfl, I.turned (t' := s.toks) (fun b ob hb e => eb b ob hb e) f0 f1 f3 f4 f5⟩
  self := fun A i s Q E st h => let ⟨_, _, e⟩ := st; PySem.W.kcp_self e h
end
/-- in e.items(), e a dict that nothing else is done to from here on: it is locked for good -/
def iItemsT (td : TE) : TI := fun σ H R => td σ H fun x H1 => ∃ d kvs, x = .ref d ∧ H1 d = some (.dT kvs) ∧ ∀ od, R (ItiT d od kvs) (upd H1 d (.frz od (.dT kvs)))
theorem pi_itemsT {X : Cx} {e : Expr} {td : TE} {elts : List Expr} {kk : Nat} {tpos apos cpos : Pos} (he : PE X e td) (hbase : attributeBase e "items" X.env (eval e X.env) = eval e X.env := by rfl) (hline : (apos.endLine == cpos.line) = true := by rfl) :
    PI X (.Tuple elts kk tpos) (.Call (.Attribute e "items" apos) [] [] cpos) (iItemsT td) := by
  refine ⟨fun pins s σ H R I h => ?_⟩
  refine wpAny_Call_method (T := "dict") (id := "dict.items") hbase rfl hline PySem.F.plainAttrs_dict PySem.F.slot_dict_items PySem.F.type_dict_items (thn (he.run pins s σ H _ I h) fun u s1 ⟨x, H1, I1, rx, d, kvs, ex, hd, q⟩ => ?_)
  subst ex
  obtain rfl : u = Value.ref d := rx
  obtain ⟨od, I2⟩ := I1.lock hd (by trivial)
  obtain ⟨hs, hgd, hx, es, ep, hdt, hsz, ent⟩ := I2.frzTV (d := d) upd_same
  have ti : s1.TypeIs (.ref d) "dict" := ⟨od, hgd, hx.1⟩
  refine ⟨ti, fun b e => ?_, ?_⟩
  · cases e
    exact ⟨od, hgd, hx.2.1⟩
  have I3 : Inv X pins σ (upd H1 d (.frz od (.dT kvs))) { s1 with heap := s1.heap.push { cls := .type "dict_items", data := .fields #[.ref d] } } := I2.kept (t' := s1.toks) fun b ob q => Heap.get?_push_of_some _ q
  have fin : wpAny (model X.prog X.w) X.A (pyIter (.ref s1.heap.objs.size)) (PIE X pins σ (.Tuple elts kk tpos) R) X.xe { s1 with heap := s1.heap.push { cls := .type "dict_items", data := .fields #[.ref d] } } := by
    refine wpAny_pyIter_items_raw (d := d) (es := es) (ep := ep) ⟨_, Heap.get?_push_size _ rfl, rfl, rfl⟩ ⟨od, Heap.get?_push_of_some _ hgd, hx, hdt⟩ (pi_one (tk := s1.toks) I3 _ (turn_itemsT _ hdt) ⟨.none, .none, ?_⟩ (q od))
    rw [← hsz]
    exact Heap.get?_push_size _ rfl
  show wpAny _ _ (callWith cpos (.builtin "dict.items") [.ref d] [] []) _ X.xe s1
  exact method_meetsIn PySem.F.slot_dict_items PySem.F.entry_dict_items rfl (PySem.evalArgs_none ⟨rfl, ti, PySem.F.args_dict_items_1 _, _, DT.meetsItems (es := es) (ep := ep) hs, ⟨od, hgd, hx, hdt⟩, fin⟩)
theorem walk_itemsT {d : Addr} {o : Obj} {kvs : List (List Key × V)} : Walk (ItiT d o kvs) kvs.length (fun H => H d = some (.frz o (.dT kvs)))
    (fun i H x H' => ∃ T k v q, kvs[i]? = some (k, v) ∧ H q = some (.tup (k.map kV)) ∧ x = .ref T ∧ H T = none ∧ H' = upd H T (.tup [.ref q, v])) :=
  ⟨fun _ _ hi q => ⟨q, hi⟩, fun _ q => ⟨q, Nat.le_refl _⟩, fun _ _ _ _ _ _ y => y⟩
end L2
namespace Ovc
open PySem PySem.Spec PyProof.Rows L2
end Ovc
namespace L2
open PySem PySem.Spec PyProof.Rows
/-! ### for k in d, the keys of d are tuples -/
def iKeysT9 (td : TE) : TI := fun σ H R => td σ H fun x H1 => ∃ d kvs, x = .ref d ∧ H1 d = some (.dT kvs) ∧ ∀ od, R (Itkt d od kvs) (upd H1 d (.frz od (.dT kvs)))
theorem pi_keysT9 {X : Cx} {tg e : Expr} {td : TE} (he : PE X e td) : PI X tg e (iKeysT9 td) := by
  refine ⟨fun pins s σ H R I h => ?_⟩
  refine thn (he.run pins s σ H _ I h) fun u s1 ⟨x, H1, I1, rx, d, kvs, ex, hd, q⟩ => ?_
  subst ex
  obtain rfl : u = Value.ref d := rx
  obtain ⟨od, I2⟩ := I1.lock hd (by trivial)
  obtain ⟨hs, hgd, hx, es, ep, hdt, hsz, ent⟩ := I2.frzT (d := d) upd_same
  refine iter_keys hs hgd hx hdt (pi_one (tk := s1.toks) I2 _ (turn_keysT _ hdt) ⟨_, Heap.get?_push_size _ rfl, rfl, ?_⟩ (q od))
  rw [hsz] <;> rfl
/-- for k in d, the keys of d are plain; d may be locked before -/
def iKeysI9 (td : TE) : TI := fun σ H R => td σ H fun x H1 => ∃ d kvs, x = .ref d ∧ ((∃ od, H1 d = some (.frz od (.dK kvs)) ∧ R (Itk d od kvs) H1) ∨ (H1 d = some (.dK kvs) ∧ ∀ od, R (Itk d od kvs) (upd H1 d (.frz od (.dK kvs)))))
theorem pi_keysI9 {X : Cx} {tg e : Expr} {td : TE} (he : PE X e td) : PI X tg e (iKeysI9 td) := by
  refine ⟨fun pins s σ H R I h => ?_⟩
  refine thn (he.run pins s σ H _ I h) fun u s1 ⟨x, H1, I1, rx, d, kvs, ex, q⟩ => ?_
  subst ex
  obtain rfl : u = Value.ref d := rx
  rcases q with ⟨od, hd, q⟩ | ⟨hd, q⟩
  · obtain ⟨hs, hgd, hx, es, ep, vs, hdt, hsz, kv, hm⟩ := I1.frzK hd
    refine iter_keys hs hgd hx hdt (pi_one (tk := s1.toks) I1 _ (turn_keys _ hdt) ⟨_, Heap.get?_push_size _ rfl, rfl, ?_⟩ q)
    rw [hsz] <;> rfl
  · obtain ⟨od, I2⟩ := I1.lock hd (by trivial)
    obtain ⟨hs, hgd, hx, es, ep, vs, hdt, hsz, kv, hm⟩ := I2.frzK (d := d) upd_same
    refine iter_keys hs hgd hx hdt (pi_one (tk := s1.toks) I2 _ (turn_keys _ hdt) ⟨_, Heap.get?_push_size _ rfl, rfl, ?_⟩ (q od))
    rw [hsz] <;> rfl
end L2
namespace Ovc
open PySem PySem.Spec PyProof.Rows L2
/-! ### methods and classes by their names -/
structure KalM (P : Program) (w : World) (K : PySem.W.Frag) (mg : Str → Option Value) (base : Heap) (k : Nat) (C : Addr) (m : Str) (ps : List Str) (sp : Sp) : Prop where
  ex : ∃ (f : Addr) (fd : FuncData), FnOk P w K mg base CX0 k f fd ps sp ∧ Meth K C m f ∧ Binds K fd ps []
  cl : Cls K C
structure KalMX (P : Program) (w : World) (K : PySem.W.Frag) (mg : Str → Option Value) (base : Heap) (k : Nat) (C : Addr) (m : Str) (ps : List Str) (sp : Sp) : Prop where
  ex : ∃ (f : Addr) (fd : FuncData), FnOk P w K mg base (L2.CX P w) k f fd ps sp ∧ Meth K C m f ∧ Binds K fd ps []
  cl : Cls K C
structure KalC (P : Program) (w : World) (K : PySem.W.Frag) (mg : Str → Option Value) (base : Heap) (k : Nat) (C : Addr) (x : Str) (ps : List Str) (sp : Sp) : Prop where
  ex : ∃ (f : Addr) (fd : FuncData), FnOk P w K mg base CX0 k f fd ps sp ∧ Mk K C f ∧ mg x = some (.ref C) ∧ Binds K fd ps []
/-- a method of the text -/
structure DfM (K : PySem.W.Frag) (C : Addr) (x q : Str) (st : Stmt) (ps : List Str) : Prop where
  ex : ∃ (f : Addr) (fd : FuncData), Fun K x q st f fd ∧ Meth K C x f ∧ Binds K fd ps []
  cl : Cls K C
theorem kalm_of {P : Program} {w : World} {K : PySem.W.Frag} {mg : Str → Option Value} {base : Heap} {k : Nat} {C : Addr} {x q : Str} {st : Stmt} {ps : List Str} {sp : Sp} (A : DfM K C x q st ps)
    (ok : ∀ f fd, Fun K x q st f fd → FnOk P w K mg base CX0 k f fd ps sp) : KalM P w K mg base k C x ps sp := by
  obtain ⟨f, fd, F, m, b⟩ := A.ex
  exact ⟨⟨f, fd, ok f fd F, m, b⟩, A.cl⟩
theorem kalmx_of {P : Program} {w : World} {K : PySem.W.Frag} {mg : Str → Option Value} {base : Heap} {k : Nat} {C : Addr} {x q : Str} {st : Stmt} {ps : List Str} {sp : Sp} (A : DfM K C x q st ps)
    (ok : ∀ f fd, Fun K x q st f fd → FnOk P w K mg base (L2.CX P w) k f fd ps sp) : KalMX P w K mg base k C x ps sp := by
  obtain ⟨f, fd, F, m, b⟩ := A.ex
  exact ⟨⟨f, fd, ok f fd F, m, b⟩, A.cl⟩
section
variable {X : Cx} {k j : Nat} {C : Addr} {x m : Str} {ps : List Str} {sp : Sp} {o e : Expr} {es : List Expr} {ta : TE} {t : TA} {apos pos p : Pos} {E : XK} {W : WX}
/-- o.m(e, ..) -/
theorem pe_m {pl : Sem Bool} (c : KalM X.prog X.w X.K X.mg X.base k C m ps sp) (hr : Room j X.A) (hk : k ≤ j) (he : PE X o ta) (ha : PA X (e :: es) t)
    (hst : starEach (e :: es) X.env = (false, eval e X.env) :: starEach es X.env := by rfl) (hpl : (backTo pos (starEach es X.env)).any (·.1) = false := by rfl)
    (ht : eval (.Call (.Attribute o m apos) (e :: es) [] pos) X.env = (do
      let ov ← eval o X.env
      standAt apos.atName
      let (f, first) ← holding [ov] (getMethod ov m pl)
      callWith pos f first (backTo pos (starEach (e :: es) X.env)) (backToKw pos (keywordEach [] X.env))) := by rfl) :
    PE X (.Call (.Attribute o m apos) (e :: es) [] pos) (tMeth C m sp [] E0 ta t) := by
  obtain ⟨f, fd, F, hm, b⟩ := c.ex
  exact pe_meth he c.cl hm F (hr.mono hk) b .nil pass0 ha hst hpl ht
theorem pe_m0 {pl : Sem Bool} (c : KalM X.prog X.w X.K X.mg X.base k C m ps sp) (hr : Room j X.A) (hk : k ≤ j) (he : PE X o ta)
    (ht : eval (.Call (.Attribute o m apos) [] [] pos) X.env = (do
      let ov ← eval o X.env
      standAt apos.atName
      let (f, first) ← holding [ov] (getMethod ov m pl)
      callWith pos f first (backTo pos (starEach [] X.env)) (backToKw pos (keywordEach [] X.env))) := by rfl) :
    PE X (.Call (.Attribute o m apos) [] [] pos) (tMeth C m sp [] E0 ta tNil) := by
  obtain ⟨f, fd, F, hm, b⟩ := c.ex
  exact pe_meth0 he c.cl hm F (hr.mono hk) b .nil pass0 ht
/-- in a def that may raise -/
theorem pe_mx {pl : Sem Bool} (c : KalMX X.prog X.w X.K X.mg X.base k C m ps sp) (hr : Room j X.A) (hk : k ≤ j) (tk : Takes X (fun cls d _ H => E cls d H)) (he : PE X o ta) (ha : PA X (e :: es) t)
    (hst : starEach (e :: es) X.env = (false, eval e X.env) :: starEach es X.env := by rfl) (hpl : (backTo pos (starEach es X.env)).any (·.1) = false := by rfl)
    (ht : eval (.Call (.Attribute o m apos) (e :: es) [] pos) X.env = (do
      let ov ← eval o X.env
      standAt apos.atName
      let (f, first) ← holding [ov] (getMethod ov m pl)
      callWith pos f first (backTo pos (starEach (e :: es) X.env)) (backToKw pos (keywordEach [] X.env))) := by rfl) :
    PE X (.Call (.Attribute o m apos) (e :: es) [] pos) (tMeth C m sp [] E ta t) := by
  obtain ⟨f, fd, F, hm, b⟩ := c.ex
  exact pe_meth he c.cl hm F (hr.mono hk) b .nil (passes_call tk fun _ _ _ _ h => h) ha hst hpl ht
theorem pe_mx0 {pl : Sem Bool} (c : KalMX X.prog X.w X.K X.mg X.base k C m ps sp) (hr : Room j X.A) (hk : k ≤ j) (tk : Takes X (fun cls d _ H => E cls d H)) (he : PE X o ta)
    (ht : eval (.Call (.Attribute o m apos) [] [] pos) X.env = (do
      let ov ← eval o X.env
      standAt apos.atName
      let (f, first) ← holding [ov] (getMethod ov m pl)
      callWith pos f first (backTo pos (starEach [] X.env)) (backToKw pos (keywordEach [] X.env))) := by rfl) :
    PE X (.Call (.Attribute o m apos) [] [] pos) (tMeth C m sp [] E ta tNil) := by
  obtain ⟨f, fd, F, hm, b⟩ := c.ex
  exact pe_meth0 he c.cl hm F (hr.mono hk) b .nil (passes_call tk fun _ _ _ _ h => h) ht
/-- in a try -/
def tMethT (C : Addr) (m : Str) (sp : Sp) (E : L2.St → XK) (ta : TE) (t : TA) : TE := fun σ H Q => ta σ H fun x H1 => ∃ a dx fs, x = .ref a ∧ H1 a = some (.ins C dx fs) ∧ fs.lookup m = none ∧ t σ H1 fun vs H2 => sp (x :: vs) H2 Q (E σ)
theorem pe_ms {pl : Sem Bool} (c : KalMX X.prog X.w X.K X.mg X.base k C m ps sp) (hr : Room j X.A) (hk : k ≤ j) (tk : Takes X W) (he : PE X o ta) (ha : PA X (e :: es) t)
    (hst : starEach (e :: es) X.env = (false, eval e X.env) :: starEach es X.env := by rfl) (hpl : (backTo pos (starEach es X.env)).any (·.1) = false := by rfl)
    (ht : eval (.Call (.Attribute o m apos) (e :: es) [] pos) X.env = (do
      let ov ← eval o X.env
      standAt apos.atName
      let (f, first) ← holding [ov] (getMethod ov m pl)
      callWith pos f first (backTo pos (starEach (e :: es) X.env)) (backToKw pos (keywordEach [] X.env))) := by rfl) :
    PE X (.Call (.Attribute o m apos) (e :: es) [] pos) (tMethT C m sp (WE W) ta t) := by
  obtain ⟨f, fd, F, hm, b⟩ := c.ex
  refine ⟨fun pins s σ H Q I h => ?_⟩
  refine PySem.W.methodCall_KW (pl := pl) (thn (he.run pins s σ H _ I h) fun u s1 ⟨x, H1, I1, rx, a, dx, fs, ex, ea, l, q⟩ => ?_) ht
  subst ex
  obtain rfl : u = Value.ref a := rx
  refine getmeth_ok I1 ea c.cl hm l ?_
  refine PySem.W.callWith_K (first := [.ref a]) (h₀ := X.base) I.ok.mod.kin hm.kp (thn (ha.run pos pins s1 σ H1 _ I1 q) fun us s2 ⟨vs, H2, I2, r, q2⟩ => ⟨I2.kIn, ?_⟩) hst hpl
  exact run_fnS (us := .ref a :: us) (vs := .ref a :: vs) F (hr.mono hk) b (passAt tk σ) I2 (.cons rfl r) q2
theorem pe_ms0 {pl : Sem Bool} (c : KalMX X.prog X.w X.K X.mg X.base k C m ps sp) (hr : Room j X.A) (hk : k ≤ j) (tk : Takes X W) (he : PE X o ta)
    (ht : eval (.Call (.Attribute o m apos) [] [] pos) X.env = (do
      let ov ← eval o X.env
      standAt apos.atName
      let (f, first) ← holding [ov] (getMethod ov m pl)
      callWith pos f first (backTo pos (starEach [] X.env)) (backToKw pos (keywordEach [] X.env))) := by rfl) :
    PE X (.Call (.Attribute o m apos) [] [] pos) (tMethT C m sp (WE W) ta tNil) := by
  obtain ⟨f, fd, F, hm, b⟩ := c.ex
  refine ⟨fun pins s σ H Q I h => ?_⟩
  refine PySem.W.methodCall_KW (pl := pl) (thn (he.run pins s σ H _ I h) fun u s1 ⟨x, H1, I1, rx, a, dx, fs, ex, ea, l, q⟩ => ?_) ht
  subst ex
  obtain rfl : u = Value.ref a := rx
  refine getmeth_ok I1 ea c.cl hm l ?_
  exact PySem.W.callWith_K0 (first := [.ref a]) I1.kIn hm.kp (run_fnS (us := [.ref a]) (vs := [.ref a]) F (hr.mono hk) b (passAt tk σ) I1 (.cons rfl .nil) q)
/-- C(e, ..) -/
theorem pe_mk (c : KalC X.prog X.w X.K X.mg X.base k C x ps sp) (hr : Room j X.A) (hk : k + 1 ≤ j) (hg : Gl X x) (ha : PA X (e :: es) t)
    (hdb : (x == ("__debug__" : Str)) = false := by decide) (he : starEach (e :: es) X.env = (false, eval e X.env) :: starEach es X.env := by rfl) (hpl : (backTo pos (starEach es X.env)).any (·.1) = false := by rfl) :
    PE X (.Call (.Name x p) (e :: es) [] pos) (tMake C sp [] E0 t) := by
  obtain ⟨f, fd, F, M, hm, b⟩ := c.ex
  exact pe_make M F (hr.mono hk) hg hm b .nil pass0 ha hdb he hpl
end
end Ovc
namespace L2
open PySem PySem.Spec PyProof.Rows
/-- for k in d, the keys of d are tuples; d may be locked before -/
def iKeysTF (td : TE) : TI := fun σ H R => td σ H fun x H1 => ∃ d kvs, x = .ref d ∧ ((∃ od, H1 d = some (.frz od (.dT kvs)) ∧ R (Itkt d od kvs) H1) ∨ (H1 d = some (.dT kvs) ∧ ∀ od, R (Itkt d od kvs) (upd H1 d (.frz od (.dT kvs)))))
theorem pi_keysTF {X : Cx} {tg e : Expr} {td : TE} (he : PE X e td) : PI X tg e (iKeysTF td) := by
  refine ⟨fun pins s σ H R I h => ?_⟩
  refine thn (he.run pins s σ H _ I h) fun u s1 ⟨x, H1, I1, rx, d, kvs, ex, q⟩ => ?_
  subst ex
  obtain rfl : u = Value.ref d := rx
  rcases q with ⟨od, hd, q⟩ | ⟨hd, q⟩
  · obtain ⟨hs, hgd, hx, es, ep, hdt, hsz, ent⟩ := I1.frzT hd
    refine iter_keys hs hgd hx hdt (pi_one (tk := s1.toks) I1 _ (turn_keysT _ hdt) ⟨_, Heap.get?_push_size _ rfl, rfl, ?_⟩ q)
    rw [hsz] <;> rfl
  · obtain ⟨od, I2⟩ := I1.lock hd (by trivial)
    obtain ⟨hs, hgd, hx, es, ep, hdt, hsz, ent⟩ := I2.frzT (d := d) upd_same
    refine iter_keys hs hgd hx hdt (pi_one (tk := s1.toks) I2 _ (turn_keysT _ hdt) ⟨_, Heap.get?_push_size _ rfl, rfl, ?_⟩ (q od))
    rw [hsz] <;> rfl
end L2
namespace Ovc
open PySem PySem.Spec PyProof.Rows L2
/-! ### a heap without some addresses -/
def buts (as : List Addr) (H : Hp) : Hp := fun b => if b ∈ as then none else H b
section
variable {as : List Addr} {H H' G : Hp} {a b : Addr} {u : HO}
theorem buts_at (h : b ∈ as) : buts as H b = none := if_pos h
theorem buts_ne (h : b ∉ as) : buts as H b = H b := if_neg h
theorem buts_no (h : buts as H b = some u) : b ∉ as ∧ H b = some u := by
  by_cases c : b ∈ as
  · rw [buts_at c] at h
    cases h
  · rw [buts_ne c] at h
    exact ⟨c, h⟩
theorem buts_same : Same (buts as H) H := fun b u h => (buts_no h).2
theorem buts_mono (s : Same H H') : Same (buts as H) (buts as H') := fun b u h => by
  obtain ⟨n, e⟩ := buts_no h
  rw [buts_ne n]
  exact s _ _ e
theorem buts_upd (h : a ∈ as) : buts as (upd H a u) = buts as H := by
  funext b
  by_cases c : b ∈ as
  · rw [buts_at c, buts_at c]
  · rw [buts_ne c, buts_ne c, upd_ne fun e => c (by rw [e]; exact h)]
theorem same_buts (s : Same G H) (h : ∀ a, a ∈ as → G a = none) : Same G (buts as H) := fun b u e => by
  by_cases c : b ∈ as
  · rw [h b c] at e
    cases e
  · rw [buts_ne c]
    exact s _ _ e
theorem buts_sub {bs : List Addr} (h : ∀ a, a ∈ as → a ∈ bs) : Same (buts bs H) (buts as H) := fun b u e => by
  obtain ⟨n, e⟩ := buts_no e
  rw [buts_ne fun c => n (h b c)]
  exact e
theorem buts_cons : buts (a :: as) H = but (buts as H) a := by
  funext b
  by_cases c : b = a
  · rw [c, but_at, buts_at List.mem_cons_self]
  · rw [but_ne c]
    by_cases c2 : b ∈ as
    · rw [buts_at c2, buts_at (List.mem_cons_of_mem _ c2)]
    · rw [buts_ne c2, buts_ne fun h => (List.mem_cons.mp h).elim c c2]
end
/-! ### fields by their names -/
def sesN : List Str := ["_n", "_order", "_ends", "_links", "_pairs", "_above", "_lower", "_prices", "_middles", "_looked", "_undos"]
def fldZ (ks : List Str) (vs : List V) : List (Str × V) := ks.zip vs
theorem fldZ_get {k : Str} : ∀ {ks : List Str} {vs : List V} {i : Nat}, ks.findIdx? (fun x => decide (x = k)) = some i → (fldZ ks vs).lookup k = vs[i]?
  | [], vs, i, h => by cases h
  | x :: ks, [], i, h => by
    show none = _
    rw [List.getElem?_nil]
  | x :: ks, v :: vs, i, h => by
    rw [List.findIdx?_cons] at h
    show ((x, v) :: fldZ ks vs).lookup k = _
    rw [List.lookup_cons]
    by_cases c : x = k
    · rw [decide_eq_true c, if_pos rfl] at h
      cases h
      rw [show (k == x) = true by rw [c]; exact beq_self_eq_true k]
      rfl
    · rw [decide_eq_false c, if_neg Bool.false_ne_true] at h
      obtain ⟨j, hj, rfl⟩ := Option.map_eq_some_iff.mp h
      rw [show (k == x) = false from beq_eq_false_iff_ne.mpr fun e => c e.symm]
      exact fldZ_get hj
theorem fldZ_no {k : Str} : ∀ {ks : List Str} {vs : List V}, ks.findIdx? (fun x => decide (x = k)) = none → (fldZ ks vs).lookup k = none
  | [], vs, h => rfl
  | x :: ks, [], h => rfl
  | x :: ks, v :: vs, h => by
    rw [List.findIdx?_cons] at h
    show ((x, v) :: fldZ ks vs).lookup k = _
    rw [List.lookup_cons]
    by_cases c : x = k
    · rw [decide_eq_true c, if_pos rfl] at h
      cases h
    · rw [decide_eq_false c, if_neg Bool.false_ne_true] at h
      rw [show (k == x) = false from beq_eq_false_iff_ne.mpr fun e => c e.symm]
      exact fldZ_no (Option.map_eq_none_iff.mp h)
theorem fldZ_put {k : Str} {v : V} : ∀ {ks : List Str} {vs : List V} {i : Nat}, ks.findIdx? (fun x => decide (x = k)) = some i → i < vs.length → putF k v (fldZ ks vs) = fldZ ks (vs.set i v)
  | [], vs, i, h, _ => by cases h
  | x :: ks, [], i, h, hl => absurd hl (Nat.not_lt_zero _)
  | x :: ks, y :: vs, i, h, hl => by
    rw [List.findIdx?_cons] at h
    show (if x = k then (x, v) :: fldZ ks vs else (x, y) :: putF k v (fldZ ks vs)) = _
    by_cases c : x = k
    · rw [decide_eq_true c, if_pos rfl] at h
      cases h
      rw [if_pos c]
      rfl
    · rw [decide_eq_false c, if_neg Bool.false_ne_true] at h
      obtain ⟨j, hj, rfl⟩ := Option.map_eq_some_iff.mp h
      rw [if_neg c, fldZ_put hj (Nat.lt_of_succ_lt_succ hl)]
      rfl
/-- one more field -/
theorem fldZ_new {k : Str} {v : V} : ∀ {ks : List Str} {vs : List V}, ks.findIdx? (fun x => decide (x = k)) = none → ks.length = vs.length → putF k v (fldZ ks vs) = fldZ (ks ++ [k]) (vs ++ [v])
  | [], [], h, _ => rfl
  | [], _ :: _, _, hl => by cases hl
  | _ :: _, [], _, hl => by cases hl
  | x :: ks, y :: vs, h, hl => by
    rw [List.findIdx?_cons] at h
    show (if x = k then (x, v) :: fldZ ks vs else (x, y) :: putF k v (fldZ ks vs)) = _
    by_cases c : x = k
    · rw [decide_eq_true c, if_pos rfl] at h
      cases h
    · rw [decide_eq_false c, if_neg Bool.false_ne_true] at h
      rw [if_neg c, fldZ_new (Option.map_eq_none_iff.mp h) (Nat.succ.inj hl)]
      rfl
/-! ### what a session is -/
structure SesA where
  p : Addr
  dx : Addr
  lk : Addr
  pr : Addr
  mi : Addr
  un : Addr
  lo : Addr
  us : List Addr
def SesA.m (A : SesA) : List Addr := [A.p, A.lk, A.pr, A.mi, A.un]
structure SesS where
  n : Int
  es : List (Int × Int)
  os : List Int
  lk : Int → Int → Option Int
  rows : List Row
  look : List (Int × Int)
  und : List (List ((Int × Int) × Option Int))
def SesS.N (S : SesS) : Net := ⟨S.n, netL S.es S.lk⟩
noncomputable def SesS.L (S : SesS) : List (Int × Int) := pairsL S.N.ls S.os
noncomputable def SesS.W (S : SesS) : List (Int × Int) := wysL S.L
def sesV (S : SesS) (A : SesA) (ro en pa ab lkd : Addr) : List V := [.int S.n, .ref ro, .ref en, .ref A.lk, .ref pa, .ref ab, .ref A.lo, .ref A.pr, .ref A.mi, .ref lkd, .ref A.un]
/-- what is never changed: the order, the links, the pairs, the upper neighbours, the lower places -/
structure SesI (G : Hp) (ls : List Lnk) (es : List (Int × Int)) (os : List Int) (ro en pa ab lo : Addr) : Prop where
  ro : G ro = some (.lst (os.map V.int))
  en : ∃ ts, G en = some (.lst ts) ∧ TupsAt G ts es
  pa : ∃ ts, G pa = some (.lst ts) ∧ TupsAt G ts (pairsL ls os)
  ab : ∃ kvs : List (L2.Key × V), G ab = some (.dK kvs) ∧ ∀ w, w ∈ os → ∃ a, valV kvs (.inl w) = some (.ref a) ∧ G a = some (.lst ((upP ls os w).map V.int))
  lo : ∃ kvs : List (List L2.Key × V), G lo = some (.dT kvs) ∧ ∀ u v, (u, v) ∈ pairsL ls os → ∃ a, valV kvs (K2 (u, v)) = some (.ref a) ∧ G a = some (.lst ((lowerL (pairsL ls os) os u v).map V.int))
theorem SesI.to {G G' : Hp} {ls : List Lnk} {es : List (Int × Int)} {os : List Int} {ro en pa ab lo : Addr} (h : SesI G ls es os ro en pa ab lo) (s : Same G G') : SesI G' ls es os ro en pa ab lo :=
  ⟨s _ _ h.ro, let ⟨ts, e1, e2⟩ := h.en; ⟨ts, s _ _ e1, e2.to s⟩, let ⟨ts, e1, e2⟩ := h.pa; ⟨ts, s _ _ e1, e2.to s⟩,
    let ⟨kvs, e1, e2⟩ := h.ab; ⟨kvs, s _ _ e1, fun w hw => let ⟨a, k1, k2⟩ := e2 w hw; ⟨a, k1, s _ _ k2⟩⟩, let ⟨kvs, e1, e2⟩ := h.lo; ⟨kvs, s _ _ e1, fun u v hm => let ⟨a, k1, k2⟩ := e2 u v hm; ⟨a, k1, s _ _ k2⟩⟩⟩
theorem SesI.ends {G : Hp} {ls ls' : List Lnk} {es : List (Int × Int)} {os : List Int} {ro en pa ab lo : Addr} (h : SesI G ls es os ro en pa ab lo) (e : endsL ls' = endsL ls) : SesI G ls' es os ro en pa ab lo :=
  ⟨h.ro, h.en, by rw [pairsL_ends e]; exact h.pa, let ⟨kvs, e1, e2⟩ := h.ab; ⟨kvs, e1, fun w hw => by rw [upP_ends e]; exact e2 w hw⟩, by rw [pairsL_ends e]; exact h.lo⟩
/-- the prices of the links, by the ways -/
structure LkD (kvs : List (List L2.Key × V)) (es : List (Int × Int)) (f : Int → Int → Option Int) : Prop where
  len : kvs.length ≤ 2 * es.length
  at_ : ∀ x y, valV kvs (K2 (x, y)) = if (x, y) ∈ wysL es then some (oV (f x y)) else none
/-- numbers of ways -/
structure WyD (kvs : List (List L2.Key × V)) (W : List (Int × Int)) (f : Int → Int → Option Int) : Prop where
  len : kvs.length ≤ 4000
  at_ : ∀ x y, (x, y) ∈ W → valV kvs (K2 (x, y)) = some (oV (f x y))
/-- the prices of ways that a call set -/
def undK (u : List ((Int × Int) × Option Int)) : List (List L2.Key × V) := u.map fun z => (K2 z.1, oV z.2)
structure UOk (es : List (Int × Int)) (u : List ((Int × Int) × Option Int)) : Prop where
  nd : (u.map (·.1)).Nodup
  mem : ∀ z, z ∈ u → z.1 ∈ wysL es ∧ PriceOk z.2
inductive UnAt (G : Hp) : List Addr → List (List ((Int × Int) × Option Int)) → Prop
  | nil : UnAt G [] []
  | cons {a : Addr} {as : List Addr} {u : List ((Int × Int) × Option Int)} {us : List (List ((Int × Int) × Option Int))} : Rd G a (.dT (undK u)) → UnAt G as us → UnAt G (a :: as) (u :: us)
theorem rd_to {H H' : Hp} {a : Addr} {u : HO} (h : Rd H a u) (s : Same H H') : Rd H' a u := h.imp (s _ _) fun ⟨o, e⟩ => ⟨o, s _ _ e⟩
theorem UnAt.to {G G' : Hp} {as : List Addr} {us : List (List ((Int × Int) × Option Int))} (h : UnAt G as us) (s : Same G G') : UnAt G' as us := by
  induction h with
  | nil => exact .nil
  | cons h _ ih => exact .cons (rd_to h s) ih
theorem UnAt.len {G : Hp} {as : List Addr} {us : List (List ((Int × Int) × Option Int))} (h : UnAt G as us) : as.length = us.length := by
  induction h with
  | nil => rfl
  | cons _ _ ih => rw [List.length_cons, List.length_cons, ih]
theorem UnAt.snoc {G : Hp} {as : List Addr} {us : List (List ((Int × Int) × Option Int))} {a : Addr} {u : List ((Int × Int) × Option Int)} (h : UnAt G as us) (k : Rd G a (.dT (undK u))) : UnAt G (as ++ [a]) (us ++ [u]) := by
  induction h with
  | nil => exact .cons k .nil
  | cons h _ ih => exact .cons h ih
structure SesAt (CS : Addr) (H : Hp) (A : SesA) (S : SesS) : Prop where
  ok : NetOk S.N
  eok : EndsOk S.n S.es
  pok : ∀ x y, PriceOk (S.lk x y)
  oo : OrdOk S.n S.os
  fl : FillOk S.N S.os S.rows
  nd : A.m.Nodup
  nlo : A.lo ∉ A.us
  im : ∃ ro en pa ab lkd, H A.p = some (.ins CS A.dx (fldZ sesN (sesV S A ro en pa ab lkd))) ∧ SesI (buts A.m H) S.N.ls S.es S.os ro en pa ab A.lo ∧ ∃ ts, buts A.m H lkd = some (.lst ts) ∧ TupsAt (buts A.m H) ts S.look
  lk : ∃ kvs, H A.lk = some (.dT kvs) ∧ LkD kvs S.es S.lk
  pr : ∃ kvs, H A.pr = some (.dT kvs) ∧ WyD kvs S.W fun x y => (wv S.rows x y).1
  mi : ∃ kvs, H A.mi = some (.dT kvs) ∧ WyD kvs S.W fun x y => (wv S.rows x y).2
  un : H A.un = some (.lst (A.us.map V.ref))
  ud : UnAt (buts A.m H) A.us S.und
  uok : ∀ u, u ∈ S.und → UOk S.es u
theorem SesAt.to {CS : Addr} {H H' : Hp} {A : SesA} {S : SesS} (h : SesAt CS H A S) (s : Same H H') : SesAt CS H' A S := by
  have sb := buts_mono (as := A.m) s
  obtain ⟨ro, en, pa, ab, lkd, e1, e2, ts, e3, e4⟩ := h.im
  exact ⟨h.ok, h.eok, h.pok, h.oo, h.fl, h.nd, h.nlo, ⟨ro, en, pa, ab, lkd, s _ _ e1, e2.to sb, ts, sb _ _ e3, e4.to sb⟩, let ⟨k, e, d⟩ := h.lk; ⟨k, s _ _ e, d⟩, let ⟨k, e, d⟩ := h.pr; ⟨k, s _ _ e, d⟩, let ⟨k, e, d⟩ := h.mi; ⟨k, s _ _ e, d⟩, s _ _ h.un, h.ud.to sb, h.uok⟩
end Ovc
namespace Ovc
open PySem PySem.Spec PyProof.Rows L2
/-! ### looked, net, filling, price, road -/
abbrev sSLooked : Stmt := inClass (topS 28) 4
abbrev sSNet : Stmt := inClass (topS 28) 5
theorem scSLooked : FnScope ["self"] ["self"] (defScope sSLooked) := ⟨rfl, rfl, rfl, by decide +kernel, rfl, by decide +kernel, by decide +kernel⟩
theorem scSNet : FnScope ["self", "links", "a", "b"] ["self"] (defScope sSNet) := ⟨rfl, rfl, rfl, by decide +kernel, rfl, by decide +kernel, by decide +kernel⟩
def spSLooked (K : PySem.W.Frag) (CS : Addr) : Sp := fun vs H Q _ => ∃ (A : SesA) (S : SesS), vs = [.ref A.p] ∧ SesAt CS H A S ∧ ∀ H' q ts, Same H H' → H q = none → H' q = some (.lst ts) → TupsAt (but H' q) ts S.look → Q (.ref q) H'
def spSNet (K : PySem.W.Frag) (CS : Addr) : Sp := fun vs H Q _ => ∃ (A : SesA) (S : SesS), vs = [.ref A.p] ∧ SesAt CS H A S ∧ ∀ H' p q ts, Same H H' → H p = none → H q = none → H' p = some (.tup [.int S.n, .ref q]) → H' q = some (.lst ts) → DpAll K (but H' q) ts (S.N.ls.map lnkD) → Q (.ref p) H'
def spSFilling (K : PySem.W.Frag) (CS : Addr) : Sp := fun vs H Q _ => ∃ (A : SesA) (S : SesS), vs = [.ref A.p] ∧ SesAt CS H A S ∧ ∀ H' q ts, Same H H' → H q = none → H' q = some (.lst ts) → DpAll K (but H' q) ts (S.rows.map rowD) → Q (.ref q) H'
/-- what the top has made of the class -/
structure SesT (K : PySem.W.Frag) (CS : Addr) : Prop where
  cl : Cls K CS
  no : ∀ f, f ∈ sesN → NoAttr K CS f
theorem vl_ses {K : PySem.W.Frag} {CS : Addr} (T : SesT K CS) {σ : L2.St} {H : Hp} {te : TE} {p dx : Addr} {vs : List V} {f : Str} {v : V} (i : Nat) (h : H p = some (.ins CS dx (fldZ sesN vs))) (hx : Vl te σ H (.ref p)) (hv : vs[i]? = some v) (hi : sesN.findIdx? (fun x => decide (x = f)) = some i) (hm : f ∈ sesN) : Vl (tFld K te f) σ H v :=
  fun Q q => hx _ ⟨p, CS, dx, _, v, rfl, h, T.cl, T.no f hm, by rw [fldZ_get hi]; exact hv, q⟩
theorem TupsAt.dps {K : PySem.W.Frag} {H : Hp} {ts : List V} {L : List (Int × Int)} (h : TupsAt H ts L) : DpAll K H ts (L.map pairD2) := h.dp
theorem SesAt.kget {CS : Addr} {H : Hp} {A : SesA} {S : SesS} (h : SesAt CS H A S) {x y : Int} (hm : (x, y) ∈ wysL S.es) : ∃ kvs, H A.lk = some (.dT kvs) ∧ valV kvs (K2 (x, y)) = some (oV (S.lk x y)) := by
  obtain ⟨k, e, d⟩ := h.lk
  exact ⟨k, e, by rw [d.at_, if_pos hm]⟩
/-- d[a, b] -/
theorem vn_dget2 {σ : L2.St} {H : Hp} {td ta tb : TE} {o : Addr} {x y : Int} {kvs : List (List L2.Key × V)} {v : V} (ho : Vl td σ H (.ref o)) (ha : ∀ H', Same H H' → Vl ta σ H' (.int x)) (hb : ∀ H', Same H H' → Vl tb σ H' (.int y)) (hd : H o = some (.dT kvs)) (hv : valV kvs (K2 (x, y)) = some v) : Ve (tDGet td (tTup (tCons ta (tCons tb tNil)))) σ H v := fun Q q =>
  ho _ (ha H (Same.refl _) _ (hb H (Same.refl _) _ ⟨by show 2 ≤ sizeLine; decide, fun T nT => ⟨o, v, rfl, by
    have := DGet.t (k := K2 (x, y)) (same_upd (o := .tup [.int x, .int y]) nT _ _ hd) upd_same
    rw [hv] at this
    exact this, q _ (same_upd nT)⟩⟩))
theorem yes_nowS {σ : L2.St} {H : Hp} {Q : Bool → Hp → Prop} (h : Q true H) : tYes σ H Q := h
theorem g_retTupS {σ : L2.St} {H : Hp} {D : Ends} {tr : TA} {vs : List V} (h : Va tr σ H vs) (hz : vs.length ≤ sizeLine) (k : ∀ T, H T = none → D.rt (.ref T) (upd H T (.tup vs))) : tRet (tTup tr) D σ H := h _ ⟨hz, k⟩
/-- for i, j in xs, a list of tuples of two ints -/
theorem q_forP2 {K : PySem.W.Frag} {σ : L2.St} {H : Hp} {D : Ends} {tz tw : TS} {tl : TE} {i1 i2 : Nat} {a : Addr} {ts : List V} {L : List (Int × Int)} (hl : Vl tl σ H (.ref a)) (hs : SqL K H a ts) (Pv : Nat → L2.St → Hp → Prop) (h0 : Pv 0 σ H) (hI : ∀ i σ' H', Pv i σ' H' → SqL K H' a ts ∧ TupsAt H' ts L)
    (step : ∀ i u v σ' H', L[i]? = some (u, v) → Pv i σ' H' → tz { D with nx := Pv (i + 1), ct := Pv (i + 1), bk := tw D } ((σ'.set i1 (some (.int u))).set i2 (some (.int v))) H') (hd : ∀ σ' H', Pv L.length σ' H' → tw D σ' H') :
    tSeq (tFor (iList K tl) (gTup K 2 (gCons (gName i1) (gCons (gName i2) gNil))) tz) tw D σ H := by
  have ln : ts.length = L.length := (hI 0 _ _ h0).2.len
  refine hl _ ⟨a, rfl, ⟨_, hs⟩, for_list (D := { D with nx := tw D }) (xs := ts) Pv h0 (fun i σ' H' _ p => (hI i σ' H' p).1) (fun i x σ' H' hi p => ?_) (fun σ' H' p => hd σ' H' (by rw [← ln]; exact p))⟩
  have il := (List.getElem?_eq_some_iff.mp hi).1
  have hg : L[i]? = some (L[i]'(by omega)) := List.getElem?_eq_getElem (by omega)
  generalize L[i]'(by omega) = z at hg
  obtain ⟨u, v⟩ := z
  obtain ⟨t, k1, k2⟩ := (hI i σ' H' p).2.at_ i u v hg
  cases hi.symm.trans k1
  exact ⟨t, _, rfl, .of k2, rfl, _, _, rfl, _, _, rfl, rfl, step i u v σ' H' hg p⟩
/-- [e for g in xs] -/
theorem lc_inS {K : PySem.W.Frag} {σ : L2.St} {H : Hp} {tl te : TE} {g : TG} {tt : TT} {vs : List Nat} {a : Addr} {xs : List V} {Q : VK} (hl : Vl tl σ H (.ref a)) (hs : SqL K H a xs) (I : Addr → Nat → Hp → Prop) (h0 : ∀ D, H D = none → I D 0 (upd H D (.lst []))) (hI : ∀ D i H', I D i H' → SqL K H' a xs)
    (step : ∀ D i x H', H D = none → xs[i]? = some x → I D i H' → g x (wipe σ vs) H' fun σ2 H2 => wipe σ2 vs = wipe σ vs ∧ tt σ2 H2 fun b H3 => if b = true then te σ2 H3 fun y H4 => ∃ acc, H4 D = some (.lst acc) ∧ acc.length < sizeLine ∧ I D (i + 1) (upd H4 D (.lst (acc ++ [y]))) else I D (i + 1) H3)
    (done : ∀ D H', H D = none → I D xs.length H' → Q (.ref D) H') : tLc (iList K tl) g tt te vs σ H Q :=
  hl _ ⟨a, rfl, ⟨_, hs⟩, fun D nD => lc_list (K := K) (a := a) (xs := xs) (I D) (h0 D nD) (fun i H' _ hP => hI D i H' hP) (fun i x H2 hi hP => step D i x H2 nD hi hP) (fun H2 hP => done D H2 nD hP)⟩
section
variable {P : Program} {w : World} {K : PySem.W.Frag} {mg : Str → Option Value} {base : Heap} {CS : Addr}
theorem ok_sLooked {f : Addr} {fd : FuncData} {k : Nat} (F : Fun K "looked" "Session.looked" sSLooked f fd) (T : SesT K CS) (mL : mg "list" = none) : FnOk P w K mg base CX0 (k + 1) f fd ["self"] (spSLooked K CS) := by
  refine F.ok scSLooked (fun vs H Q E h => ?_) (fun cdv A outer s H vs Q E hr h => ?_)
  · obtain ⟨A, S, rfl, _⟩ := h
    rfl
  · obtain ⟨A, S, rfl, hS, q⟩ := h
    refine ⟨_, pss_one (ps_ret (pe_callTy call_list_of (by rfl) mL (by decide +kernel) (pa_cons (pe_fld (pv 0) rfl) pa_nil))), ?_⟩
    obtain ⟨ro, en, pa, ab, lkd, e1, e2, ts, e3, e4⟩ := hS.im
    exact (vl_ses T 9 e1 (vl_var rfl) rfl (by decide +kernel) (by decide +kernel)) _ ⟨lkd, ts, rfl, .inl (.of (buts_same _ _ e3)), fun l nl => q _ l ts (same_upd nl) nl upd_same (e4.to (buts_same.trans (same_but (same_upd nl) nl)))⟩
theorem ok_sNet {f : Addr} {fd : FuncData} {k : Nat} (F : Fun K "net" "Session.net" sSNet f fd) (T : SesT K CS) : FnOk P w K mg base CX0 (k + 1) f fd ["self"] (spSNet K CS) := by
  refine F.ok scSNet (fun vs H Q E h => ?_) (fun cdv A outer s H vs Q E hr h => ?_)
  · obtain ⟨A, S, rfl, _⟩ := h
    rfl
  · obtain ⟨A, S, rfl, hS, q⟩ := h
    have hu := hu_of hr
    refine ⟨_, pss_cons (ps_setLc (i := 1) (own := [("a", 2), ("b", 3)]) (g := gTup K 2 (gCons (gName 2) (gCons (gName 3) (gNil)))) (tt := tYes) (te := (tTup (tCons (tVar 2) (tCons (tVar 3) (tCons (tDGet (tFld K (tVar 0) "_links") (tTup (tCons (tVar 2) (tCons (tVar 3) tNil)))) (tCons (tDGet (tFld K (tVar 0) "_links") (tTup (tCons (tVar 3) (tCons (tVar 2) tNil)))) tNil)))))) (by rfl) scSNet.nd rfl rfl (sw_true rfl rfl rfl (by decide +kernel)) (pi_list (pe_fld (pv 0) rfl)) (blkOk_by (own := [("a", 2), ("b", 3)]) (N := ["self", "links", "a", "b"]) (sc := defScope sSNet) (by decide +kernel)) (fun _ _ _ _ _ => pg_tup rfl (pgs_cons (pg_name (i := 2) scSNet.nd rfl (Or.inl rfl)) (pgs_cons (pg_name (i := 3) scSNet.nd rfl (Or.inl rfl)) pgs_nil))) (fun _ _ _ _ _ => by exact pts_nil) (fun _ _ _ _ _ => by exact (pe_tup (pa_cons (pv 2) (pa_cons (pv 3) (pa_cons (pe_dget hu (pe_fld (pv 0) rfl) (pe_tup (pa_cons (pv 2) (pa_cons (pv 3) pa_nil))) (fun _ _ => rfl)) (pa_cons (pe_dget hu (pe_fld (pv 0) rfl) (pe_tup (pa_cons (pv 3) (pa_cons (pv 2) pa_nil))) (fun _ _ => rfl)) pa_nil)))))))
      (pss_one (ps_ret (pe_tup (pa_cons (pe_fld (pv 0) rfl) (pa_cons (pv 1) pa_nil))))), ?_⟩
    obtain ⟨ro, en, pa, ab, lkd, e1, e2, ts, e3, e4⟩ := hS.im
    obtain ⟨te, g1, g2⟩ := e2.en
    have el := S.es.length
    have hen : ∀ H', Same H H' → ∀ σ : L2.St, σ[0]? = some (some (.ref A.p)) → Vl (tFld K (tVar 0) "_ends") σ H' (.ref en) := fun H' s' σ e => vl_ses T 2 (s' _ _ e1) (vl_var e) rfl (by decide +kernel) (by decide +kernel)
    have hlk : ∀ H', Same H H' → ∀ σ : L2.St, σ[0]? = some (some (.ref A.p)) → Vl (tFld K (tVar 0) "_links") σ H' (.ref A.lk) := fun H' s' σ e => vl_ses T 3 (s' _ _ e1) (vl_var e) rfl (by decide +kernel) (by decide +kernel)
    refine q_asgE (lc_inS (K := K) (xs := te) (hen H (Same.refl _) _ rfl) (.of (buts_same _ _ g1)) (fun D i H' => ∃ ts', H' D = some (.lst ts') ∧ Same H (but H' D) ∧ ts'.length = i ∧ DpAll K (but H' D) ts' ((netL (S.es.take i) S.lk).map lnkD))
      (fun D nD => ⟨[], upd_same, same_but (same_upd nD) nD, rfl, .nil⟩) (fun D i H' hI => .of (but_same _ _ (hI.choose_spec.2.1 _ _ (buts_same _ _ g1)))) (fun D i y H2 nD hi hP => ?_) (fun D H2 nD hP => ?_))
    · obtain ⟨ts', hD, sD, ln, hT'⟩ := hP
      have il := (List.getElem?_eq_some_iff.mp hi).1
      rw [g2.len] at il
      have hg : S.es[i]? = some (S.es[i]'il) := List.getElem?_eq_getElem il
      generalize S.es[i]'il = z at hg
      obtain ⟨u, v⟩ := z
      obtain ⟨t, k1, k2⟩ := g2.at_ i u v hg
      cases hi.symm.trans k1
      have s2 := sD.trans but_same
      have hm := List.mem_of_getElem? hg
      obtain ⟨kvs, ek, ev1⟩ := hS.kget (x := u) (y := v) (mem_wys.mpr (.inl hm))
      obtain ⟨kvs2, ek2, ev2⟩ := hS.kget (x := v) (y := u) (mem_wys.mpr (.inr hm))
      cases ek.symm.trans ek2
      refine ⟨t, _, rfl, .of (s2 _ _ (buts_same _ _ k2)), rfl, _, _, rfl, _, _, rfl, rfl, rfl, ?_⟩
      refine yes_nowS ?_
      rw [if_pos rfl]
      refine ⟨.int u, rfl, .int v, rfl, (vn_dget2 (hlk H2 s2 _ rfl) (fun _ _ => vl_var rfl) (fun _ _ => vl_var rfl) (s2 _ _ ek) ev1) _ fun H3 s3 => (vn_dget2 (hlk H3 (s2.trans s3) _ rfl) (fun _ _ => vl_var rfl) (fun _ _ => vl_var rfl) ((s2.trans s3) _ _ ek) ev2) _ fun H4 s4 => ⟨by show 4 ≤ sizeLine; decide, fun T nT => ⟨ts', ?_, ?_, ts' ++ [.ref T], upd_same, ?_, ?_, ?_⟩⟩⟩
      · exact same_upd nT _ _ (s4 _ _ (s3 _ _ hD))
      · have := hS.eok.len
        exact Nat.lt_of_le_of_lt (m := 1600) (by omega) (by decide)
      · rw [but_upd]
        exact sD.trans (but_mono ((s3.trans s4).trans (same_upd nT)))
      · rw [List.length_append, ln]
        rfl
      · rw [but_upd]
        have TD : T ≠ D := fun z => by
          rw [z, s4 _ _ (s3 _ _ hD)] at nT
          cases nT
        have e : (netL (S.es.take (i + 1)) S.lk).map lnkD = (netL (S.es.take i) S.lk).map lnkD ++ [lnkD ⟨u, v, S.lk u v, S.lk v u⟩] := by
          rw [wtake_snoc hg]
          unfold netL
          rw [List.map_append, List.map_append]
          rfl
        rw [e]
        exact DpAll.app (DpAll.to hT' (but_mono ((s3.trans s4).trans (same_upd nT)))) (.cons (Dp.lnk (.of (by rw [but_ne TD]; exact upd_same))) .nil)
    · obtain ⟨ts', hD, sD, ln, hT'⟩ := hP
      rw [g2.len, List.take_length] at hT'
      refine g_retTupS (va_cons (vl_ses T 0 (but_same _ _ (sD _ _ e1)) (vl_var rfl) rfl (by decide +kernel) (by decide +kernel)) (va_cons (vl_var rfl) va_nil)) (by show 2 ≤ sizeLine; decide) fun p np => ?_
      have pD : p ≠ D := fun z => by
        rw [z, hD] at np
        cases np
      have nD2 : H p = none := by
        cases e : H p with
        | none => rfl
        | some u =>
          have := but_same _ _ (sD _ _ e)
          rw [np] at this
          cases this
      exact q _ p D ts' ((sD.trans but_same).trans (same_upd np)) nD2 nD upd_same (same_upd np _ _ hD) (DpAll.to hT' (but_mono (same_upd np)))
end
/-! ### filling -/
abbrev sSFilling : Stmt := inClass (topS 28) 6
theorem scSFilling : FnScope ["self", "rows", "low", "high", "up", "down", "prices", "middles"] ["self"] (defScope sSFilling) := ⟨rfl, rfl, rfl, by decide +kernel, rfl, by decide +kernel, by decide +kernel⟩
theorem SesAt.row {CS : Addr} {H : Hp} {A : SesA} {S : SesS} (h : SesAt CS H A S) {i : Nat} {u v : Int} (hi : S.L[i]? = some (u, v)) : ∃ r, S.rows[i]? = some r ∧ r.u = u ∧ r.v = v ∧ wv S.rows u v = (r.up, r.um) ∧ wv S.rows v u = (r.dn, r.dm) := by
  have hp : S.rows.map prOf = S.L := h.fl.mapP
  rw [← hp, List.getElem?_map] at hi
  obtain ⟨r, hr, e⟩ := Option.map_eq_some_iff.mp hi
  cases e
  have hm : (r.u, r.v) ∈ S.rows.map prOf := List.mem_map.mpr ⟨r, List.mem_of_getElem? hr, rfl⟩
  have hmL : (r.u, r.v) ∈ S.L := by rw [← hp]; exact hm
  obtain ⟨r', e', hr', e1, e2⟩ := find_some hm
  have nd : S.L.Nodup := pairsL_nodup h.oo
  obtain ⟨j, hj⟩ := List.mem_iff_getElem?.mp hr'
  have ji : j = i := by
    have a1 : S.L[j]? = some (r.u, r.v) := by rw [← hp, List.getElem?_map, hj]; show some (prOf r') = _; unfold prOf; rw [e1, e2]
    have a2 : S.L[i]? = some (r.u, r.v) := by rw [← hp, List.getElem?_map, hr]; rfl
    exact (List.getElem?_inj (List.getElem?_eq_some_iff.mp a1).1 nd).mp (a1.trans a2.symm)
  subst ji
  cases hj.symm.trans hr
  refine ⟨r, hr, rfl, rfl, ?_, ?_⟩
  · unfold wv
    rw [e']
  · have n : (r.v, r.u) ∉ S.rows.map prOf := by
      rw [hp]
      exact anti h.ok h.oo hmL
    unfold wv
    rw [find_none n, e']
theorem q_asgTupS {σ : L2.St} {H : Hp} {D : Ends} {tw : TS} {tr : TA} {i : Nat} {vs : List V} (h : Va tr σ H vs) (hz : vs.length ≤ sizeLine) (k : ∀ T, H T = none → tw D (σ.set i (some (.ref T))) (upd H T (.tup vs))) : tSeq (tAsg (tTup tr) (gName i)) tw D σ H := h _ ⟨hz, k⟩
section
variable {P : Program} {w : World} {K : PySem.W.Frag} {mg : Str → Option Value} {base : Heap} {CS : Addr}
theorem ok_sFilling {f : Addr} {fd : FuncData} {k : Nat} (F : Fun K "filling" "Session.filling" sSFilling f fd) (T : SesT K CS) : FnOk P w K mg base CX0 (k + 1) f fd ["self"] (spSFilling K CS) := by
  refine F.ok scSFilling (fun vs H Q E h => ?_) (fun cdv A outer s H vs Q E hr h => ?_)
  · obtain ⟨A, S, rfl, _⟩ := h
    rfl
  · obtain ⟨A, S, rfl, hS, q⟩ := h
    have hu := hu_of hr
    refine ⟨_, pss_cons (ps_set (i := 1) scSFilling.nd rfl (.inl rfl) (pe_lst pa_nil))
      (pss_cons (ps_for PassesOwn.never rfl (pi_list (pe_fld (pv 0) rfl)) (pg_tup rfl (pgs_cons (pg_name (i := 2) scSFilling.nd rfl (.inl rfl)) (pgs_cons (pg_name (i := 3) scSFilling.nd rfl (.inl rfl)) pgs_nil)))
      (pss_cons (ps_par (i := 4) (j := 5) (by rfl) scSFilling.nd rfl rfl (by decide) rfl rfl (pa_cons (pe_tup (pa_cons (pv 2) (pa_cons (pv 3) pa_nil))) (pa_cons (pe_tup (pa_cons (pv 3) (pa_cons (pv 2) pa_nil))) pa_nil)) (by rfl))
        (pss_cons (ps_set (i := 6) scSFilling.nd rfl (.inl rfl) (pe_tup (pa_cons (pe_dget hu (pe_fld (pv 0) rfl) (pv 4) (fun _ _ => rfl)) (pa_cons (pe_dget hu (pe_fld (pv 0) rfl) (pv 5) (fun _ _ => rfl)) pa_nil))))
        (pss_cons (ps_set (i := 7) scSFilling.nd rfl (.inl rfl) (pe_tup (pa_cons (pe_dget hu (pe_fld (pv 0) rfl) (pv 4) (fun _ _ => rfl)) (pa_cons (pe_dget hu (pe_fld (pv 0) rfl) (pv 5) (fun _ _ => rfl)) pa_nil))))
        (pss_one (ps_expr (pe_bm PySem.F.plainAttrs_list PySem.F.slot_list_append PySem.F.type_list_append mt_append (pv 1) (pa_cons (pe_op op_catT (pe_op op_catT (pe_tup (pa_cons (pv 2) (pa_cons (pv 3) pa_nil))) (pv 6)) (pv 7)) pa_nil))))))))
      (pss_one (ps_ret (pv 1)))), ?_⟩
    obtain ⟨ro, en, pa, ab, lkd, e1, e2, ts, e3, e4⟩ := hS.im
    obtain ⟨tp, g1, g2⟩ := e2.pa
    obtain ⟨kvp, ep, dp⟩ := hS.pr
    obtain ⟨kvm, em, dm⟩ := hS.mi
    have hfld : ∀ (f : Str) (i : Nat) (v : V), sesN.findIdx? (fun x => decide (x = f)) = some i → f ∈ sesN → (sesV S A ro en pa ab lkd)[i]? = some v → ∀ H', Same H H' → ∀ σ : L2.St, σ[0]? = some (some (.ref A.p)) → Vl (tFld K (tVar 0) f) σ H' v := fun f i v h1 h2 h3 H' s' σ e => vl_ses T i (s' _ _ e1) (vl_var e) h3 h1 h2
    have hpa := hfld "_pairs" 4 _ (by decide +kernel) (by decide +kernel) rfl
    have hpr := hfld "_prices" 7 _ (by decide +kernel) (by decide +kernel) rfl
    have hmi := hfld "_middles" 8 _ (by decide +kernel) (by decide +kernel) rfl
    refine q_lnew fun rs nrs => ?_
    have srs := same_upd (o := .lst []) nrs
    have ers := upd_same (H := H) (a := rs) (o := .lst [])
    generalize upd H rs (.lst []) = H1 at srs ers
    refine q_forP2 (K := K) (a := pa) (ts := tp) (L := S.L) (hpa H1 srs _ rfl) (.of (srs _ _ (buts_same _ _ g1)))
      (fun i σ H' => ∃ y2 y3 y4 y5 y6 y7 rt, σ = [some (.ref A.p), some (.ref rs), y2, y3, y4, y5, y6, y7] ∧ Same H (but H' rs) ∧ H' rs = some (.lst rt) ∧ rt.length = i ∧ DpAll K (but H' rs) rt ((S.rows.take i).map rowD))
      ⟨_, _, _, _, _, _, [], rfl, same_but srs nrs, ers, rfl, .nil⟩ (fun i σ H' hP => ?_) (fun i u v σ H' hi hP => ?_) (fun σ H' hP => ?_)
    · obtain ⟨_, _, _, _, _, _, _, _, s', _⟩ := hP
      exact ⟨.of (but_same _ _ (s' _ _ (buts_same _ _ g1))), g2.to (buts_same.trans (s'.trans but_same))⟩
    · obtain ⟨y2, y3, y4, y5, y6, y7, rt, rfl, s1, er, ln, hrt⟩ := hP
      have s2 : Same H H' := s1.trans but_same
      obtain ⟨r, hr, rfl, rfl, w1, w2⟩ := hS.row hi
      have hm := List.mem_of_getElem? hi
      have vp1 := dp.at_ r.u r.v (mem_wys.mpr (.inl hm))
      have vp2 := dp.at_ r.v r.u (mem_wys.mpr (.inr hm))
      have vm1 := dm.at_ r.u r.v (mem_wys.mpr (.inl hm))
      have vm2 := dm.at_ r.v r.u (mem_wys.mpr (.inr hm))
      rw [w1] at vp1 vm1
      rw [w2] at vp2 vm2
      -- up, down
      refine ⟨.int r.u, rfl, .int r.v, rfl, by show 2 ≤ sizeLine; decide, fun U nU => ⟨.int r.v, rfl, .int r.u, rfl, by show 2 ≤ sizeLine; decide, fun W nW => ⟨_, _, rfl, ?_⟩⟩⟩
      have sU := same_upd (o := .tup [.int r.u, .int r.v]) nU
      have eU := upd_same (H := H') (a := U) (o := .tup [.int r.u, .int r.v])
      generalize upd H' U (.tup [.int r.u, .int r.v]) = H3 at sU eU nW
      have sW := same_upd (o := .tup [.int r.v, .int r.u]) nW
      have eW := upd_same (H := H3) (a := W) (o := .tup [.int r.v, .int r.u])
      have eU4 := sW _ _ eU
      generalize upd H3 W (.tup [.int r.v, .int r.u]) = H4 at sW eW eU4
      have s4 : Same H H4 := s2.trans (sU.trans sW)
      have er4 := sW _ _ (sU _ _ er)
      have hrt4 := DpAll.to hrt (but_mono (sU.trans sW))
      have s14 := s1.trans (but_mono (sU.trans sW))
      -- prices, middles
      refine q_asgTupS (vs := [oV r.up, oV r.dn]) (va_cons (vl_dgetT (hpr H4 s4 _ rfl) (vl_var rfl) eU4 (s4 _ _ ep) vp1) (va_cons (vl_dgetT (hpr H4 s4 _ rfl) (vl_var rfl) eW (s4 _ _ ep) vp2) va_nil)) (by show 2 ≤ sizeLine; decide) fun X nX => ?_
      have sX := same_upd (o := .tup [oV r.up, oV r.dn]) nX
      have eX := upd_same (H := H4) (a := X) (o := .tup [oV r.up, oV r.dn])
      generalize upd H4 X (.tup [oV r.up, oV r.dn]) = H5 at sX eX
      have s5 : Same H H5 := s4.trans sX
      refine q_asgTupS (vs := [oV r.um, oV r.dm]) (va_cons (vl_dgetT (hmi H5 s5 _ rfl) (vl_var rfl) (sX _ _ eU4) (s5 _ _ em) vm1) (va_cons (vl_dgetT (hmi H5 s5 _ rfl) (vl_var rfl) (sX _ _ eW) (s5 _ _ em) vm2) va_nil)) (by show 2 ≤ sizeLine; decide) fun Y nY => ?_
      have sY := same_upd (o := .tup [oV r.um, oV r.dm]) nY
      have eY := upd_same (H := H5) (a := Y) (o := .tup [oV r.um, oV r.dm])
      generalize upd H5 Y (.tup [oV r.um, oV r.dm]) = H6 at sY eY
      have s46 := sX.trans sY
      -- the row
      refine ⟨.ref rs, rfl, .inl ⟨rfl, _, .inl (.inl (s46 _ _ er4))⟩, .int r.u, rfl, .int r.v, rfl, by show 2 ≤ sizeLine; decide, fun Z nZ => ?_⟩
      have sZ := same_upd (o := .tup [.int r.u, .int r.v]) nZ
      have eZ := upd_same (H := H6) (a := Z) (o := .tup [.int r.u, .int r.v])
      generalize upd H6 Z (.tup [.int r.u, .int r.v]) = H7 at sZ eZ
      refine ⟨.ref X, rfl, Z, X, _, _, rfl, rfl, .of eZ, .of (sZ _ _ (sY _ _ eX)), List.cons_ne_nil _ _, by show 4 ≤ sizeLine; decide, fun h => (nomatch h), fun _ M nM => ?_⟩
      have sM := same_upd (o := .tup ([.int r.u, .int r.v] ++ [oV r.up, oV r.dn])) nM
      have eM := upd_same (H := H7) (a := M) (o := .tup ([.int r.u, .int r.v] ++ [oV r.up, oV r.dn]))
      generalize upd H7 M (.tup ([.int r.u, .int r.v] ++ [oV r.up, oV r.dn])) = H8 at sM eM
      refine ⟨.ref Y, rfl, M, Y, _, _, rfl, rfl, .of eM, .of (sM _ _ (sZ _ _ eY)), (fun z => nomatch z), by show 6 ≤ sizeLine; decide, fun h => (nomatch h), fun _ R nR => ?_⟩
      have sR := same_upd (o := .tup (([.int r.u, .int r.v] ++ [oV r.up, oV r.dn]) ++ [oV r.um, oV r.dm])) nR
      have eR := upd_same (H := H8) (a := R) (o := .tup (([.int r.u, .int r.v] ++ [oV r.up, oV r.dn]) ++ [oV r.um, oV r.dm]))
      generalize upd H8 R (.tup (([.int r.u, .int r.v] ++ [oV r.up, oV r.dn]) ++ [oV r.um, oV r.dm])) = H9 at sR eR
      have s49 : Same H4 H9 := s46.trans (sZ.trans (sM.trans sR))
      have lS : S.L.length ≤ 1600 := pairsL_len hS.ok hS.oo
      have il := (List.getElem?_eq_some_iff.mp hi).1
      refine ⟨rs, rt, .ref R, rfl, rfl, s49 _ _ er4, Nat.lt_of_le_of_lt (m := 1600) (by omega) (by decide), ?_⟩
      have Rrs : R ≠ rs := fun z => by
        rw [z] at nR
        have := (sM _ _ (sZ _ _ (s46 _ _ er4)))
        rw [nR] at this
        cases this
      refine ⟨_, _, _, _, _, _, rt ++ [.ref R], rfl, ?_, upd_same, by rw [List.length_append, ln]; rfl, ?_⟩
      · rw [but_upd]
        exact s14.trans (but_mono s49)
      · rw [but_upd]
        have e : (S.rows.take (i + 1)).map rowD = (S.rows.take i).map rowD ++ [rowD r] := by
          rw [List.take_add_one, hr, List.map_append]
          rfl
        rw [e]
        exact DpAll.app (DpAll.to hrt4 (but_mono s49)) (.cons (Dp.row (.of (by rw [but_ne Rrs]; exact eR))) .nil)
    · obtain ⟨y2, y3, y4, y5, y6, y7, rt, rfl, s1, er, ln, hrt⟩ := hP
      have hp : S.rows.map prOf = S.L := hS.fl.mapP
      have hl := congrArg List.length hp
      rw [List.length_map] at hl
      rw [← hl, List.take_length] at hrt
      exact g_ret (vl_var rfl) (q H' rs rt (s1.trans but_same) nrs er hrt)
end
/-! ### while a session is mended: _fill_in, _mark -/
abbrev sSFillIn : Stmt := inClass (topS 28) 11
abbrev sSMark : Stmt := inClass (topS 28) 12
theorem scSFillIn : FnScope ["self", "low", "high", "x", "y", "places", "price", "middle"] ["self", "low", "high", "x", "y"] (defScope sSFillIn) := ⟨rfl, rfl, rfl, by decide +kernel, rfl, by decide +kernel, by decide +kernel⟩
theorem scSMark : FnScope ["self", "marked", "low", "high", "x", "other", "way"] ["self", "marked", "low", "high", "x"] (defScope sSMark) := ⟨rfl, rfl, rfl, by decide +kernel, rfl, by decide +kernel, by decide +kernel⟩
theorem putK_len_in {κ : Type} [DecidableEq κ] {kvs : List (κ × V)} {k : κ} {v y : V} (h : valV kvs k = some y) : (putK kvs k v).length = kvs.length := by
  unfold putK
  have : (kvs.any fun kv => decide (kv.1 = k)) = true := by
    unfold valV at h
    obtain ⟨kv, e, _⟩ := Option.map_eq_some_iff.mp h
    exact List.any_eq_true.mpr ⟨kv, List.mem_of_find?_eq_some e, List.find?_some (p := fun kv : κ × V => decide (kv.1 = k)) e⟩
  rw [if_pos this, List.length_map]
/-- what lkv tells of a net by its links -/
theorem lkv_net {es : List (Int × Int)} {f : Int → Int → Option Int} {x y : Int} : lkv (netL es f) x y = if (x, y) ∈ wysL es then some (oV (f x y)) else none := by
  have gen : ∀ n (es : List (Int × Int)), es.length = n → lkv (netL es f) x y = if (x, y) ∈ wysL es then some (oV (f x y)) else none := fun n => by
    induction n with
    | zero =>
      intro es h
      rw [List.length_eq_zero_iff.mp h]
      rfl
    | succ n ih =>
      intro es h
      have hne : es ≠ [] := fun z => by rw [z] at h; cases h
      have e : es = es.dropLast ++ [es.getLast hne] := (List.dropLast_concat_getLast hne).symm
      generalize es.getLast hne = z at e
      have ih := ih es.dropLast (by rw [List.length_dropLast, h]; rfl)
      generalize es.dropLast = fs at e ih
      obtain ⟨a, b⟩ := z
      rw [e]
      have e2 : netL (fs ++ [(a, b)]) f = netL fs f ++ [⟨a, b, f a b, f b a⟩] := by
        unfold netL
        rw [List.map_append]
        rfl
      have e3 : (x, y) ∈ wysL (fs ++ [(a, b)]) ↔ (x, y) ∈ wysL fs ∨ ((x = a ∧ y = b) ∨ (x = b ∧ y = a)) := by
        rw [mem_wys, mem_wys, List.mem_append, List.mem_append, List.mem_singleton, List.mem_singleton, Prod.mk.injEq, Prod.mk.injEq]
        constructor
        · rintro ((h | h) | (h | h))
          · exact .inl (.inl h)
          · exact .inr (.inl h)
          · exact .inl (.inr h)
          · exact .inr (.inr ⟨h.2, h.1⟩)
        · rintro ((h | h) | (h | h))
          · exact .inl (.inl h)
          · exact .inr (.inl h)
          · exact .inl (.inr h)
          · exact .inr (.inr ⟨h.2, h.1⟩)
      rw [e2, lkv_snoc, ih]
      unfold lkS
      dsimp only
      by_cases c1 : x = b ∧ y = a
      · rw [if_pos c1, if_pos (e3.mpr (.inr (.inr c1)))]
        obtain ⟨rfl, rfl⟩ := c1
        rfl
      · rw [if_neg c1]
        by_cases c2 : x = a ∧ y = b
        · rw [if_pos c2, if_pos (e3.mpr (.inr (.inl c2)))]
          obtain ⟨rfl, rfl⟩ := c2
          rfl
        · rw [if_neg c2]
          by_cases c3 : (x, y) ∈ wysL fs
          · rw [if_pos c3, if_pos (e3.mpr (.inl c3))]
          · rw [if_neg c3, if_neg fun h => (e3.mp h).elim c3 fun h => h.elim c2 c1]
  exact gen _ es rfl
theorem LkD.links {kvs : List (List L2.Key × V)} {es : List (Int × Int)} {f : Int → Int → Option Int} {H : Hp} {a : Addr} (h : LkD kvs es f) (e : H a = some (.dT kvs)) : LinksAt H a (netL es f) :=
  ⟨⟨kvs, e, by unfold netL; rw [List.length_map]; exact h.len, fun x y => by rw [lkv_net]; exact h.at_ x y⟩⟩
theorem LkD.put {kvs : List (List L2.Key × V)} {es : List (Int × Int)} {f : Int → Int → Option Int} {x y : Int} {o : Option Int} (h : LkD kvs es f) (hw : (x, y) ∈ wysL es) : LkD (putK kvs (K2 (x, y)) (oV o)) es fun a b => if (a, b) = (x, y) then o else f a b := by
  refine ⟨?_, fun a b => ?_⟩
  · rw [putK_len_in (y := oV (f x y)) (by rw [h.at_, if_pos hw])]
    exact h.len
  · rw [valV_put, h.at_]
    by_cases c : (a, b) = (x, y)
    · cases c
      rw [if_pos rfl, if_pos hw, if_pos rfl]
    · rw [if_neg (fun e => c (K2_inj e)), if_neg c]
theorem WyD.put {kvs : List (List L2.Key × V)} {W : List (Int × Int)} {f : Int → Int → Option Int} {x y : Int} {o : Option Int} (h : WyD kvs W f) (hw : (x, y) ∈ W) {g : Int → Int → Option Int} (hg : ∀ a b, g a b = if (a, b) = (x, y) then o else f a b) : WyD (putK kvs (K2 (x, y)) (oV o)) W g := by
  refine ⟨?_, fun a b hm => ?_⟩
  · rw [putK_len_in (y := oV (f x y)) (h.at_ x y hw)]
    exact h.len
  · rw [valV_put, hg]
    by_cases c : (a, b) = (x, y)
    · cases c
      rw [if_pos rfl, if_pos rfl]
    · rw [if_neg (fun e => c (K2_inj e)), if_neg c]
      exact h.at_ a b hm
/-- a session while its ways are filled in: the links as they are now, the ways as f tells -/
structure MidAt (CS : Addr) (H : Hp) (A : SesA) (S : SesS) (lk : Int → Int → Option Int) (f : Int → Int → Option Int × Option Int) : Prop where
  nd : A.m.Nodup
  im : ∃ ro en pa ab lkd, H A.p = some (.ins CS A.dx (fldZ sesN (sesV S A ro en pa ab lkd))) ∧ SesI (buts A.m H) S.N.ls S.es S.os ro en pa ab A.lo
  lk : ∃ kvs, H A.lk = some (.dT kvs) ∧ LkD kvs S.es lk
  pr : ∃ kvs, H A.pr = some (.dT kvs) ∧ WyD kvs S.W fun x y => (f x y).1
  mi : ∃ kvs, H A.mi = some (.dT kvs) ∧ WyD kvs S.W fun x y => (f x y).2
theorem MidAt.to {CS : Addr} {H H' : Hp} {A : SesA} {S : SesS} {lk : Int → Int → Option Int} {f : Int → Int → Option Int × Option Int} (h : MidAt CS H A S lk f) (s : Same H H') : MidAt CS H' A S lk f := by
  obtain ⟨ro, en, pa, ab, lkd, e1, e2⟩ := h.im
  exact ⟨h.nd, ⟨ro, en, pa, ab, lkd, s _ _ e1, e2.to (buts_mono s)⟩, let ⟨k, e, d⟩ := h.lk; ⟨k, s _ _ e, d⟩, let ⟨k, e, d⟩ := h.pr; ⟨k, s _ _ e, d⟩, let ⟨k, e, d⟩ := h.mi; ⟨k, s _ _ e, d⟩⟩
theorem SesA.dist {A : SesA} (h : A.m.Nodup) : A.p ≠ A.lk ∧ A.p ≠ A.pr ∧ A.p ≠ A.mi ∧ A.p ≠ A.un ∧ A.lk ≠ A.pr ∧ A.lk ≠ A.mi ∧ A.lk ≠ A.un ∧ A.pr ≠ A.mi ∧ A.pr ≠ A.un ∧ A.mi ≠ A.un := by
  unfold SesA.m at h
  simp only [List.nodup_cons, List.mem_cons, List.not_mem_nil, or_false, not_or] at h
  obtain ⟨⟨h1, h2, h3, h4⟩, ⟨h5, h6, h7⟩, ⟨h8, h9⟩, h10, _⟩ := h
  exact ⟨h1, h2, h3, h4, h5, h6, h7, h8, h9, h10⟩
theorem SesA.mem (A : SesA) : A.p ∈ A.m ∧ A.lk ∈ A.m ∧ A.pr ∈ A.m ∧ A.mi ∈ A.m ∧ A.un ∈ A.m := by
  unfold SesA.m
  simp
theorem buts_upd_out {bs : List Addr} {H : Hp} {a : Addr} {u : HO} (h : a ∉ bs) : buts bs (upd H a u) = upd (buts bs H) a u := by
  funext b
  by_cases c : b = a
  · rw [c, buts_ne h, upd_same, upd_same]
  · rw [upd_ne c]
    by_cases c2 : b ∈ bs
    · rw [buts_at c2, buts_at c2]
    · rw [buts_ne c2, buts_ne c2, upd_ne c]
theorem wtake_snoc9 {α : Type} {L : List α} {m : Nat} {p : α} (h : L[m]? = some p) : L.take (m + 1) = L.take m ++ [p] := by
  rw [List.take_add_one, h]
  rfl
theorem putK_lenG9 {κ : Type} [DecidableEq κ] {kvs : List (κ × V)} {k : κ} {v : V} : (putK kvs k v).length ≤ kvs.length + 1 := by
  unfold putK
  by_cases c : (kvs.any fun kv => decide (kv.1 = k)) = true
  · rw [if_pos c, List.length_map]
    exact Nat.le_succ _
  · rw [if_neg c, List.length_append]
    exact Nat.le_refl _
theorem vl_dgetRKS {σ : L2.St} {H : Hp} {td ty : TE} {o : Addr} {x : Int} {kvs : List (L2.Key × V)} {v : V} (ho : Vl td σ H (.ref o)) (hk : Vl ty σ H (.int x)) (hd : Rd H o (.dK kvs)) (hv : valV kvs (Sum.inl x) = some v) : Vl (tDGet td ty) σ H v := fun Q q => ho _ (hk _ ⟨o, v, rfl, .inl ⟨kvs, Sum.inl x, hd, rfl, hv.symm⟩, q⟩)
theorem q_asgGS {σ : L2.St} {H : Hp} {te : TE} {g : TG} {D : Ends} {tw : TS} (h : te σ H fun v H' => g v σ H' fun σ' H'' => tw D σ' H'') : tSeq (tAsg te g) tw D σ H := h
def spSFillIn (CS : Addr) : Sp := fun vs H Q _ => ∃ (A : SesA) (S : SesS) (bs : List Addr) (lk : Int → Int → Option Int) (f : Int → Int → Option Int × Option Int) (l h x y : Int), vs = [.ref A.p, .int l, .int h, .int x, .int y] ∧ MidAt CS (buts bs H) A S lk f ∧ NetOk ⟨S.n, netL S.es lk⟩ ∧ OrdOk S.n S.os ∧ (l, h) ∈ S.L ∧ ((x = l ∧ y = h) ∨ (x = h ∧ y = l)) ∧ (∀ w, w ∈ lowerL S.L S.os x y → (x, w) ∈ S.W ∧ (w, y) ∈ S.W) ∧
  ∀ H' v, v = bestF (linkW (netL S.es lk) x y) (fun w => addO (f x w).1 (f w y).1) (lowerL S.L S.os x y) → Same (buts A.m H) (buts A.m H') → (∀ a u, (a = A.un ∨ a = A.p) → H a = some u → H' a = some u) → MidAt CS (buts bs H') A S lk (fun a b => if (a, b) = (x, y) then v else f a b) → Q (oV v.1) H'
def spSMark (CS : Addr) : Sp := fun vs H Q _ => ∃ (A : SesA) (S : SesS) (bs : List Addr) (lk : Int → Int → Option Int) (f : Int → Int → Option Int × Option Int) (md : Addr) (kvm : List (List L2.Key × V)) (l h x : Int), vs = [.ref A.p, .ref md, .int l, .int h, .int x] ∧ MidAt CS (buts bs H) A S lk f ∧ md ∈ bs ∧ H md = some (.dT kvm) ∧ kvm.length ≤ 1000000 ∧ l ∈ S.os ∧ S.os.length ≤ 40 ∧
  ∀ H' kvm', Same (but H md) (but H' md) → H' md = some (.dT kvm') → kvm'.length ≤ kvm.length + 40 → (∀ p, (valV kvm' (K2 p)).isSome = true ↔ (valV kvm (K2 p)).isSome = true ∨ mkA S.N.ls S.os l h x p) → Q .non H'
section
variable {P : Program} {w : World} {K : PySem.W.Frag} {mg : Str → Option Value} {base : Heap} {CS : Addr}
theorem ok_sFillIn {f : Addr} {fd : FuncData} {k : Nat} (F : Fun K "_fill_in" "Session._fill_in" sSFillIn f fd) (T : SesT K CS) (c_fill_way : Kal P w K mg base k "fill_way" ["links", "prices", "places", "x", "y"] (spWayF K)) : FnOk P w K mg base CX0 (k + 1) f fd ["self", "low", "high", "x", "y"] (spSFillIn CS) := by
  refine F.ok scSFillIn (fun vs H Q E h => ?_) (fun cdv A outer s H vs Q E hr h => ?_)
  · obtain ⟨A, S, bs, lk, f, l, h, x, y, rfl, _⟩ := h
    rfl
  · obtain ⟨A, S, bs, lk, f, l, h, x, y, rfl, hM, ok', oo, hlh, hxy, hlow, q⟩ := h
    have hu := hu_of hr
    refine ⟨_, pss_cons (ps_set (i := 5) scSFillIn.nd rfl (.inl rfl) (pe_dget hu (pe_fld (pv 0) rfl) (pe_tup (pa_cons (pv 1) (pa_cons (pv 2) pa_nil))) (fun _ _ => rfl)))
      (pss_cons (ps_asg (pe_k c_fill_way hr (by first | decide | omega) (by rfl) (pa_cons (pe_fld (pv 0) rfl) (pa_cons (pe_fld (pv 0) rfl) (pa_cons (pv 5) (pa_cons (pv 3) (pa_cons (pv 4) pa_nil)))))) (pg_tup rfl (pgs_cons (pg_name (i := 6) scSFillIn.nd rfl (.inl rfl)) (pgs_cons (pg_name (i := 7) scSFillIn.nd rfl (.inl rfl)) pgs_nil))))
      (pss_cons (ps_dput hu (pe_fld (pv 0) rfl) (pe_tup (pa_cons (pv 3) (pa_cons (pv 4) pa_nil))) (pv 6) rfl)
      (pss_cons (ps_dput hu (pe_fld (pv 0) rfl) (pe_tup (pa_cons (pv 3) (pa_cons (pv 4) pa_nil))) (pv 7) rfl)
      (pss_one (ps_ret (pv 6)))))), ?_⟩
    obtain ⟨ro, en, pa, ab, lkd, e1, e2⟩ := hM.im
    obtain ⟨kvo, g1, g2⟩ := e2.lo
    obtain ⟨kvl, el, dl⟩ := hM.lk
    obtain ⟨kvp, ep, dp⟩ := hM.pr
    obtain ⟨kvm, em, dm⟩ := hM.mi
    obtain ⟨d1, d2, d3, d4, d5, d6, d7, d8, d9, d10⟩ := SesA.dist hM.nd
    have hfld : ∀ (f : Str) (i : Nat) (v : V), sesN.findIdx? (fun x => decide (x = f)) = some i → f ∈ sesN → (sesV S A ro en pa ab lkd)[i]? = some v → ∀ H' : Hp, H' A.p = some (.ins CS A.dx (fldZ sesN (sesV S A ro en pa ab lkd))) → ∀ σ : L2.St, σ[0]? = some (some (.ref A.p)) → Vl (tFld K (tVar 0) f) σ H' v := fun f i v h1 h2 h3 H' e' σ e => vl_ses T i e' (vl_var e) h3 h1 h2
    have hloF := hfld "_lower" 6 _ (by decide +kernel) (by decide +kernel) rfl
    have hprF := hfld "_prices" 7 _ (by decide +kernel) (by decide +kernel) rfl
    have hmiF := hfld "_middles" 8 _ (by decide +kernel) (by decide +kernel) rfl
    have hlkF := hfld "_links" 3 _ (by decide +kernel) (by decide +kernel) rfl
    have e1' := buts_same _ _ e1
    obtain ⟨pl, k1, k2⟩ := g2 l h hlh
    have k2' := buts_same _ _ (buts_same _ _ k2)
    -- places
    refine q_asgE ((vn_dget2 (hloF H e1' _ rfl) (fun _ _ => vl_var rfl) (fun _ _ => vl_var rfl) (buts_same _ _ (buts_same _ _ g1)) k1) _ fun H1 s1 => ?_)
    have lsym : lowerL S.L S.os x y = lowerL S.L S.os l h := by
      rcases hxy with ⟨rfl, rfl⟩ | ⟨rfl, rfl⟩
      · rfl
      · exact lowerL_sym
    have lle : (lowerL S.L S.os l h).length ≤ 1000 := by
      have := List.length_filter_le (fun w => decide ((w, l) ∈ S.L) && decide ((w, h) ∈ S.L)) S.os
      have ol := oo.len
      have n40 : S.n ≤ 40 := ok'.n40
      unfold lowerL
      omega
    have e11 := s1 _ _ e1'
    -- fill_way
    refine q_asgGS ((va_cons (hlkF H1 e11 _ rfl) (va_cons (hprF H1 e11 _ rfl) (va_cons (vl_var rfl) (va_cons (vl_var rfl) (va_cons (vl_var rfl) va_nil))))) _ ⟨A.lk, A.pr, pl, x, y, netL S.es lk, kvp, lowerL S.L S.os x y, linkW (netL S.es lk) x y, (fun w => (f x w).1), (fun w => (f w y).1), rfl, LkD.links dl (s1 _ _ (buts_same _ _ el)), lkv_linkW ok' x y, s1 _ _ (buts_same _ _ ep), .of (by rw [lsym]; exact s1 _ _ k2'), by rw [lsym]; exact lle, fun w hw => ⟨dp.at_ x w (hlow w hw).1, dp.at_ w y (hlow w hw).2⟩, fun H2 T2 s2 eT2 => ?_⟩)
    generalize hv : bestF (linkW (netL S.es lk) x y) (fun w => addO (f x w).1 (f w y).1) (lowerL S.L S.os x y) = v at eT2 q
    refine ⟨T2, _, rfl, .of eT2, rfl, _, _, rfl, _, _, rfl, rfl, ?_⟩
    have s02 := s1.trans s2
    have hw : (x, y) ∈ S.W := by
      rcases hxy with ⟨rfl, rfl⟩ | ⟨rfl, rfl⟩
      · exact mem_wys.mpr (.inl hlh)
      · exact mem_wys.mpr (.inr hlh)
    have nb : ∀ {a u}, buts bs H a = some u → a ∉ bs := fun {a u} e => (buts_no e).1
    have npr := nb ep
    have nmi := nb em
    have np := nb e1
    have nlk := nb el
    -- prices
    have lkvp := dp.len
    have lkvm := dm.len
    refine q_dputK (v := oV v.1) (vl_var rfl) (hprF H2 (s02 _ _ e1') _ rfl) (vl_var rfl) (vl_var rfl) (s02 _ _ (buts_same _ _ ep)) (Nat.lt_of_le_of_lt lkvp (by decide)) fun U nU oU => ?_
    have sU := same_upd (o := .tup [.int x, .int y]) nU
    generalize upd H2 U (.tup [.int x, .int y]) = H3 at sU
    have s03 := s02.trans sU
    refine q_dputK (v := oV v.2) (kvs := kvm) (vl_var rfl) (hmiF _ (by rw [upd_ne d2]; exact s03 _ _ e1') _ rfl) (vl_var rfl) (vl_var rfl) (by rw [upd_ne (fun e => d8 e.symm)]; exact s03 _ _ (buts_same _ _ em)) (Nat.lt_of_le_of_lt lkvm (by decide)) fun W nW oW => ?_
    have prW : A.pr ≠ W := fun e => by
      rw [← e, upd_same] at nW
      cases nW
    have nW3 : H3 W = none := by
      rw [upd_ne (fun e => prW e.symm)] at nW
      exact nW
    refine g_ret (v := oV v.1) (vl_var rfl) (q _ v rfl ?_ ?_ ?_)
    · rw [buts_upd A.mem.2.2.2.1]
      have : Same (buts A.m (upd H3 A.pr (.dT (putK kvp (K2 (x, y)) (oV v.1))))) (buts A.m (upd (upd H3 A.pr (.dT (putK kvp (K2 (x, y)) (oV v.1)))) W (.tup [.int x, .int y]))) := buts_mono (same_upd nW)
      rw [buts_upd A.mem.2.2.1] at this
      exact (buts_mono s03).trans this
    · intro a u ha9 hu9
      have h3 := s03 _ _ hu9
      have n1 : a ≠ A.mi := by
        rcases ha9 with rfl | rfl
        · exact fun e => d10 e.symm
        · exact d3
      have n2 : a ≠ A.pr := by
        rcases ha9 with rfl | rfl
        · exact fun e => d9 e.symm
        · exact d2
      rw [upd_ne n1, upd_ne (fun e => by rw [← e, h3] at nW3; cases nW3), upd_ne n2]
      exact h3
    · have get : ∀ a u, buts bs H a = some u → a ≠ A.pr → a ≠ A.mi → buts bs (upd (upd (upd H3 A.pr (.dT (putK kvp [Sum.inl x, Sum.inl y] (oV v.1)))) W (.tup [.int x, .int y])) A.mi (.dT (putK kvm [Sum.inl x, Sum.inl y] (oV v.2)))) a = some u := fun a u e n1 n2 => by
        obtain ⟨nb, e⟩ := buts_no e
        have h3 := s03 _ _ e
        rw [buts_ne nb, upd_ne n2, upd_ne (fun e => by rw [← e, h3] at nW3; cases nW3), upd_ne n1]
        exact h3
      refine ⟨hM.nd, ⟨ro, en, pa, ab, lkd, get _ _ e1 d2 d3, e2.to fun a u e => ?_⟩, ⟨kvl, get _ _ el d5 d6, dl⟩, ⟨putK kvp (K2 (x, y)) (oV v.1), ?_, dp.put hw fun a b => ?_⟩, ⟨putK kvm (K2 (x, y)) (oV v.2), ?_, dm.put hw fun a b => ?_⟩⟩
      · obtain ⟨na, e⟩ := buts_no e
        rw [buts_ne na]
        exact get _ _ e (fun z => na (by rw [z]; exact A.mem.2.2.1)) (fun z => na (by rw [z]; exact A.mem.2.2.2.1))
      · rw [buts_ne npr, upd_ne d8, upd_ne prW, upd_same]
        rfl
      · by_cases c : (a, b) = (x, y)
        · rw [if_pos c, if_pos c]
        · rw [if_neg c, if_neg c]
      · rw [buts_ne nmi, upd_same]
        rfl
      · by_cases c : (a, b) = (x, y)
        · rw [if_pos c, if_pos c]
        · rw [if_neg c, if_neg c]
theorem ok_sMark {f : Addr} {fd : FuncData} {k : Nat} (F : Fun K "_mark" "Session._mark" sSMark f fd) (T : SesT K CS) : FnOk P w K mg base CX0 (k + 1) f fd ["self", "marked", "low", "high", "x"] (spSMark CS) := by
  refine F.ok scSMark (fun vs H Q E h => ?_) (fun cdv A outer s H vs Q E hr h => ?_)
  · obtain ⟨A, S, bs, lk, f, md, kvm, l, h, x, rfl, _⟩ := h
    rfl
  · obtain ⟨A, S, bs, lk, f, md, kvm, l, h, x, rfl, hM, hmd, emd, lmd, hl, lo40, q⟩ := h
    have hu := hu_of hr
    refine ⟨_, pss_one (ps_for PassesOwn.never rfl (pi_list (pe_dget hu (pe_fld (pv 0) rfl) (pv 2) (fun _ _ => rfl))) (pg_name (i := 5) scSMark.nd rfl (.inl rfl))
      (pss_one (ps_if (pt_cmpR op_ne (pv 5) (pv 3) (nomark _))
        (pss_cons (ps_set (i := 6) scSMark.nd rfl (.inl rfl) (pe_ifExp (pt_cmpR op_eq (pv 4) (pv 2) (nomark _)) (pe_tup (pa_cons (pv 5) (pa_cons (pv 3) pa_nil))) (pe_tup (pa_cons (pv 3) (pa_cons (pv 5) pa_nil)))))
          (pss_one (ps_dput hu (pv 1) (pv 6) pe_bl rfl)))
        pss_nil))), ?_⟩
    obtain ⟨ro, en, pa, ab, lkd, e1, e2⟩ := hM.im
    obtain ⟨kva, g1, g2⟩ := e2.ab
    obtain ⟨row, k1, k2⟩ := g2 l hl
    have e1' := buts_same _ _ e1
    have nmd : ∀ {a u}, buts bs H a = some u → a ≠ md := fun {a u} e z => (buts_no e).1 (by rw [z]; exact hmd)
    have b1 : ∀ {a u}, buts A.m (buts bs H) a = some u → buts bs H a = some u := fun {a u} e => buts_same _ _ e
    have rmd := nmd (b1 k2)
    have k2' : but H md row = some (.lst ((upP S.N.ls S.os l).map V.int)) := by
      rw [but_ne rmd]
      exact buts_same _ _ (b1 k2)
    have lup : (upP S.N.ls S.os l).length ≤ 40 := by
      unfold upP
      exact Nat.le_trans (List.length_filter_le _ _) lo40
    have hrow : Vl (tDGet (tFld K (tVar 0) "_above") (tVar 2)) (L2.start ["self", "marked", "low", "high", "x", "other", "way"] [.ref A.p, .ref md, .int l, .int h, .int x]) H (.ref row) := vl_dgetRKS (vl_ses T 5 e1' (vl_var rfl) rfl (by decide +kernel) (by decide +kernel)) (vl_var rfl) (.inl (buts_same _ _ (b1 g1))) k1
    refine g_forL (K := K) (a := row) (xs := (upP S.N.ls S.os l).map V.int) hrow (.of (but_same _ _ k2'))
      (fun i σ H' => ∃ y5 y6 kv, σ = [some (.ref A.p), some (.ref md), some (.int l), some (.int h), some (.int x), y5, y6] ∧ Same (but H md) (but H' md) ∧ H' md = some (.dT kv) ∧ kv.length ≤ kvm.length + i ∧ ∀ p, (valV kv (K2 p)).isSome = true ↔ (valV kvm (K2 p)).isSome = true ∨ ∃ o, o ∈ (upP S.N.ls S.os l).take i ∧ o ≠ h ∧ p = if x = l then (o, h) else (h, o))
      ⟨_, _, kvm, rfl, Same.refl _, emd, Nat.le_refl _, fun p => ⟨.inl, fun h => h.elim id fun ⟨o, ho, _⟩ => nomatch ho⟩⟩ (fun i σ' H' hP => ?_) (fun i y σ' H' hy hP => ?_) (fun σ' H' hP => ?_)
    · obtain ⟨_, _, _, _, s', _⟩ := hP
      exact .of (but_same _ _ (s' _ _ k2'))
    · obtain ⟨y5, y6, kv, rfl, s1, ekv, lkv, hk⟩ := hP
      rw [List.getElem?_map] at hy
      obtain ⟨o, ho, rfl⟩ := Option.map_eq_some_iff.mp hy
      have il := (List.getElem?_eq_some_iff.mp ho).1
      refine g_when (b := !decide (V.int o = V.int h)) (an_test (vl_ne (vl_var rfl) (vl_var rfl) rfl)) (fun hb => ?_) (fun hb => ?_)
      · have hne : o ≠ h := fun e => by
          rw [e, decide_eq_true rfl] at hb
          cases hb
        refine q_asgE (if_tup (b := decide (V.int x = V.int l)) (zs := if x = l then [.int o, .int h] else [.int h, .int o]) (an_test (vl_eq (vl_var rfl) (vl_var rfl) rfl)) (va_cons (vl_var rfl) (va_cons (vl_var rfl) va_nil)) (va_cons (vl_var rfl) (va_cons (vl_var rfl) va_nil)) (fun e => ?_) (fun e => ?_) ?_ fun U nU => ?_)
        · have := of_decide_eq_true e
          rw [if_pos (V.int.inj this)]
        · have := of_decide_eq_false e
          rw [if_neg fun e => this (by rw [e])]
        · by_cases c : x = l
          · rw [if_pos c]; show 2 ≤ sizeLine; decide
          · rw [if_neg c]; show 2 ≤ sizeLine; decide
        · have ezs : (if x = l then [V.int o, V.int h] else [V.int h, V.int o]) = [V.int (if x = l then (o, h) else (h, o)).1, V.int (if x = l then (o, h) else (h, o)).2] := by
            by_cases c : x = l
            · rw [if_pos c, if_pos c]
            · rw [if_neg c, if_neg c]
          rw [ezs]
          generalize hp9 : (if x = l then (o, h) else (h, o)) = p9
          have sU := same_upd (o := .tup [.int p9.1, .int p9.2]) nU
          have eU := upd_same (H := H') (a := U) (o := .tup [.int p9.1, .int p9.2])
          have ekv2 := sU _ _ ekv
          refine ⟨.ref md, rfl, .ref U, rfl, md, _, rfl, DPut.t (k := K2 p9) ekv2 eU (Nat.lt_of_le_of_lt (m := 1000040) (by omega) (by decide)), _, _, _, rfl, ?_, upd_same, ?_, fun p => ?_⟩
          · rw [but_upd]
            exact s1.trans (but_mono sU)
          · have := putK_lenG9 (kvs := kv) (k := K2 p9) (v := .bl true)
            omega
          · rw [valV_put, wtake_snoc9 ho]
            by_cases c : K2 p = K2 p9
            · rw [if_pos c]
              have := K2_inj c
              subst this
              exact ⟨fun _ => .inr ⟨o, List.mem_append.mpr (.inr (List.mem_singleton.mpr rfl)), hne, hp9.symm⟩, fun _ => rfl⟩
            · rw [if_neg c, hk p]
              constructor
              · rintro (h1 | ⟨o', h1, h2, h3⟩)
                · exact .inl h1
                · exact .inr ⟨o', List.mem_append.mpr (.inl h1), h2, h3⟩
              · rintro (h1 | ⟨o', h1, h2, h3⟩)
                · exact .inl h1
                · rcases List.mem_append.mp h1 with h1 | h1
                  · exact .inr ⟨o', h1, h2, h3⟩
                  · have := List.mem_singleton.mp h1
                    subst this
                    exact absurd (by rw [h3, hp9]) c
      · have heq : o = h := V.int.inj (of_decide_eq_true (by rw [Bool.not_eq_false'] at hb; exact hb))
        refine nx_of ⟨_, _, kv, rfl, s1, ekv, by omega, fun p => ?_⟩
        rw [hk p, wtake_snoc9 ho]
        constructor
        · rintro (h1 | ⟨o', h1, h2, h3⟩)
          · exact .inl h1
          · exact .inr ⟨o', List.mem_append.mpr (.inl h1), h2, h3⟩
        · rintro (h1 | ⟨o', h1, h2, h3⟩)
          · exact .inl h1
          · rcases List.mem_append.mp h1 with h1 | h1
            · exact .inr ⟨o', h1, h2, h3⟩
            · exact absurd ((List.mem_singleton.mp h1).trans heq) h2
    · obtain ⟨y5, y6, kv, rfl, s1, ekv, lkv, hk⟩ := hP
      rw [List.length_map] at lkv hk
      rw [List.take_length] at hk
      exact q H' kv s1 ekv (by omega) hk
end
/-! ### prices of ways that are set; that a filling exists -/
def setW (lk : Int → Int → Option Int) (vals : List ((Int × Int) × Option Int)) : Int → Int → Option Int := vals.foldl (fun f z a b => if (a, b) = z.1 then z.2 else f a b) lk
def domU (vals : List ((Int × Int) × Option Int)) (p : Int × Int) : Bool := vals.any fun z => decide (z.1 = p)
theorem setW_snoc {lk : Int → Int → Option Int} {vals : List ((Int × Int) × Option Int)} {z : (Int × Int) × Option Int} : setW lk (vals ++ [z]) = fun a b => if (a, b) = z.1 then z.2 else setW lk vals a b := by
  unfold setW
  rw [List.foldl_append]
  rfl
theorem setW_out {x y : Int} : ∀ {vals : List ((Int × Int) × Option Int)} {lk : Int → Int → Option Int}, domU vals (x, y) = false → setW lk vals x y = lk x y := fun {vals} => by
  induction vals with
  | nil => exact fun _ => rfl
  | cons z vals ih =>
    intro lk h
    unfold domU at h
    rw [List.any_cons, Bool.or_eq_false_iff] at h
    show setW (fun a b => if (a, b) = z.1 then z.2 else lk a b) vals x y = lk x y
    rw [ih h.2]
    exact if_neg fun e => of_decide_eq_false h.1 e.symm
theorem setW_in {x y : Int} {o : Option Int} : ∀ {vals : List ((Int × Int) × Option Int)} {lk : Int → Int → Option Int}, (vals.map (·.1)).Nodup → ((x, y), o) ∈ vals → setW lk vals x y = o := fun {vals} => by
  induction vals with
  | nil => exact fun _ h => nomatch h
  | cons z vals ih =>
    intro lk nd h
    have nd := List.nodup_cons.mp nd
    show setW (fun a b => if (a, b) = z.1 then z.2 else lk a b) vals x y = o
    rcases List.mem_cons.mp h with rfl | h
    · rw [setW_out]
      · exact if_pos rfl
      · unfold domU
        rw [List.any_eq_false]
        exact fun w hw e => nd.1 (List.mem_map.mpr ⟨w, hw, of_decide_eq_true e⟩)
    · exact ih nd.2 h
theorem setW_ok {lk : Int → Int → Option Int} (h : ∀ x y, PriceOk (lk x y)) : ∀ {vals : List ((Int × Int) × Option Int)}, (∀ z, z ∈ vals → PriceOk z.2) → ∀ x y, PriceOk (setW lk vals x y) := fun {vals} => by
  induction vals generalizing lk with
  | nil => exact fun _ => h
  | cons z vals ih =>
    intro hv
    refine ih (lk := fun a b => if (a, b) = z.1 then z.2 else lk a b) (fun x y => ?_) fun w hw => hv w (List.mem_cons_of_mem _ hw)
    by_cases c : (x, y) = z.1
    · rw [if_pos c]
      exact hv z List.mem_cons_self
    · rw [if_neg c]
      exact h x y
theorem valV_und {u : List ((Int × Int) × Option Int)} {z : (Int × Int) × Option Int} (nd : (u.map (·.1)).Nodup) (hz : z ∈ u) : valV (undK u) (K2 z.1) = some (oV z.2) := by
  induction u with
  | nil => cases hz
  | cons w u ih =>
    have nd := List.nodup_cons.mp nd
    unfold valV undK
    rw [List.map_cons, List.find?_cons]
    by_cases c : w.1 = z.1
    · have e : w = z := by
        rcases List.mem_cons.mp hz with rfl | hz
        · rfl
        · exact absurd (List.mem_map.mpr ⟨z, hz, c.symm⟩) nd.1
      subst e
      rw [decide_eq_true rfl]
      rfl
    · have : decide (K2 w.1 = K2 z.1) = false := decide_eq_false fun e => c (K2_inj e)
      rw [this]
      rcases List.mem_cons.mp hz with rfl | hz
      · exact absurd rfl c
      · exact ih nd.2 hz
theorem valV_undS {u : List ((Int × Int) × Option Int)} {p : Int × Int} : (valV (undK u) (K2 p)).isSome = domU u p := by
  induction u with
  | nil => rfl
  | cons w u ih =>
    unfold valV undK domU
    rw [List.map_cons, List.find?_cons, List.any_cons]
    by_cases c : w.1 = p
    · subst c
      rw [decide_eq_true rfl, decide_eq_true rfl]
      rfl
    · have : decide (K2 w.1 = K2 p) = false := decide_eq_false fun e => c (K2_inj e)
      rw [this, decide_eq_false c, Bool.false_or]
      exact ih
theorem fill_ex {N : Net} {os : List Int} (ok : NetOk N) (oo : OrdOk N.n os) : ∃ rows, FillOk N os rows := by
  have step : ∀ k, k ≤ (pairsL N.ls os).length → ∃ rs : List Row, rs.map prOf = (pairsL N.ls os).take k ∧ ∀ (i : Nat) r, rs[i]? = some r → r = mkRow N os (pairsL N.ls os) (rs.take i) r.u r.v := fun k => by
    induction k with
    | zero => exact fun _ => ⟨[], rfl, fun i r h => by cases h⟩
    | succ k ih =>
      intro hk
      obtain ⟨rs, h1, h2⟩ := ih (by omega)
      have hg : (pairsL N.ls os)[k]? = some ((pairsL N.ls os)[k]'hk) := List.getElem?_eq_getElem hk
      generalize (pairsL N.ls os)[k]'hk = p at hg
      have ln : rs.length = k := by
        have := congrArg List.length h1
        rw [List.length_map, List.length_take] at this
        omega
      refine ⟨rs ++ [mkRow N os (pairsL N.ls os) rs p.1 p.2], ?_, fun i r hi => ?_⟩
      · rw [List.map_append, h1, wtake_snoc9 hg]
        rfl
      · by_cases c : i < rs.length
        · rw [List.getElem?_append_left c] at hi
          rw [List.take_append_of_le_length (by omega)]
          exact h2 i r hi
        · have il := (List.getElem?_eq_some_iff.mp hi).1
          rw [List.length_append] at il
          have il : i < rs.length + 1 := il
          have : i = rs.length := by omega
          subst this
          rw [List.getElem?_append_right (Nat.le_refl _), Nat.sub_self] at hi
          cases hi
          rw [List.take_append_of_le_length (Nat.le_refl _), List.take_length]
          rfl
  obtain ⟨rs, h1, h2⟩ := step _ (Nat.le_refl _)
  rw [List.take_length] at h1
  exact ⟨rs, (fill_iff ok oo).mpr ⟨h1, h2⟩⟩
theorem buts_app {as bs : List Addr} {H : Hp} : buts (as ++ bs) H = buts as (buts bs H) := by
  funext b
  by_cases c : b ∈ as
  · rw [buts_at c, buts_at (List.mem_append.mpr (.inl c))]
  · rw [buts_ne c]
    by_cases c2 : b ∈ bs
    · rw [buts_at c2, buts_at (List.mem_append.mpr (.inr c2))]
    · rw [buts_ne c2, buts_ne fun h => (List.mem_append.mp h).elim c c2]
theorem buts_comm {as bs : List Addr} {H : Hp} : buts as (buts bs H) = buts bs (buts as H) := by
  rw [← buts_app, ← buts_app]
  funext b
  by_cases c : b ∈ as ++ bs
  · rw [buts_at c, buts_at (List.mem_append.mpr (List.mem_append.mp c).symm)]
  · rw [buts_ne c, buts_ne fun h => c (List.mem_append.mpr (List.mem_append.mp h).symm)]
/-! ### addresses of dicts -/
def isDT (u : HO) : Prop := (∃ kvs, u = .dT kvs) ∨ ∃ o kvs, u = .frz o (.dT kvs)
theorem rd_ne {G : Hp} {a d : Addr} {u : HO} {kvs : List (List L2.Key × V)} (hd : Rd G d (.dT kvs)) (e : G a = some u) (h : ¬ isDT u) : a ≠ d := fun z => by
  subst z
  rcases hd with hd | ⟨o, hd⟩ <;> (rw [e] at hd; cases hd)
  · exact h (.inl ⟨_, rfl⟩)
  · exact h (.inr ⟨_, _, rfl⟩)
theorem notL {xs : List V} : ¬ isDT (.lst xs) := by rintro (⟨_, h⟩ | ⟨_, _, h⟩) <;> cases h
theorem notT {xs : List V} : ¬ isDT (.tup xs) := by rintro (⟨_, h⟩ | ⟨_, _, h⟩) <;> cases h
theorem notK {kvs : List (L2.Key × V)} : ¬ isDT (.dK kvs) := by rintro (⟨_, h⟩ | ⟨_, _, h⟩) <;> cases h
theorem TupsAt.noD {G : Hp} {d : Addr} {kvs : List (List L2.Key × V)} {ts : List V} {L : List (Int × Int)} (h : TupsAt G ts L) (hd : Rd G d (.dT kvs)) : TupsAt (buts [d] G) ts L := ⟨h.len, fun i u v e => by
  obtain ⟨t, k1, k2⟩ := h.at_ i u v e
  exact ⟨t, k1, by rw [buts_ne fun c => rd_ne hd k2 notT (List.mem_singleton.mp c)]; exact k2⟩⟩
theorem SesI.noD {G : Hp} {ls : List Lnk} {es : List (Int × Int)} {os : List Int} {ro en pa ab lo d : Addr} {kvs : List (List L2.Key × V)} (h : SesI G ls es os ro en pa ab lo) (hd : Rd G d (.dT kvs)) (hl : d ≠ lo) : SesI (buts [d] G) ls es os ro en pa ab lo := by
  have nl : ∀ {a xs}, G a = some (.lst xs) → buts [d] G a = some (.lst xs) := fun e => by rw [buts_ne fun c => rd_ne hd e notL (List.mem_singleton.mp c)]; exact e
  obtain ⟨t1, a1, a2⟩ := h.en
  obtain ⟨t2, b1, b2⟩ := h.pa
  obtain ⟨kv, c1, c2⟩ := h.ab
  obtain ⟨kv2, f1, f2⟩ := h.lo
  exact ⟨nl h.ro, ⟨t1, nl a1, a2.noD hd⟩, ⟨t2, nl b1, b2.noD hd⟩, ⟨kv, by rw [buts_ne fun c => rd_ne hd c1 notK (List.mem_singleton.mp c)]; exact c1, fun w hw => let ⟨a, k1, k2⟩ := c2 w hw; ⟨a, k1, nl k2⟩⟩,
    ⟨kv2, by rw [buts_ne fun c => hl (List.mem_singleton.mp c).symm]; exact f1, fun u v hm => let ⟨a, k1, k2⟩ := f2 u v hm; ⟨a, k1, nl k2⟩⟩⟩
theorem rd_fun {G : Hp} {d : Addr} {kvs kvs' : List (List L2.Key × V)} (h : Rd G d (.dT kvs)) (h' : Rd G d (.dT kvs')) : kvs = kvs' := by
  rcases h with h | ⟨o, h⟩ <;> rcases h' with h' | ⟨o', h'⟩ <;> (rw [h] at h'; first | (cases h'; done) | (cases h'; rfl))
theorem UnAt.noD {G G' : Hp} {d : Addr} {kvs : List (List L2.Key × V)} {as : List Addr} {us : List (List ((Int × Int) × Option Int))} (h : UnAt G as us) (s : Same (buts [d] G) G') (hd : Rd G d (.dT kvs)) (hd' : Rd G' d (.dT kvs)) : UnAt G' as us := by
  induction h with
  | nil => exact .nil
  | @cons a as u us h _ ih =>
    refine .cons ?_ ih
    by_cases c : a = d
    · subst c
      rw [rd_fun h hd]
      exact hd'
    · have n : a ∉ [d] := fun z => c (List.mem_singleton.mp z)
      exact h.imp (fun e => s _ _ (by rw [buts_ne n]; exact e)) fun ⟨o, e⟩ => ⟨o, s _ _ (by rw [buts_ne n]; exact e)⟩
/-! ### _mend -/
abbrev sSMend : Stmt := inClass (topS 28) 10
theorem scSMend : FnScope ["self", "values", "way", "marked", "looked", "changes", "low", "high", "x", "y", "old", "new"] ["self", "values"] (defScope sSMend) := ⟨rfl, rfl, rfl, by decide +kernel, rfl, by decide +kernel, by decide +kernel⟩
def chgD (f0 f1 : Int → Int → Option Int × Option Int) (p : Int × Int) : PyData := .tuple [.int p.1, .int p.2, oD (f0 p.1 p.2).1, oD (f1 p.1 p.2).1]
noncomputable def chgL (S : SesS) (rows' : List Row) : List (Int × Int) := S.W.filter (chB (wv S.rows) (wv rows'))
noncomputable def lookL (S : SesS) (rows' : List Row) (dom : Int × Int → Bool) : List (Int × Int) := S.W.filter (lkB S.L S.os dom (wv S.rows) (wv rows'))
noncomputable def SesS.mend (S : SesS) (vals : List ((Int × Int) × Option Int)) (rows' : List Row) : SesS := ⟨S.n, S.es, S.os, setW S.lk vals, rows', lookL S rows' (domU vals), S.und⟩
/-- the session's own lists are the ones of before, the list looked at is new -/
def KeepP (CS : Addr) (H H' : Hp) (A : SesA) (S S' : SesS) : Prop := ∀ ro en pa ab lkd, H A.p = some (.ins CS A.dx (fldZ sesN (sesV S A ro en pa ab lkd))) → ∃ ld, H ld = none ∧ H' A.p = some (.ins CS A.dx (fldZ sesN (sesV S' A ro en pa ab ld)))
def spSMend (K : PySem.W.Frag) (CS : Addr) : Sp := fun vs H Q _ => ∃ (A : SesA) (S : SesS) (vd : Addr) (vals : List ((Int × Int) × Option Int)), vs = [.ref A.p, .ref vd] ∧ SesAt CS H A S ∧ Rd (buts A.m H) vd (.dT (undK vals)) ∧ UOk S.es vals ∧ vd ≠ A.lo ∧ vals.length ≤ 2000 ∧
  ∀ H' q ts rows', H q = none → H' q = some (.lst ts) → DpAll K (buts (q :: A.m) H') ts ((chgL S rows').map (chgD (wv S.rows) (wv rows'))) → Same (buts (vd :: A.m) H) (buts (q :: vd :: A.m) H') → Rd H' vd (.dT (undK vals)) → KeepP CS H H' A S (S.mend vals rows') → SesAt CS (but H' q) A (S.mend vals rows') → Q (.ref q) H'
/-! rules -/
theorem keysTF_in {σ : L2.St} {H : Hp} {td : TE} {d : Addr} {kvs : List (List L2.Key × V)} {R : It → Hp → Prop} (hl : Vl td σ H (.ref d)) (hr : Rd H d (.dT kvs)) (k : ∀ od Hn, but Hn d = but H d → Hn d = some (.frz od (.dT kvs)) → R (Itkt d od kvs) Hn) : iKeysTF td σ H R := by
  refine hl _ ⟨d, kvs, rfl, ?_⟩
  rcases hr with e | ⟨od, e⟩
  · exact .inr ⟨e, fun od => k od _ but_upd upd_same⟩
  · exact .inl ⟨od, e, k od H rfl e⟩
/-- for k in d, the keys are tuples -/
theorem q_forKT {σ : L2.St} {H : Hp} {td : TE} {d : Addr} {kvs : List (List L2.Key × V)} {j : Nat} {tz tw : TS} {D : Ends} (hl : Vl td σ H (.ref d)) (hr : Rd H d (.dT kvs))
    (k : ∀ od Hn, but Hn d = but H d → Hn d = some (.frz od (.dT kvs)) → ∃ Pv : Nat → L2.St → Hp → Prop, Pv 0 σ Hn ∧ (∀ i σ' H', Pv i σ' H' → H' d = some (.frz od (.dT kvs))) ∧ (∀ i kk vv b σ' H', kvs[i]? = some (kk, vv) → H' b = some (.tup (kk.map kV)) → Pv i σ' H' → tz { D with nx := Pv (i + 1), ct := Pv (i + 1), bk := tw D } (σ'.set j (some (.ref b))) H') ∧ (∀ σ' H', Pv kvs.length σ' H' → tw D σ' H')) : tSeq (tFor (iKeysTF td) (gName j) tz) tw D σ H := by
  unfold tSeq tFor
  refine keysTF_in hl hr fun od Hn e1 e2 => ?_
  obtain ⟨Pv, h0, hG, hs, hd⟩ := k od Hn e1 e2
  refine for_it (D := { D with nx := tw D }) (walk_keysT (d := d) (o := od) (kvs := kvs)) Pv h0 (fun i σ H _ p => hG i σ H p) (fun i x σ H H' hi p hY => ?_) hd
  obtain ⟨rfl, kk, vv, b, hk, rfl, hb⟩ := hY
  exact hs i kk vv b σ _ hk hb p
/-- {k: True for k in d}, the keys are tuples -/
theorem dc_keysT {σ : L2.St} {H : Hp} {td : TE} {d : Addr} {kvs : List (List L2.Key × V)} {j : Nat} {Q : VK} (hj : j < σ.length) (hl : Vl td σ H (.ref d)) (hr : Rd H d (.dT kvs)) (hz : kvs.length ≤ 1000000)
    (q : ∀ D H' kvm, H D = none → Same (but H d) (but H' d) → Rd H' d (.dT kvs) → H' D = some (.dT kvm) → kvm.length ≤ kvs.length → (∀ k, (valV kvm k).isSome = true ↔ k ∈ kvs.map (·.1)) → Q (.ref D) H') : tDcT (iKeysTF td) (gName j) tYes (tVar j) (tC (.bl true)) [j] σ H Q := by
  refine keysTF_in hl hr fun od Hn e1 e2 D nD => ?_
  have hHd : H d ≠ none := fun e => by rcases hr with h | ⟨o, h⟩ <;> rw [e] at h <;> cases h
  have Dd : D ≠ d := fun z => by rw [z, e2] at nD; cases nD
  have nDH : H D = none := by
    have := congrFun e1 D
    rw [but_ne Dd, but_ne Dd, nD] at this
    exact this.symm
  refine ⟨fun i m H2 => m + i = kvs.length ∧ H2 d = some (.frz od (.dT kvs)) ∧ Same (but H d) (but (but H2 D) d) ∧ ∃ kvm, H2 D = some (.dT kvm) ∧ kvm.length ≤ i ∧ ∀ k, (valV kvm k).isSome = true ↔ k ∈ (kvs.take i).map (·.1), ⟨kvs.length, rfl, by rw [upd_ne (fun z => Dd z.symm)]; exact e2, ?_, [], upd_same, Nat.le_refl _, fun k => ?_⟩, fun i m H2 hW => ?_⟩
  · rw [but_upd, ← e1]
    intro a u e
    by_cases c : a = d
    · rw [c, but_at] at e
      cases e
    · rw [but_ne c] at e ⊢
      rw [but_ne fun z => by rw [z, nD] at e; cases e]
      exact e
  · rw [List.take_zero, valV_nil]
    exact ⟨(fun h => nomatch h), (fun h => nomatch h)⟩
  · obtain ⟨em, ed, s2, kvm, eD, lk, hk⟩ := hW
    by_cases hi : i < kvs.length
    · have hg : kvs[i]? = some (kvs[i]'hi) := List.getElem?_eq_getElem hi
      generalize kvs[i]'hi = kv at hg
      refine .inr ⟨⟨ed, hi⟩, fun H' => ∃ m', m' < m ∧ (m' + (i + 1) = kvs.length ∧ H' d = some (.frz od (.dT kvs)) ∧ Same (but H d) (but (but H' D) d) ∧ ∃ kvm, H' D = some (.dT kvm) ∧ kvm.length ≤ i + 1 ∧ ∀ k, (valV kvm k).isSome = true ↔ k ∈ (kvs.take (i + 1)).map (·.1)), fun H' h => h, fun x H' hy => ?_⟩
      obtain ⟨rfl, kk, vv, b, hk', rfl, hb⟩ := hy
      cases hg.symm.trans hk'
      refine ⟨?_, ?_⟩
      · show ((σ.set j none).set j (some (V.ref b))).set j none = σ.set j none
        rw [List.set_set, List.set_set]
      · refine yes_nowS ?_
        rw [if_pos rfl]
        refine ⟨.ref b, ?_, kvm, kk, b, rfl, hb, eD, Nat.lt_of_le_of_lt (m := 1000000) (by omega) (by decide), m - 1, by omega, by omega, ?_, ?_, _, upd_same, ?_, fun k => ?_⟩
        · show ((σ.set j none).set j (some (V.ref b)))[j]? = _
          exact List.getElem?_set_self (by rw [List.length_set]; exact hj)
        · rw [upd_ne (fun z => Dd z.symm)]
          exact ed
        · rw [but_upd]
          exact s2
        · have := putK_lenG9 (kvs := kvm) (k := kk) (v := .bl true)
          omega
        · rw [valV_put, wtake_snoc9 hg, List.map_append, List.mem_append]
          by_cases c : k = kk
          · rw [if_pos c]
            exact ⟨fun _ => .inr (List.mem_singleton.mpr c), fun _ => rfl⟩
          · rw [if_neg c, hk k]
            exact ⟨.inl, fun h => h.elim id fun h => absurd (List.mem_singleton.mp h) c⟩
    · have : i = kvs.length := by omega
      subst this
      rw [List.take_length] at hk
      refine .inl ⟨⟨ed, Nat.le_refl _⟩, q D H2 kvm nDH (fun a u e => ?_) (.inr ⟨od, ed⟩) eD lk hk⟩
      have := s2 _ _ e
      by_cases c : a = d
      · rw [c, but_at] at e
        cases e
      · rw [but_ne c] at this ⊢
        exact but_same _ _ this
abbrev sLowerPl : Stmt := topS 20
theorem scLowerPl : FnScope ["rows", "order", "row"] ["rows", "order"] (defScope sLowerPl) := ⟨rfl, rfl, rfl, by decide +kernel, rfl, by decide +kernel, by decide +kernel⟩
section
variable {P : Program} {w : World} {K : PySem.W.Frag} {mg : Str → Option Value} {base : Heap}
theorem ok_lowerPl {f : Addr} {fd : FuncData} {k : Nat} (F : Fun K "lower_places" "lower_places" sLowerPl f fd) (c_lower_by_pair : Kal P w K mg base k "_lower_by_pair" ["found", "order"] (spLowBy K)) : FnOk P w K mg base CX0 (k + 1) f fd ["rows", "order"] (spLowerPl K) := by
  refine F.ok scLowerPl (fun vs H Q E h => ?_) (fun cdv A outer s H vs Q E hr h => ?_)
  · obtain ⟨v, N, p, os, rows, rfl, _⟩ := h
    rfl
  · obtain ⟨v, N, p, os, rows, rfl, hR, okN, hS, oo, hfo, q⟩ := h
    refine ⟨_, pss_one (ps_ret (pe_k c_lower_by_pair hr (by first | decide | omega) (by rfl) (pa_cons (pe_lc (own := [("row", 2)]) (g := gName 2) (tt := tYes) (te := (tTup (tCons (tOp (rIxT K) (tVar 2) (tC (.int 0))) (tCons (tOp (rIxT K) (tVar 2) (tC (.int 1))) tNil)))) (by rfl) scLowerPl.nd (pi_list (pv 0)) (blkOk_by (own := [("row", 2)]) (N := ["rows", "order", "row"]) (sc := defScope sLowerPl) (by decide +kernel)) (fun _ _ _ _ _ => pg_name (i := 2) scLowerPl.nd rfl (Or.inl rfl)) (fun _ _ _ _ _ => by exact pts_nil) (fun _ _ _ _ _ => by exact (pe_tup (pa_cons (pe_ix ix_tup (pv 2) pe_int (fun _ _ => rfl)) (pa_cons (pe_ix ix_tup (pv 2) pe_int (fun _ _ => rfl)) pa_nil))))) (pa_cons (pv 1) pa_nil)))), ?_⟩
    obtain ⟨a, xs, rfl, hx, hd⟩ := Dp.lst_inv hR
    have hlen : rows.length ≤ 1600 := by
      have e := congrArg List.length hfo.pairs
      rw [List.length_map] at e
      rw [e]
      exact pairsL_len okN oo
    refine g_retCall1 (lc_prs (K := K) (by show 2 < 3; decide) (vl_var rfl) hx hd (by omega) fun D H1 ts s1 nD eD hT => ?_)
    have hp : rows.map prOf = pairsL N.ls os := hfo.pairs
    rw [hp] at hT
    exact ⟨_, rfl, D, p, ts, N, os, rfl, .of eD, hT, s1.seq hS, okN, oo, fun H2 d kvs s2 nd hL => q H2 d kvs (s1.trans s2) (Same.free s1 nd) ⟨hL.d, hL.len, fun z hz => let ⟨u, v, a, h1, h2, h3, h4⟩ := hL.all z hz; ⟨u, v, a, h1, h2, Same.free s1 h3, h4⟩, hL.has⟩⟩
end
/-- [row[:2] for row in rows] -/
theorem lc_cut2 {K : PySem.W.Frag} {σ : L2.St} {H : Hp} {tl : TE} {j : Nat} {rows : List Row} {xs : List V} {a : Addr} {Q : VK} (hj : j < σ.length) (hl : Vl tl σ H (.ref a)) (hx : SqL K H a xs) (hd : DpAll K H xs (rows.map rowD)) (hz : rows.length ≤ 100000)
    (q : ∀ D H' ts, Same H H' → H D = none → H' D = some (.lst ts) → TupsAt H' ts (rows.map prOf) → Q (.ref D) H') : tLc (iList K tl) (gName j) tYes (tSl (rSlT K) (tVar j) tNoPart (tPart (tC (.int 2)))) [j] σ H Q := by
  have lx := DpAll.len hd
  rw [List.length_map] at lx
  refine hl _ ⟨a, rfl, ⟨_, hx⟩, fun D nD => lc_list (xs := xs) (fun i H' => ∃ ts, H' D = some (.lst ts) ∧ Same H H' ∧ TupsAt H' ts ((rows.take i).map prOf)) ⟨[], upd_same, same_upd nD, TupsAt.nil⟩ (fun i H' _ hP => hP.choose_spec.2.1.seq hx) (fun i x H2 hi hP => ?_) (fun H2 hP => ?_)⟩
  · obtain ⟨ts, hD, s2, hT⟩ := hP
    have hil := (List.getElem?_eq_some_iff.mp hi).1
    have hg : rows[i]? = some rows[i] := List.getElem?_eq_getElem (by omega)
    generalize rows[i] = r at hg
    obtain ⟨v', ev, dv⟩ := DpAll.get (i := i) (d := rowD r) hd (by
      rw [List.getElem?_map, hg]
      rfl)
    cases hi.symm.trans ev
    obtain ⟨t, rfl, ht⟩ := Dp.row_inv dv
    have hjl : ((σ.set j none).set j (some (V.ref t)))[j]? = some (some (V.ref t)) := List.getElem?_set_self (by rw [List.length_set]; exact hj)
    refine ⟨?_, ?_⟩
    · show ((σ.set j none).set j (some (V.ref t))).set j none = σ.set j none
      rw [List.set_set, List.set_set]
    · refine iteT (B := ∃ ts, H2 D = some (.lst ts) ∧ Same H H2 ∧ TupsAt H2 ts ((rows.take (i + 1)).map prOf)) ⟨_, hjl, 2, rfl, t, rowV r, rfl, seqT s2 ht, fun z => ?_, fun T nT => ?_⟩
      · have := z.2
        rw [show HT.sIx (rowV r).length (rowV r).length (some 2) = min 2 6 from HT.sIx_nat 6 6 2] at this
        exact absurd (show (2 : Nat) = 6 from this) (by decide)
      · rw [show cutV (rowV r) none (some 2) = [.int r.u, .int r.v] from cut_to (xs := rowV r) (n := 2) (by show 2 ≤ 6; decide)]
        refine ⟨ts, same_upd nT _ _ hD, ?_, ts ++ [.ref T], upd_same, same_upd' (s2.trans (same_upd nT)) nD, ?_⟩
        · rw [hT.len, List.length_map, List.length_take]
          exact Nat.lt_of_le_of_lt (m := 100000) (by omega) (by decide)
        · rw [take_snoc hg, List.map_append]
          exact ((hT.to (same_upd nT)).app (TupsAt.one upd_same)).upd (same_upd nT _ _ hD)
  · obtain ⟨ts, hD, s2, hT⟩ := hP
    rw [lx, List.take_length] at hT
    exact q D H2 ts s2 nD hD hT
section
variable {K : PySem.W.Frag} {σ : L2.St} {H : Hp} {a : Addr} {D : Ends} {tz tw : TS} {te td ta tb : TE}
/-- for low, high, up, down, up_middle, down_middle in rows -/
theorem g_forRow {j1 j2 j3 j4 j5 j6 : Nat} {Hb : Hp} {xs : List V} {rows : List Row} {tl : TE} (h : Vl tl σ H (.ref a)) (hx : SqL K Hb a xs) (hL : DpAll K Hb xs (rows.map rowD)) (hb : Same Hb H) (Pv : Nat → L2.St → Hp → Prop) (h0 : Pv 0 σ H) (hl : ∀ i σ' H', Pv i σ' H' → Same Hb H')
    (hs : ∀ (i : Nat) r σ H, rows[i]? = some r → Pv i σ H → tz { D with nx := Pv (i + 1), ct := Pv (i + 1), bk := D.nx } ((((((σ.set j1 (some (.int r.u))).set j2 (some (.int r.v))).set j3 (some (oV r.up))).set j4 (some (oV r.dn))).set j5 (some (oV r.um))).set j6 (some (oV r.dm))) H) (hd : ∀ σ H, Pv rows.length σ H → D.nx σ H) :
    tFor (iList K tl) (gTup K 6 (gCons (gName j1) (gCons (gName j2) (gCons (gName j3) (gCons (gName j4) (gCons (gName j5) (gCons (gName j6) gNil))))))) tz D σ H := h _ ⟨a, rfl, ⟨_, hb.seq hx⟩, for_list (xs := xs) Pv h0 (fun i σ H _ p => (hl i σ H p).seq hx) (fun i x σ H hi p => by
      have e := DpAll.len hL
      rw [List.length_map] at e
      have hlt := (List.getElem?_eq_some_iff.mp hi).1
      have hg : rows[i]? = some rows[i] := List.getElem?_eq_getElem (by omega)
      obtain ⟨v, hv, dv⟩ := DpAll.get (i := i) (d := rowD rows[i]) hL (by
        rw [List.getElem?_map, hg]
        rfl)
      cases hi.symm.trans hv
      obtain ⟨t, rfl, ht⟩ := Dp.row_inv dv
      exact ⟨t, _, rfl, seqT (hl i σ H p) ht, rfl, _, _, rfl, _, _, rfl, _, _, rfl, _, _, rfl, _, _, rfl, _, _, rfl, rfl, hs i _ σ H hg p⟩) (fun σ H p => by
      have e := DpAll.len hL
      rw [List.length_map] at e
      rw [e] at p
      exact hd σ H p)⟩
theorem q_forRow {j1 j2 j3 j4 j5 j6 : Nat} {Hb : Hp} {xs : List V} {rows : List Row} {tl : TE} (h : Vl tl σ H (.ref a)) (hx : SqL K Hb a xs) (hL : DpAll K Hb xs (rows.map rowD)) (hb : Same Hb H) (Pv : Nat → L2.St → Hp → Prop) (h0 : Pv 0 σ H) (hl : ∀ i σ' H', Pv i σ' H' → Same Hb H')
    (hs : ∀ (i : Nat) r σ H, rows[i]? = some r → Pv i σ H → tz { D with nx := Pv (i + 1), ct := Pv (i + 1), bk := tw D } ((((((σ.set j1 (some (.int r.u))).set j2 (some (.int r.v))).set j3 (some (oV r.up))).set j4 (some (oV r.dn))).set j5 (some (oV r.um))).set j6 (some (oV r.dm))) H) (hd : ∀ σ H, Pv rows.length σ H → tw D σ H) :
    tSeq (tFor (iList K tl) (gTup K 6 (gCons (gName j1) (gCons (gName j2) (gCons (gName j3) (gCons (gName j4) (gCons (gName j5) (gCons (gName j6) gNil))))))) tz) tw D σ H := g_forRow (D := { D with nx := tw D }) h hx hL hb Pv h0 hl hs hd
/-- a loop over what a call has told -/
theorem q_forE {g : TG} (h : te σ H fun x H1 => tSeq (tFor (iList K fun _ H' Q => Q x H') g tz) tw D σ H1) : tSeq (tFor (iList K te) g tz) tw D σ H := h
theorem g_forE {g : TG} (h : te σ H fun x H1 => tFor (iList K fun _ H' Q => Q x H') g tz D σ H1) : tFor (iList K te) g tz D σ H := h
/-- d[x, y] of ints, the tuple new -/
theorem ve_dgetN {o : Addr} {kvs : List (List L2.Key × V)} {x y : Int} {v : V} (ho : Vl td σ H (.ref o)) (h1 : Vl ta σ H (.int x)) (h2 : Vl tb σ H (.int y)) (hd : H o = some (.dT kvs)) (hv : valV kvs (K2 (x, y)) = some v) : Ve (tDGet td (tTup (tCons ta (tCons tb tNil)))) σ H v := fun Q q =>
  ho _ (h1 _ (h2 _ ⟨by show 2 ≤ sizeLine; decide, fun T nT => ⟨o, v, rfl, by
    rw [← hv]
    exact DGet.t (k := K2 (x, y)) (same_upd nT _ _ hd) upd_same, q _ (same_upd nT)⟩⟩))
theorem ax_notNV {v : V} (h : Ve te σ H v) : Ax (tTest (tOp (fun x y H Q => y = V.non ∧ Q (V.bl (!decide (x = V.non))) H) te (tC .non))) σ H (!decide (v = .non)) := fun Q k => h _ fun H' s' => ⟨rfl, _, rfl, k H' s'⟩
theorem ve_I0 {g : Int → Int → V} {i j : Int} (h1 : Ve ta σ H (.int i)) (h2 : ∀ H', Same H H' → Ve tb σ H' (.int j)) : Ve (tOp (rI0 g) ta tb) σ H (g i j) := fun Q q => h1 _ fun H1 s1 => h2 H1 s1 _ fun H2 s2 => ⟨i, j, rfl, rfl, q H2 (s1.trans s2)⟩
theorem ax_op {r : R2} {b : Bool} (h : ∀ Q : Bool → Hp → Prop, (∀ H', Same H H' → Q b H') → ta σ H fun x H1 => tb σ H1 fun y H2 => r x y H2 fun z H3 => ∃ b', z = .bl b' ∧ Q b' H3) : Ax (tTest (tOp r ta tb)) σ H b := h
theorem ax_test {b : Bool} (h : Ve te σ H (.bl b)) : Ax (tTest te) σ H b := fun Q k => h _ fun H' s' => ⟨_, rfl, k H' s'⟩
/-- (p, m) != (q, n) -/
theorem ax_neOO {t1 t2 t3 t4 : TE} {p m q n : Option Int} (h1 : Vl t1 σ H (oV p)) (h2 : Vl t2 σ H (oV m)) (h3 : ∀ H', Same H H' → Vl t3 σ H' (oV q)) (h4 : ∀ H', Same H H' → Vl t4 σ H' (oV n)) :
    Ax (tTest (tOp (rNeD K) (tTup (tCons t1 (tCons t2 tNil))) (tTup (tCons t3 (tCons t4 tNil))))) σ H (!decide ((p, m) = (q, n))) := fun Q k =>
  h1 _ (h2 _ ⟨by show 2 ≤ sizeLine; decide, fun T nT => h3 _ (same_upd nT) _ (h4 _ (same_upd nT) _ ⟨by show 2 ≤ sizeLine; decide, fun S nS => by
    have s1 : Same H (upd H T (.tup [oV p, oV m])) := same_upd nT
    have s2 : Same (upd H T (.tup [oV p, oV m])) (upd (upd H T (.tup [oV p, oV m])) S (.tup [oV q, oV n])) := same_upd nS
    have lay : ∀ a b : Option Int, SeqAt.shaped (.tuple [oD a, oD b]) = true := fun a b => by
      have e1 := lay_o a
      have e2 := lay_o b
      show ((PyData.tuple [oD a, oD b]).canLay0 && decide ((PyData.tuple [oD a, oD b]).depth ≤ 64)) = true
      rw [show (PyData.tuple [oD a, oD b]).canLay0 = true by
        show ((oD a).canLay0 && ((oD b).canLay0 && true)) = true
        rw [e1.1, e2.1] <;> rfl, show (PyData.tuple [oD a, oD b]).depth = 1 by
        show max (oD a).depth (max (oD b).depth 0) + 1 = 1
        rw [e1.2, e2.2] <;> rfl]
      rfl
    refine ⟨.tuple [oD p, oD m], .tuple [oD q, oD n], .tup (.of (s2 _ _ upd_same)) (.cons (Dp.o _) (.cons (Dp.o _) .nil)), .tup (.of upd_same) (.cons (Dp.o _) (.cons (Dp.o _) .nil)), lay p m, lay q n, _, rfl, ?_⟩
    rw [show PyData.eqv (.tuple [oD p, oD m]) (.tuple [oD q, oD n]) = decide ((p, m) = (q, n)) by
      show (PyData.eqv (oD p) (oD q) && (PyData.eqv (oD m) (oD n) && true)) = _
      rw [eqv_o, eqv_o, Bool.and_true, Bool.eq_iff_iff, Bool.and_eq_true, decide_eq_true_eq, decide_eq_true_eq, decide_eq_true_eq]
      exact ⟨fun h => by rw [h.1, h.2], fun h => ⟨congrArg Prod.fst h, congrArg Prod.snd h⟩⟩]
    exact k _ (s1.trans s2)⟩)⟩)
end
def d4 (d : Int × Int × Option Int × Option Int) : List V := [.int d.1, .int d.2.1, oV d.2.2.1, oV d.2.2.2]
/-- for x, y, price, told in a list of two -/
theorem g_for4 {K : PySem.W.Frag} {σ : L2.St} {H : Hp} {D : Ends} {tz : TS} {j1 j2 j3 j4 : Nat} {Hb : Hp} {L T1 T2 : Addr} {d1 d2 : Int × Int × Option Int × Option Int} (eL : Hb L = some (.lst [.ref T1, .ref T2])) (e1 : Hb T1 = some (.tup (d4 d1))) (e2 : Hb T2 = some (.tup (d4 d2))) (hb : Same Hb H) (Pv : Nat → L2.St → Hp → Prop) (h0 : Pv 0 σ H)
    (hl : ∀ i σ' H', Pv i σ' H' → Same Hb H') (hs : ∀ (i : Nat) d σ H, [d1, d2][i]? = some d → Pv i σ H → tz { D with nx := Pv (i + 1), ct := Pv (i + 1), bk := D.nx } ((((σ.set j1 (some (.int d.1))).set j2 (some (.int d.2.1))).set j3 (some (oV d.2.2.1))).set j4 (some (oV d.2.2.2))) H) (hd : ∀ σ H, Pv 2 σ H → D.nx σ H) :
    tFor (iList K fun _ H' Q => Q (.ref L) H') (gTup K 4 (gCons (gName j1) (gCons (gName j2) (gCons (gName j3) (gCons (gName j4) gNil))))) tz D σ H := ⟨L, rfl, ⟨_, .of (hb _ _ eL)⟩, for_list (xs := [.ref T1, .ref T2]) Pv h0 (fun i σ H _ p => .of (hl i σ H p _ _ eL)) (fun i x σ H hi p => by
      match i, hi, p with
      | 0, hi, p =>
        cases hi
        exact ⟨T1, _, rfl, .of (hl _ _ _ p _ _ e1), rfl, _, _, rfl, _, _, rfl, _, _, rfl, _, _, rfl, rfl, hs 0 d1 σ H rfl p⟩
      | 1, hi, p =>
        cases hi
        exact ⟨T2, _, rfl, .of (hl _ _ _ p _ _ e2), rfl, _, _, rfl, _, _, rfl, _, _, rfl, _, _, rfl, rfl, hs 1 d2 σ H rfl p⟩
      | n + 2, hi, p => simp at hi) hd⟩
theorem oV_some {o : Option Int} {x : Int} (h : o = some x) : oV o = .int x := by
  rw [h]
  rfl
section
variable {P : Program} {w : World} {K : PySem.W.Frag} {mg : Str → Option Value} {base : Heap}
end
/-! ### a session is made -/
abbrev sSInit : Stmt := inClass (topS 28) 0
theorem scSInit : FnScope ["self", "net", "order", "rows", "low", "high", "up", "down", "up_middle", "down_middle", "link", "row", "place"] ["self", "net", "order"] (defScope sSInit) := ⟨rfl, rfl, rfl, by decide +kernel, rfl, by decide +kernel, by decide +kernel⟩
/-- a heap without what were lists before -/
def unl (G H' : Hp) : Hp := fun a => match G a with
  | some (.lst _) => none
  | _ => H' a
theorem unl_new {G H' : Hp} {a : Addr} {u : HO} (n : G a = none) (e : H' a = some u) : unl G H' a = some u := by
  unfold unl
  rw [n]
  exact e
theorem unl_not {G H' : Hp} {a : Addr} {u : HO} (n : ∀ xs, G a ≠ some (.lst xs)) (e : H' a = some u) : unl G H' a = some u := by
  unfold unl
  split
  · rename_i xs h
    exact absurd h (n xs)
  · exact e
theorem unl_at {G H' : Hp} {a : Addr} {u : HO} (e : unl G H' a = some u) : (∀ xs, G a ≠ some (.lst xs)) ∧ H' a = some u := by
  unfold unl at e
  split at e
  · cases e
  · rename_i h
    exact ⟨fun xs z => h xs z, e⟩
def spSInit (K : PySem.W.Frag) (CS : Addr) : Sp := fun vs H Q _ => ∃ (p dx o : Addr) (v : V) (N : Net) (os : List Int), vs = [.ref p, v, .ref o] ∧ H p = some (.ins CS dx []) ∧ Dp K (but H p) v (netD N) ∧ NetOk N ∧ but H p o = some (.lst (os.map V.int)) ∧ OrdOk N.n os ∧
  ∀ H' A rows, A.p = p → A.dx = dx → A.us = [] → Same (but H p) (buts A.m H') → (∀ a, a ∈ A.lo :: A.m → a ≠ p → H a = none) → SesAt CS (unl (but H p) H') A ⟨N.n, endsL N.ls, os, linkW N.ls, rows, [], []⟩ → Q .non H'
theorem fldN {f : Str} {i : Nat} {vs : List V} {y : V} (hf : sesN.take i ++ [f] = sesN.take (i + 1)) (hn : (sesN.take i).findIdx? (fun x => decide (x = f)) = none) (hl : (sesN.take i).length = vs.length) : putF f y (fldZ (sesN.take i) vs) = fldZ (sesN.take (i + 1)) (vs ++ [y]) := by
  rw [fldZ_new hn hl, hf]
mutual
theorem dpF {K : PySem.W.Frag} {H H' : Hp} (hs : ∀ a xs, SqL K H a xs → SqL K H' a xs) (ht : ∀ a xs, SqT K H a xs → SqT K H' a xs) : ∀ (d : PyData) (v : V), Dp K H v d → Dp K H' v d
  | .none, _, h => by
    cases h
    exact .non
  | .bool b, _, h => by
    cases h
    exact .bl b
  | .int i, _, h => by
    cases h
    exact .int i
  | .str x, _, h => by
    cases h
    exact .str x
  | .list ds, _, h => by
    cases h with
    | lst h1 ha => exact .lst (hs _ _ h1) (dpFAll hs ht ds _ ha)
  | .tuple ds, _, h => by
    cases h with
    | tup h1 ha => exact .tup (ht _ _ h1) (dpFAll hs ht ds _ ha)
  | .dict _, _, h => by cases h
theorem dpFAll {K : PySem.W.Frag} {H H' : Hp} (hs : ∀ a xs, SqL K H a xs → SqL K H' a xs) (ht : ∀ a xs, SqT K H a xs → SqT K H' a xs) : ∀ (ds : List PyData) (vs : List V), DpAll K H vs ds → DpAll K H' vs ds
  | [], _, h => by
    cases h
    exact .nil
  | d :: ds, _, h => by
    cases h with
    | cons h1 h2 => exact .cons (dpF hs ht d _ h1) (dpFAll hs ht ds _ h2)
end
theorem sqlF {K : PySem.W.Frag} {H : Hp} {p C dx a : Addr} {fs : List (Str × V)} {xs : List V} (e : H p = some (.ins C dx fs)) (h : SqL K H a xs) : SqL K (but H p) a xs := by
  rcases h with (h | ⟨o, h⟩) | h
  · exact .inl (.inl (by rw [but_ne (fun z => by rw [z, e] at h; cases h)]; exact h))
  · exact .inl (.inr ⟨o, by rw [but_ne (fun z => by rw [z, e] at h; cases h)]; exact h⟩)
  · exact .inr h
theorem sqtF {K : PySem.W.Frag} {H : Hp} {p C dx a : Addr} {fs : List (Str × V)} {xs : List V} (e : H p = some (.ins C dx fs)) (h : SqT K H a xs) : SqT K (but H p) a xs := by
  rcases h with (h | ⟨o, h⟩) | h
  · exact .inl (.inl (by rw [but_ne (fun z => by rw [z, e] at h; cases h)]; exact h))
  · exact .inl (.inr ⟨o, by rw [but_ne (fun z => by rw [z, e] at h; cases h)]; exact h⟩)
  · exact .inr h
theorem q_fldS {K : PySem.W.Frag} {σ : L2.St} {H : Hp} {D : Ends} {tw : TS} {ta tv : TE} {f : Str} (h : tv σ H fun y H1 => ta σ H1 fun x H2 => ∃ a C dx fs, x = .ref a ∧ H2 a = some (.ins C dx fs) ∧ Cls K C ∧ NoAttr K C f ∧ fs.length < 1000 ∧ tw D σ (upd H2 a (.ins C dx (putF f y fs)))) : tSeq (sFld K ta tv f) tw D σ H := h
theorem g_fldS {K : PySem.W.Frag} {σ : L2.St} {H : Hp} {D : Ends} {ta tv : TE} {f : Str} (h : tv σ H fun y H1 => ta σ H1 fun x H2 => ∃ a C dx fs, x = .ref a ∧ H2 a = some (.ins C dx fs) ∧ Cls K C ∧ NoAttr K C f ∧ fs.length < 1000 ∧ D.nx σ (upd H2 a (.ins C dx (putF f y fs)))) : sFld K ta tv f D σ H := h
/-- [(link[0], link[1]) for link in links] -/
theorem lc_lnkS {K : PySem.W.Frag} {σ : L2.St} {H : Hp} {tl : TE} {j : Nat} {ls : List Lnk} {xs : List V} {a : Addr} {Q : VK} (hj : j < σ.length) (hl : Vl tl σ H (.ref a)) (hx : SqL K H a xs) (hd : DpAll K H xs (ls.map lnkD)) (hz : ls.length ≤ 100000)
    (q : ∀ D H' ts, Same H H' → H D = none → H' D = some (.lst ts) → TupsAt H' ts (endsL ls) → Q (.ref D) H') : tLc (iList K tl) (gName j) tYes (tTup (tCons (tOp (rIxT K) (tVar j) (tC (.int 0))) (tCons (tOp (rIxT K) (tVar j) (tC (.int 1))) tNil))) [j] σ H Q := by
  have lx := DpAll.len hd
  rw [List.length_map] at lx
  refine hl _ ⟨a, rfl, ⟨_, hx⟩, fun D nD => lc_list (xs := xs) (fun i H' => ∃ ts, H' D = some (.lst ts) ∧ Same H H' ∧ TupsAt H' ts (endsL (ls.take i))) ⟨[], upd_same, same_upd nD, TupsAt.nil⟩ (fun i H' _ hP => hP.choose_spec.2.1.seq hx) (fun i x H2 hi hP => ?_) (fun H2 hP => ?_)⟩
  · obtain ⟨ts, hD, s2, hT⟩ := hP
    have hil := (List.getElem?_eq_some_iff.mp hi).1
    have hg : ls[i]? = some (ls[i]'(by omega)) := List.getElem?_eq_getElem (by omega)
    generalize ls[i]'(by omega) = r at hg
    obtain ⟨v', ev, dv⟩ := DpAll.get (i := i) (d := lnkD r) hd (by
      rw [List.getElem?_map, hg]
      rfl)
    cases hi.symm.trans ev
    obtain ⟨t, rfl, ht⟩ := Dp.lnk_inv dv
    have hjl : ((σ.set j none).set j (some (V.ref t)))[j]? = some (some (V.ref t)) := List.getElem?_set_self (by rw [List.length_set]; exact hj)
    refine ⟨?_, ?_⟩
    · show ((σ.set j none).set j (some (V.ref t))).set j none = σ.set j none
      rw [List.set_set, List.set_set]
    · refine iteT (B := ∃ ts, H2 D = some (.lst ts) ∧ Same H H2 ∧ TupsAt H2 ts (endsL (ls.take (i + 1)))) ((vl_ixT (K := K) (vl_var hjl) vl_c (seqT s2 ht) (atI_nat (j := 0) rfl)) _ ((vl_ixT (K := K) (vl_var hjl) vl_c (seqT s2 ht) (atI_nat (j := 1) rfl)) _ ⟨by show 2 ≤ sizeLine; decide, fun T nT => ⟨ts, same_upd nT _ _ hD, ?_, ts ++ [.ref T], upd_same, same_upd' (s2.trans (same_upd nT)) nD, ?_⟩⟩))
      · rw [hT.len]
        unfold endsL
        rw [List.length_map, List.length_take]
        exact Nat.lt_of_le_of_lt (m := 100000) (by omega) (by decide)
      · have e : endsL (ls.take (i + 1)) = endsL (ls.take i) ++ [(r.a, r.b)] := by
          rw [wtake_snoc9 hg]
          unfold endsL
          rw [List.map_append]
          rfl
        rw [e]
        exact ((hT.to (same_upd nT)).app (TupsAt.one upd_same)).upd (same_upd nT _ _ hD)
  · obtain ⟨ts, hD, s2, hT⟩ := hP
    rw [lx, List.take_length] at hT
    exact q D H2 ts s2 nD hD hT
theorem vl_sesK {K : PySem.W.Frag} {CS : Addr} (T : SesT K CS) {σ : L2.St} {H : Hp} {te : TE} {p dx : Addr} {ks : List Str} {vs : List V} {f : Str} {v : V} (i : Nat) (h : H p = some (.ins CS dx (fldZ ks vs))) (hx : Vl te σ H (.ref p)) (hv : vs[i]? = some v) (hi : ks.findIdx? (fun x => decide (x = f)) = some i) (hm : f ∈ sesN) : Vl (tFld K te f) σ H v :=
  fun Q q => hx _ ⟨p, CS, dx, _, v, rfl, h, T.cl, T.no f hm, by rw [fldZ_get hi]; exact hv, q⟩
/-- while the rows are laid in -/
structure IniH (CS p dx pr mi : Addr) (rw : List Addr) (fs : List V) (Hi : Hp) (cur : Nat → List V) (kvp kvm : List (List L2.Key × V)) (G : Hp) : Prop where
  hp : G p = some (.ins CS dx (fldZ (sesN.take 9) fs))
  hpr : G pr = some (.dT kvp)
  hmi : G mi = some (.dT kvm)
  hs : Same (buts ([p, pr, mi] ++ rw) Hi) (buts ([p, pr, mi] ++ rw) G)
  hab : ∀ j a, rw[j]? = some a → G a = some (.lst (cur j))
theorem IniH.putP {CS p dx pr mi : Addr} {rw : List Addr} {fs : List V} {Hi : Hp} {cur : Nat → List V} {kvp kvm kvn : List (List L2.Key × V)} {G : Hp} {U : Addr} {xs : List V} (h : IniH CS p dx pr mi rw fs Hi cur kvp kvm G) (n : pr ≠ mi) (nU : G U = none) : IniH CS p dx pr mi rw fs Hi cur kvn kvm (upd (upd G U (.tup xs)) pr (.dT kvn)) := by
  have sU := same_upd (o := .tup xs) nU
  refine ⟨?_, upd_same, ?_, ?_, fun j a ha => ?_⟩
  · rw [upd_ne (fun z => by have := h.hp; rw [z, h.hpr] at this; cases this)]
    exact sU _ _ h.hp
  · rw [upd_ne (fun z => n z.symm)]
    exact sU _ _ h.hmi
  · rw [buts_upd (by simp)]
    exact h.hs.trans (buts_mono sU)
  · rw [upd_ne (fun z => by have := h.hab j a ha; rw [z, h.hpr] at this; cases this)]
    exact sU _ _ (h.hab j a ha)
theorem IniH.putM {CS p dx pr mi : Addr} {rw : List Addr} {fs : List V} {Hi : Hp} {cur : Nat → List V} {kvp kvm kvn : List (List L2.Key × V)} {G : Hp} {U : Addr} {xs : List V} (h : IniH CS p dx pr mi rw fs Hi cur kvp kvm G) (n : pr ≠ mi) (nU : G U = none) : IniH CS p dx pr mi rw fs Hi cur kvp kvn (upd (upd G U (.tup xs)) mi (.dT kvn)) := by
  have sU := same_upd (o := .tup xs) nU
  refine ⟨?_, ?_, upd_same, ?_, fun j a ha => ?_⟩
  · rw [upd_ne (fun z => by have := h.hp; rw [z, h.hmi] at this; cases this)]
    exact sU _ _ h.hp
  · rw [upd_ne n]
    exact sU _ _ h.hpr
  · rw [buts_upd (by simp)]
    exact h.hs.trans (buts_mono sU)
  · rw [upd_ne (fun z => by have := h.hab j a ha; rw [z, h.hmi] at this; cases this)]
    exact sU _ _ (h.hab j a ha)
theorem IniH.app {CS p dx pr mi : Addr} {rw : List Addr} {fs : List V} {Hi : Hp} {cur cur' : Nat → List V} {kvp kvm : List (List L2.Key × V)} {G : Hp} {j : Nat} {a : Addr} (h : IniH CS p dx pr mi rw fs Hi cur kvp kvm G) (nd : rw.Nodup) (ha : rw[j]? = some a) (hc : ∀ i, i ≠ j → i < rw.length → cur' i = cur i) : IniH CS p dx pr mi rw fs Hi cur' kvp kvm (upd G a (.lst (cur' j))) := by
  have ea := h.hab j a ha
  have hm := List.mem_of_getElem? ha
  refine ⟨?_, ?_, ?_, ?_, fun i b hb => ?_⟩
  · rw [upd_ne (fun z => by have := h.hp; rw [z, ea] at this; cases this)]
    exact h.hp
  · rw [upd_ne (fun z => by have := h.hpr; rw [z, ea] at this; cases this)]
    exact h.hpr
  · rw [upd_ne (fun z => by have := h.hmi; rw [z, ea] at this; cases this)]
    exact h.hmi
  · rw [buts_upd (List.mem_append.mpr (.inr hm))]
    exact h.hs
  · by_cases c : i = j
    · subst c
      cases ha.symm.trans hb
      exact upd_same
    · have : b ≠ a := fun z => by
        subst z
        have l1 := (List.getElem?_eq_some_iff.mp hb).1
        exact c ((List.getElem?_inj l1 nd).mp (hb.trans ha.symm))
      rw [upd_ne this, hc i c (List.getElem?_eq_some_iff.mp hb).1]
      exact h.hab i b hb
def abvS (L : List (Int × Int)) (w : Int) : List V := (L.filter fun q => decide (q.1 = w)).map fun q => V.int q.2
theorem row_wv {N : Net} {os : List Int} {rows : List Row} (ok : NetOk N) (oo : OrdOk N.n os) (h : FillOk N os rows) {i : Nat} {r : Row} (hr : rows[i]? = some r) : (pairsL N.ls os)[i]? = some (r.u, r.v) ∧ wv rows r.u r.v = (r.up, r.um) ∧ wv rows r.v r.u = (r.dn, r.dm) := by
  have hp : rows.map prOf = pairsL N.ls os := h.mapP
  have hi : (pairsL N.ls os)[i]? = some (r.u, r.v) := by rw [← hp, List.getElem?_map, hr]; rfl
  have hm : (r.u, r.v) ∈ rows.map prOf := List.mem_map.mpr ⟨r, List.mem_of_getElem? hr, rfl⟩
  have hmL : (r.u, r.v) ∈ pairsL N.ls os := by rw [← hp]; exact hm
  obtain ⟨r', e', hr', e1, e2⟩ := find_some hm
  have nd : (pairsL N.ls os).Nodup := pairsL_nodup oo
  obtain ⟨j, hj⟩ := List.mem_iff_getElem?.mp hr'
  have ji : j = i := by
    have a1 : (pairsL N.ls os)[j]? = some (r.u, r.v) := by rw [← hp, List.getElem?_map, hj]; show some (prOf r') = _; unfold prOf; rw [e1, e2]
    exact (List.getElem?_inj (List.getElem?_eq_some_iff.mp a1).1 nd).mp (a1.trans hi.symm)
  subst ji
  cases hj.symm.trans hr
  refine ⟨hi, ?_, ?_⟩
  · unfold wv
    rw [e']
  · have n : (r.v, r.u) ∉ rows.map prOf := by
      rw [hp]
      exact anti ok oo hmL
    unfold wv
    rw [find_none n, e']
theorem LowD.getN {H H' : Hp} {d : Addr} {kvs : List (List L2.Key × V)} {L : List (Int × Int)} {os : List Int} (h : LowD H H' d kvs L os) {u v : Int} (hm : (u, v) ∈ L) : ∃ a, valV kvs (K2 (u, v)) = some (.ref a) ∧ H a = none ∧ H' a = some (.lst ((lowerL L os u v).map V.int)) := by
  obtain ⟨y, hy⟩ := h.has u v hm
  unfold valV at hy
  cases e : kvs.find? fun kv => decide (kv.1 = [Sum.inl u, Sum.inl v]) with
  | none =>
    rw [e] at hy
    cases hy
  | some p =>
    have e1 := List.mem_of_find?_eq_some e
    have e2 : p.1 = [Sum.inl u, Sum.inl v] := by simpa using List.find?_some e
    obtain ⟨u', v', a, hm', rfl, hn, ha⟩ := h.all p e1
    have e3 := key2.mp e2
    obtain ⟨rfl, rfl⟩ := e3
    refine ⟨a, ?_, hn, ha⟩
    show (kvs.find? fun kv => decide (kv.1 = [Sum.inl u', Sum.inl v'])).map (·.2) = _
    rw [e] <;> rfl
section
variable {P : Program} {w : World} {K : PySem.W.Frag} {mg : Str → Option Value} {base : Heap} {CS : Addr}
theorem ok_sInit {f : Addr} {fd : FuncData} {k k1 k2 k3 : Nat} (l1 : k1 ≤ k) (l2 : k2 ≤ k) (l3 : k3 ≤ k) (F : Fun K "__init__" "Session.__init__" sSInit f fd) (T : SesT K CS) (c_fill : Kal P w K mg base k1 "fill" ["net", "order"] (spFill K)) (c_link_ways : Kal P w K mg base k2 "link_ways" ["net"] (spLinkWays K)) (c_lower_places : Kal P w K mg base k3 "lower_places" ["rows", "order"] (spLowerPl K)) (mL : mg "list" = none) : FnOk P w K mg base CX0 (k + 1) f fd ["self", "net", "order"] (spSInit K CS) := by
  refine F.ok scSInit (fun vs H Q E h => ?_) (fun cdv A outer s H vs Q E hr h => ?_)
  · obtain ⟨p, dx, o, v, N, os, rfl, _⟩ := h
    rfl
  · obtain ⟨p, dx, o, v, N, os, rfl, ep, hN, ok, hO, oo, q⟩ := h
    have hu := hu_of hr
    refine ⟨_, pss_cons (ps_set (i := 3) scSInit.nd rfl (.inl rfl) (pe_k c_fill hr (by first | decide | omega) (by rfl) (pa_cons (pv 1) (pa_cons (pv 2) pa_nil))))
      (pss_cons (ps_fld (pv 0) (pe_ix ix_tup (pv 1) pe_int (fun _ _ => rfl)) rfl)
      (pss_cons (ps_fld (pv 0) (pe_callTy call_list_of (by rfl) mL (by decide +kernel) (pa_cons (pv 2) pa_nil)) rfl)
      (pss_cons (ps_fld (pv 0) (pe_lc (own := [("link", 10)]) (g := gName 10) (tt := tYes) (te := (tTup (tCons (tOp (rIxT K) (tVar 10) (tC (.int 0))) (tCons (tOp (rIxT K) (tVar 10) (tC (.int 1))) tNil)))) (by rfl) scSInit.nd (pi_list (pe_ix ix_tup (pv 1) pe_int (fun _ _ => rfl))) (blkOk_by (own := [("link", 10)]) (N := ["self", "net", "order", "rows", "low", "high", "up", "down", "up_middle", "down_middle", "link", "row", "place"]) (sc := defScope sSInit) (by decide +kernel)) (fun _ _ _ _ _ => pg_name (i := 10) scSInit.nd rfl (Or.inl rfl)) (fun _ _ _ _ _ => by exact pts_nil) (fun _ _ _ _ _ => by exact (pe_tup (pa_cons (pe_ix ix_tup (pv 10) pe_int (fun _ _ => rfl)) (pa_cons (pe_ix ix_tup (pv 10) pe_int (fun _ _ => rfl)) pa_nil))))) rfl)
      (pss_cons (ps_fld (pv 0) (pe_k c_link_ways hr (by first | decide | omega) (by rfl) (pa_cons (pv 1) pa_nil)) rfl)
      (pss_cons (ps_fld (pv 0) (pe_lc (own := [("row", 11)]) (g := gName 11) (tt := tYes) (te := (tTup (tCons (tOp (rIxT K) (tVar 11) (tC (.int 0))) (tCons (tOp (rIxT K) (tVar 11) (tC (.int 1))) tNil)))) (by rfl) scSInit.nd (pi_list (pv 3)) (blkOk_by (own := [("row", 11)]) (N := ["self", "net", "order", "rows", "low", "high", "up", "down", "up_middle", "down_middle", "link", "row", "place"]) (sc := defScope sSInit) (by decide +kernel)) (fun _ _ _ _ _ => pg_name (i := 11) scSInit.nd rfl (Or.inl rfl)) (fun _ _ _ _ _ => by exact pts_nil) (fun _ _ _ _ _ => by exact (pe_tup (pa_cons (pe_ix ix_tup (pv 11) pe_int (fun _ _ => rfl)) (pa_cons (pe_ix ix_tup (pv 11) pe_int (fun _ _ => rfl)) pa_nil))))) rfl)
      (pss_cons (ps_fld (pv 0) (pe_dc (own := [("place", 12)]) (g := gName 12) (tt := tYes) (tk := (tVar 12)) (tv := (tLst tNil)) rfl scSInit.nd (pi_list (pv 2)) (blkOk_by (own := [("place", 12)]) (N := ["self", "net", "order", "rows", "low", "high", "up", "down", "up_middle", "down_middle", "link", "row", "place"]) (sc := defScope sSInit) (by decide +kernel)) (fun _ _ _ _ _ => pg_name (i := 12) scSInit.nd rfl (Or.inl rfl)) (fun _ _ _ _ _ => by exact pts_nil) (fun _ _ _ _ _ => by exact (pv 12)) (fun _ _ _ _ _ => by exact (pe_lst pa_nil))) rfl)
      (pss_cons (ps_fld (pv 0) (pe_k c_lower_places hr (by first | decide | omega) (by rfl) (pa_cons (pv 3) (pa_cons (pv 2) pa_nil))) rfl)
      (pss_cons (ps_fld (pv 0) pe_dnewT rfl)
      (pss_cons (ps_fld (pv 0) pe_dnewT rfl)
      (pss_cons (ps_for PassesOwn.never rfl (pi_list (pv 3)) (pg_tup rfl (pgs_cons (pg_name (i := 4) scSInit.nd rfl (.inl rfl)) (pgs_cons (pg_name (i := 5) scSInit.nd rfl (.inl rfl)) (pgs_cons (pg_name (i := 6) scSInit.nd rfl (.inl rfl)) (pgs_cons (pg_name (i := 7) scSInit.nd rfl (.inl rfl)) (pgs_cons (pg_name (i := 8) scSInit.nd rfl (.inl rfl)) (pgs_cons (pg_name (i := 9) scSInit.nd rfl (.inl rfl)) pgs_nil)))))))
      (pss_cons (ps_expr (pe_bm PySem.F.plainAttrs_list PySem.F.slot_list_append PySem.F.type_list_append mt_append (pe_dget hu (pe_fld (pv 0) rfl) (pv 4) (fun _ _ => rfl)) (pa_cons (pv 5) pa_nil)))
        (pss_cons (ps_dput hu (pe_fld (pv 0) rfl) (pe_tup (pa_cons (pv 4) (pa_cons (pv 5) pa_nil))) (pv 6) rfl)
        (pss_cons (ps_dput hu (pe_fld (pv 0) rfl) (pe_tup (pa_cons (pv 5) (pa_cons (pv 4) pa_nil))) (pv 7) rfl)
        (pss_cons (ps_dput hu (pe_fld (pv 0) rfl) (pe_tup (pa_cons (pv 4) (pa_cons (pv 5) pa_nil))) (pv 8) rfl)
        (pss_one (ps_dput hu (pe_fld (pv 0) rfl) (pe_tup (pa_cons (pv 5) (pa_cons (pv 4) pa_nil))) (pv 9) rfl)))))))
      (pss_cons (ps_fld (pv 0) (pe_lst pa_nil) rfl)
      (pss_one (ps_fld (pv 0) (pe_lst pa_nil) rfl))))))))))))), ?_⟩
    obtain ⟨pn, c, xs, rfl, hpn, hc, hx⟩ := Dp.net_inv hN
    have bs0 : Same (but H p) H := but_same
    have lls := ok.len
    have ol := oo.len
    have n40 : N.n ≤ 40 := ok.n40
    -- rows
    refine q_asgE ⟨.ref pn, rfl, .ref o, rfl, .ref pn, N, o, os, rfl, Dp.to hN bs0, ok, .of (bs0 _ _ hO), oo, fun H1 q0 tr rows s1 nq0 eq0 hd0 hF => ?_⟩
    have e1 : H1 p = some (.ins CS dx (fldZ (sesN.take 0) [])) := s1 _ _ ep
    have b1 : Same (but H p) (but H1 p) := but_mono s1
    have bq0 : but H1 p q0 = some (.lst tr) := by
      rw [but_ne (fun z => by rw [z, ep] at nq0; cases nq0)]
      exact eq0
    have bd0 : DpAll K (but H1 p) tr (rows.map rowD) := dpFAll (fun a xs h => sqlF e1 h) (fun a xs h => sqtF e1 h) _ _ hd0
    -- _n
    refine q_fldS ((vl_ixT (K := K) (vl_var rfl) vl_c (seqT (b1.trans but_same) hpn) (atI_nat (j := 0) rfl)) _ ⟨.ref p, rfl, p, CS, dx, _, rfl, e1, T.cl, T.no _ (by decide +kernel), by show 0 < 1000; decide, ?_⟩)
    rw [fldN (i := 0) (vs := []) (y := .int N.n) rfl (by decide +kernel) rfl]
    have eH2 : upd H1 p (.ins CS dx (fldZ (sesN.take 1) ([] ++ [.int N.n]))) p = some (.ins CS dx (fldZ (sesN.take 1) [.int N.n])) := upd_same
    have bH2 : Same (but H1 p) (but (upd H1 p (.ins CS dx (fldZ (sesN.take 1) ([] ++ [.int N.n])))) p) := by rw [but_upd]; exact Same.refl _
    have cH2 : Same (but H1 p) (but (upd H1 p (.ins CS dx (fldZ (sesN.take 1) ([] ++ [.int N.n])))) p) := by rw [but_upd]; exact Same.refl _
    generalize upd H1 p (.ins CS dx (fldZ (sesN.take 1) ([] ++ [.int N.n]))) = H2 at eH2 bH2 cH2
    -- _order
    have sH2 : Same (but H p) (but H2 p) := b1.trans bH2
    refine q_fldS ⟨.ref o, rfl, o, _, rfl, .inl (.of (but_same _ _ (sH2 _ _ hO))), fun ro nro => ⟨.ref p, rfl, p, CS, dx, _, rfl, (same_upd nro _ _ eH2), T.cl, T.no _ (by decide +kernel), by show 1 < 1000; decide, ?_⟩⟩
    have sR := same_upd (o := .lst (os.map V.int)) nro
    have eR := upd_same (H := H2) (a := ro) (o := .lst (os.map V.int))
    have pro : ro ≠ p := fun z => by rw [z, eH2] at nro; cases nro
    have eH3 := sR _ _ eH2
    have cH3 := but_mono (o := p) sR
    have bH3 := bH2.trans (but_mono (o := p) sR)
    have eR3 : but (upd H2 ro (.lst (os.map V.int))) p ro = some (.lst (os.map V.int)) := by rw [but_ne pro]; exact eR
    generalize upd H2 ro (.lst (os.map V.int)) = H3 at sR eR eH3 bH3 eR3 cH3
    rw [fldN (i := 1) (vs := [.int N.n]) (y := .ref ro) rfl (by decide +kernel) rfl]
    have eH4 : upd H3 p (.ins CS dx (fldZ (sesN.take 2) ([.int N.n] ++ [.ref ro]))) p = some (.ins CS dx (fldZ (sesN.take 2) [.int N.n, .ref ro])) := upd_same
    have bH4 : Same (but H1 p) (but (upd H3 p (.ins CS dx (fldZ (sesN.take 2) ([.int N.n] ++ [.ref ro])))) p) := by rw [but_upd]; exact bH3
    have cH4 : Same (but H3 p) (but (upd H3 p (.ins CS dx (fldZ (sesN.take 2) ([.int N.n] ++ [.ref ro])))) p) := by rw [but_upd]; exact Same.refl _
    generalize upd H3 p (.ins CS dx (fldZ (sesN.take 2) ([.int N.n] ++ [.ref ro]))) = H4 at eH4 bH4 cH4
    -- _ends
    have sH4 : Same (but H p) (but H4 p) := b1.trans bH4
    refine q_fldS (lc_lnkS (K := K) (by show 10 < 13; decide) (vl_ixT (K := K) (vl_var rfl) vl_c (seqT (sH4.trans but_same) hpn) (atI_nat (j := 1) rfl)) ((sH4.trans but_same).seq hc) (DpAll.to hx (sH4.trans but_same)) (Nat.le_trans lls (by decide)) fun en H5 te s5 nen een hte => ⟨.ref p, rfl, p, CS, dx, _, rfl, (s5 _ _ eH4), T.cl, T.no _ (by decide +kernel), by show 2 < 1000; decide, ?_⟩)
    have pen : en ≠ p := fun z => by rw [z, eH4] at nen; cases nen
    have eH5 := s5 _ _ eH4
    have cH5 := but_mono (o := p) s5
    have bH5 := bH4.trans (but_mono (o := p) s5)
    rw [fldN (i := 2) (vs := [.int N.n, .ref ro]) (y := .ref en) rfl (by decide +kernel) rfl]
    have eH6 : upd H5 p (.ins CS dx (fldZ (sesN.take 3) ([.int N.n, .ref ro] ++ [.ref en]))) p = some (.ins CS dx (fldZ (sesN.take 3) [.int N.n, .ref ro, .ref en])) := upd_same
    have bH6 : Same (but H1 p) (but (upd H5 p (.ins CS dx (fldZ (sesN.take 3) ([.int N.n, .ref ro] ++ [.ref en])))) p) := by rw [but_upd]; exact bH5
    have cH6 : Same (but H5 p) (but (upd H5 p (.ins CS dx (fldZ (sesN.take 3) ([.int N.n, .ref ro] ++ [.ref en])))) p) := by rw [but_upd]; exact Same.refl _
    generalize upd H5 p (.ins CS dx (fldZ (sesN.take 3) ([.int N.n, .ref ro] ++ [.ref en]))) = H6 at eH6 bH6 cH6
    -- _links
    have sH6 : Same (but H p) (but H6 p) := b1.trans bH6
    refine q_fldS ⟨.ref pn, rfl, .ref pn, N, rfl, Dp.to hN (sH6.trans but_same), Nat.le_trans lls (by decide), fun H7 lk s7 nlk hLk => ⟨.ref p, rfl, p, CS, dx, _, rfl, (s7 _ _ eH6), T.cl, T.no _ (by decide +kernel), by show 3 < 1000; decide, ?_⟩⟩
    have plk : lk ≠ p := fun z => by rw [z, eH6] at nlk; cases nlk
    have eH7 := s7 _ _ eH6
    have cH7 := but_mono (o := p) s7
    have bH7 := bH6.trans (but_mono (o := p) s7)
    rw [fldN (i := 3) (vs := [.int N.n, .ref ro, .ref en]) (y := .ref lk) rfl (by decide +kernel) rfl]
    have eH8 : upd H7 p (.ins CS dx (fldZ (sesN.take 4) ([.int N.n, .ref ro, .ref en] ++ [.ref lk]))) p = some (.ins CS dx (fldZ (sesN.take 4) [.int N.n, .ref ro, .ref en, .ref lk])) := upd_same
    have bH8 : Same (but H1 p) (but (upd H7 p (.ins CS dx (fldZ (sesN.take 4) ([.int N.n, .ref ro, .ref en] ++ [.ref lk])))) p) := by rw [but_upd]; exact bH7
    have cH8 : Same (but H7 p) (but (upd H7 p (.ins CS dx (fldZ (sesN.take 4) ([.int N.n, .ref ro, .ref en] ++ [.ref lk])))) p) := by rw [but_upd]; exact Same.refl _
    generalize upd H7 p (.ins CS dx (fldZ (sesN.take 4) ([.int N.n, .ref ro, .ref en] ++ [.ref lk]))) = H8 at eH8 bH8 cH8
    -- _pairs
    have sH8 : Same (but H p) (but H8 p) := b1.trans bH8
    have lrows : rows.length ≤ 1600 := by
      have := congrArg List.length hF.mapP
      rw [List.length_map] at this
      have := pairsL_len ok oo
      omega
    refine q_fldS (lc_prs (K := K) (by show 11 < 13; decide) (vl_var rfl) (.of (but_same _ _ (bH8 _ _ bq0))) (DpAll.to bd0 (bH8.trans but_same)) (Nat.le_trans lrows (by decide)) fun pa H9 tpp s9 npa epa hpa => ⟨.ref p, rfl, p, CS, dx, _, rfl, (s9 _ _ eH8), T.cl, T.no _ (by decide +kernel), by show 4 < 1000; decide, ?_⟩)
    have ppa : pa ≠ p := fun z => by rw [z, eH8] at npa; cases npa
    have eH9 := s9 _ _ eH8
    have cH9 := but_mono (o := p) s9
    have bH9 := bH8.trans (but_mono (o := p) s9)
    rw [fldN (i := 4) (vs := [.int N.n, .ref ro, .ref en, .ref lk]) (y := .ref pa) rfl (by decide +kernel) rfl]
    have eHa : upd H9 p (.ins CS dx (fldZ (sesN.take 5) ([.int N.n, .ref ro, .ref en, .ref lk] ++ [.ref pa]))) p = some (.ins CS dx (fldZ (sesN.take 5) [.int N.n, .ref ro, .ref en, .ref lk, .ref pa])) := upd_same
    have bHa : Same (but H1 p) (but (upd H9 p (.ins CS dx (fldZ (sesN.take 5) ([.int N.n, .ref ro, .ref en, .ref lk] ++ [.ref pa])))) p) := by rw [but_upd]; exact bH9
    have cHa : Same (but H9 p) (but (upd H9 p (.ins CS dx (fldZ (sesN.take 5) ([.int N.n, .ref ro, .ref en, .ref lk] ++ [.ref pa])))) p) := by rw [but_upd]; exact Same.refl _
    generalize upd H9 p (.ins CS dx (fldZ (sesN.take 5) ([.int N.n, .ref ro, .ref en, .ref lk] ++ [.ref pa]))) = Ha at eHa bHa cHa
    -- _above
    have sHa : Same (but H p) (but Ha p) := b1.trans bHa
    refine q_fldS (dc_rows (K := K) (j := 12) (by show 12 < 13; decide) (ns := os) (fun Q k => (vl_var rfl) _ (k _ _ (Same.refl _) (.of (but_same _ _ (sHa _ _ hO))))) oo.nodup (by omega) fun ab Hb rw_ sb nab eab lrw ndrw abrw hrw => ⟨.ref p, rfl, p, CS, dx, _, rfl, (sb _ _ eHa), T.cl, T.no _ (by decide +kernel), by show 5 < 1000; decide, ?_⟩)
    have pab : ab ≠ p := fun z => by rw [z, eHa] at nab; cases nab
    have eHb := sb _ _ eHa
    have cHb := but_mono (o := p) sb
    have bHb := bHa.trans (but_mono (o := p) sb)
    rw [fldN (i := 5) (vs := [.int N.n, .ref ro, .ref en, .ref lk, .ref pa]) (y := .ref ab) rfl (by decide +kernel) rfl]
    have eHc : upd Hb p (.ins CS dx (fldZ (sesN.take 6) ([.int N.n, .ref ro, .ref en, .ref lk, .ref pa] ++ [.ref ab]))) p = some (.ins CS dx (fldZ (sesN.take 6) [.int N.n, .ref ro, .ref en, .ref lk, .ref pa, .ref ab])) := upd_same
    have bHc : Same (but H1 p) (but (upd Hb p (.ins CS dx (fldZ (sesN.take 6) ([.int N.n, .ref ro, .ref en, .ref lk, .ref pa] ++ [.ref ab])))) p) := by rw [but_upd]; exact bHb
    have cHc : Same (but Hb p) (but (upd Hb p (.ins CS dx (fldZ (sesN.take 6) ([.int N.n, .ref ro, .ref en, .ref lk, .ref pa] ++ [.ref ab])))) p) := by rw [but_upd]; exact Same.refl _
    generalize upd Hb p (.ins CS dx (fldZ (sesN.take 6) ([.int N.n, .ref ro, .ref en, .ref lk, .ref pa] ++ [.ref ab]))) = Hc at eHc bHc cHc
    -- _lower
    have sHc : Same (but H p) (but Hc p) := b1.trans bHc
    refine q_fldS ⟨.ref q0, rfl, .ref o, rfl, .ref q0, N, o, os, rows, rfl, .lst (.of (but_same _ _ (bHc _ _ bq0))) (DpAll.to bd0 (bHc.trans but_same)), ok, .of (but_same _ _ (sHc _ _ hO)), oo, hF, fun Hd lo kvo sd nlo hLo => ⟨.ref p, rfl, p, CS, dx, _, rfl, (sd _ _ eHc), T.cl, T.no _ (by decide +kernel), by show 6 < 1000; decide, ?_⟩⟩
    have plo : lo ≠ p := fun z => by rw [z, eHc] at nlo; cases nlo
    have eHd := sd _ _ eHc
    have cHd := but_mono (o := p) sd
    have bHd := bHc.trans (but_mono (o := p) sd)
    rw [fldN (i := 6) (vs := [.int N.n, .ref ro, .ref en, .ref lk, .ref pa, .ref ab]) (y := .ref lo) rfl (by decide +kernel) rfl]
    have eHe : upd Hd p (.ins CS dx (fldZ (sesN.take 7) ([.int N.n, .ref ro, .ref en, .ref lk, .ref pa, .ref ab] ++ [.ref lo]))) p = some (.ins CS dx (fldZ (sesN.take 7) [.int N.n, .ref ro, .ref en, .ref lk, .ref pa, .ref ab, .ref lo])) := upd_same
    have bHe : Same (but H1 p) (but (upd Hd p (.ins CS dx (fldZ (sesN.take 7) ([.int N.n, .ref ro, .ref en, .ref lk, .ref pa, .ref ab] ++ [.ref lo])))) p) := by rw [but_upd]; exact bHd
    have cHe : Same (but Hd p) (but (upd Hd p (.ins CS dx (fldZ (sesN.take 7) ([.int N.n, .ref ro, .ref en, .ref lk, .ref pa, .ref ab] ++ [.ref lo])))) p) := by rw [but_upd]; exact Same.refl _
    generalize upd Hd p (.ins CS dx (fldZ (sesN.take 7) ([.int N.n, .ref ro, .ref en, .ref lk, .ref pa, .ref ab] ++ [.ref lo]))) = He at eHe bHe cHe
    -- _prices
    refine q_fldS fun pr npr => ⟨.ref p, rfl, p, CS, dx, _, rfl, (same_upd npr _ _ eHe), T.cl, T.no _ (by decide +kernel), by show 7 < 1000; decide, ?_⟩
    have ppr : pr ≠ p := fun z => by rw [z, eHe] at npr; cases npr
    have sPr := same_upd (o := .dT []) npr
    have ePr := upd_same (H := He) (a := pr) (o := .dT [])
    have eHf := sPr _ _ eHe
    have cHf := but_mono (o := p) sPr
    have bHf := bHe.trans (but_mono (o := p) sPr)
    generalize upd He pr (.dT []) = Hf at sPr ePr eHf bHf cHf
    rw [fldN (i := 7) (vs := [.int N.n, .ref ro, .ref en, .ref lk, .ref pa, .ref ab, .ref lo]) (y := .ref pr) rfl (by decide +kernel) rfl]
    have eHg : upd Hf p (.ins CS dx (fldZ (sesN.take 8) ([.int N.n, .ref ro, .ref en, .ref lk, .ref pa, .ref ab, .ref lo] ++ [.ref pr]))) p = some (.ins CS dx (fldZ (sesN.take 8) [.int N.n, .ref ro, .ref en, .ref lk, .ref pa, .ref ab, .ref lo, .ref pr])) := upd_same
    have bHg : Same (but H1 p) (but (upd Hf p (.ins CS dx (fldZ (sesN.take 8) ([.int N.n, .ref ro, .ref en, .ref lk, .ref pa, .ref ab, .ref lo] ++ [.ref pr])))) p) := by rw [but_upd]; exact bHf
    have cHg : Same (but Hf p) (but (upd Hf p (.ins CS dx (fldZ (sesN.take 8) ([.int N.n, .ref ro, .ref en, .ref lk, .ref pa, .ref ab, .ref lo] ++ [.ref pr])))) p) := by rw [but_upd]; exact Same.refl _
    generalize upd Hf p (.ins CS dx (fldZ (sesN.take 8) ([.int N.n, .ref ro, .ref en, .ref lk, .ref pa, .ref ab, .ref lo] ++ [.ref pr]))) = Hg at eHg bHg cHg
    -- _middles
    refine q_fldS fun mi nmi => ⟨.ref p, rfl, p, CS, dx, _, rfl, (same_upd nmi _ _ eHg), T.cl, T.no _ (by decide +kernel), by show 8 < 1000; decide, ?_⟩
    have pmi : mi ≠ p := fun z => by rw [z, eHg] at nmi; cases nmi
    have sMi := same_upd (o := .dT []) nmi
    have eMi := upd_same (H := Hg) (a := mi) (o := .dT [])
    have eHh := sMi _ _ eHg
    have cHh := but_mono (o := p) sMi
    have bHh := bHg.trans (but_mono (o := p) sMi)
    generalize upd Hg mi (.dT []) = Hh at sMi eMi eHh bHh cHh
    rw [fldN (i := 8) (vs := [.int N.n, .ref ro, .ref en, .ref lk, .ref pa, .ref ab, .ref lo, .ref pr]) (y := .ref mi) rfl (by decide +kernel) rfl]
    have eHi : upd Hh p (.ins CS dx (fldZ (sesN.take 9) ([.int N.n, .ref ro, .ref en, .ref lk, .ref pa, .ref ab, .ref lo, .ref pr] ++ [.ref mi]))) p = some (.ins CS dx (fldZ (sesN.take 9) [.int N.n, .ref ro, .ref en, .ref lk, .ref pa, .ref ab, .ref lo, .ref pr, .ref mi])) := upd_same
    have bHi : Same (but H1 p) (but (upd Hh p (.ins CS dx (fldZ (sesN.take 9) ([.int N.n, .ref ro, .ref en, .ref lk, .ref pa, .ref ab, .ref lo, .ref pr] ++ [.ref mi])))) p) := by rw [but_upd]; exact bHh
    have cHi : Same (but Hh p) (but (upd Hh p (.ins CS dx (fldZ (sesN.take 9) ([.int N.n, .ref ro, .ref en, .ref lk, .ref pa, .ref ab, .ref lo, .ref pr] ++ [.ref mi])))) p) := by rw [but_upd]; exact Same.refl _
    generalize upd Hh p (.ins CS dx (fldZ (sesN.take 9) ([.int N.n, .ref ro, .ref en, .ref lk, .ref pa, .ref ab, .ref lo, .ref pr] ++ [.ref mi]))) = Hi at eHi bHi cHi
    have cH2s : Same (but H1 p) (but Ha p) := bHa
    -- the region
    have upd0 : ∀ {x u}, x ≠ p → x ∉ rw_ → but Hd p x = some u → x ∉ [p, pr, mi] ++ rw_ ∧ but Hi p x = some u := fun {x u} n nr e => by
      have ee := cHe _ _ e
      have eg := (cHf.trans cHg) _ _ ee
      refine ⟨fun z => ?_, (cHh.trans cHi) _ _ eg⟩
      simp only [List.cons_append, List.nil_append, List.mem_cons] at z
      rcases z with z | z | z | z
      · exact n z
      · rw [z, but_ne ppr, npr] at ee; cases ee
      · rw [z, but_ne pmi, nmi] at eg; cases eg
      · exact nr z
    have up : ∀ {x u}, x ≠ p → Ha x = some u → x ∉ [p, pr, mi] ++ rw_ ∧ but Hi p x = some u := fun {x u} n e =>
      upd0 n (fun z => by rw [(hrw x z).1] at e; cases e) (((cHb.trans cHc).trans cHd) _ _ (by rw [but_ne n]; exact e))
    have upS : Same (but Ha p) (buts ([p, pr, mi] ++ rw_) Hi) := fun x u e => by
      have n : x ≠ p := fun z => by rw [z, but_at] at e; cases e
      rw [but_ne n] at e
      obtain ⟨h1, h2⟩ := up n e
      rw [buts_ne h1]
      exact but_same _ _ h2
    have rwp : ∀ a, a ∈ rw_ → a ≠ p := fun a ha z => by
      have := (hrw a ha).1
      rw [z, eHa] at this
      cases this
    have I0 : IniH CS p dx pr mi rw_ [.int N.n, .ref ro, .ref en, .ref lk, .ref pa, .ref ab, .ref lo, .ref pr, .ref mi] Hi (fun _ => []) [] [] Hi := by
      refine ⟨eHi, ?_, ?_, Same.refl _, fun j a ha => ?_⟩
      · have := (cHg.trans (cHh.trans cHi)) pr _ (by rw [but_ne ppr]; exact ePr)
        rwa [but_ne ppr] at this
      · have := cHi mi _ (by rw [but_ne pmi]; exact eMi)
        rwa [but_ne pmi] at this
      · have hm := List.mem_of_getElem? ha
        have := ((cHc.trans cHd).trans (cHe.trans (cHf.trans (cHg.trans (cHh.trans cHi))))) a _ (by rw [but_ne (rwp a hm)]; exact (hrw a hm).2)
        rwa [but_ne (rwp a hm)] at this
    have prmi : pr ≠ mi := fun z => by
      have h1 := I0.hpr
      have := cHg pr _ (by rw [but_ne ppr]; exact ePr)
      rw [but_ne ppr, z, nmi] at this
      cases this
    have hLL : rows.map prOf = pairsL N.ls os := hF.mapP
    have hL16 := pairsL_len ok oo
    refine q_forRow (K := K) (a := q0) (Hb := but H1 p) (xs := tr) (rows := rows) (vl_var rfl) (.of bq0) bd0 (bHi.trans but_same)
      (fun i σ H' => ∃ y4 y5 y6 y7 y8 y9 kvp kvm, σ = [some (.ref p), some (.ref pn), some (.ref o), some (.ref q0), y4, y5, y6, y7, y8, y9, none, none, none] ∧ IniH CS p dx pr mi rw_ [.int N.n, .ref ro, .ref en, .ref lk, .ref pa, .ref ab, .ref lo, .ref pr, .ref mi] Hi (fun j => abvS ((pairsL N.ls os).take i) (os.getD j 0)) kvp kvm H' ∧ kvp.length ≤ 2 * i ∧ kvm.length ≤ 2 * i ∧ (∀ x y, (x, y) ∈ wysL ((pairsL N.ls os).take i) → valV kvp (K2 (x, y)) = some (oV (wv rows x y).1)) ∧ ∀ x y, (x, y) ∈ wysL ((pairsL N.ls os).take i) → valV kvm (K2 (x, y)) = some (oV (wv rows x y).2))
      ⟨_, _, _, _, _, _, [], [], rfl, I0, Nat.le_refl _, Nat.le_refl _, (fun x y h => nomatch h), (fun x y h => nomatch h)⟩ (fun i σ' H' hP => ?_) (fun i r σ' H' hi hP => ?_) (fun σ' H' hP => ?_)
    · obtain ⟨_, _, _, _, _, _, _, _, _, I, _⟩ := hP
      exact (((cH2s.trans upS).trans I.hs).trans buts_same)
    · obtain ⟨y4, y5, y6, y7, y8, y9, kvp, kvm, rfl, I, lp, lm, vp, vm⟩ := hP
      obtain ⟨hLi, w1, w2⟩ := row_wv ok oo hF hi
      have il := (List.getElem?_eq_some_iff.mp hLi).1
      have hmL := List.mem_of_getElem? hLi
      have huo : r.u ∈ os := oo.mem.mpr (((mem_pairsL ok oo).mp hmL).ins ok).1
      have huv : r.u ≠ r.v := fun e => anti ok oo hmL (by rw [e] at hmL ⊢; exact hmL)
      have hj := posOf_lt huo
      have jl := (List.getElem?_eq_some_iff.mp hj).1
      obtain ⟨a, ha⟩ : ∃ a, rw_[posOf r.u os]? = some a := ⟨_, List.getElem?_eq_getElem (by omega)⟩
      have gj : os.getD (posOf r.u os) 0 = r.u := by rw [List.getD_eq_getElem?_getD, hj]; rfl
      obtain ⟨abR, abI⟩ := upd0 pab abrw ((cHc.trans cHd) _ _ (by rw [but_ne pab]; exact eab))
      have eabH : H' ab = some (.dK (kz (os.map (Sum.inl : Int → L2.Key)) rw_)) := buts_same _ _ (I.hs ab _ (by rw [buts_ne abR]; exact but_same _ _ abI))
      have hv : valV (kz (os.map (Sum.inl : Int → L2.Key)) rw_) (Sum.inl r.u : L2.Key) = some (.ref a) := kz_val (i := posOf r.u os) (List.pairwise_map.mpr (oo.nodup.imp fun {x y} n e => n (Sum.inl.inj e))) (by rw [List.getElem?_map, hj]; rfl) ha
      have ecur := I.hab _ a ha
      have eabv : ∀ w, abvS ((pairsL N.ls os).take (i + 1)) w = abvS ((pairsL N.ls os).take i) w ++ if r.u = w then [V.int r.v] else [] := fun w => by
        rw [wtake_snoc9 hLi]
        unfold abvS
        rw [List.filter_append, List.map_append]
        congr 1
        by_cases c : r.u = w
        · rw [if_pos c, List.filter_cons, decide_eq_true c]
          rfl
        · rw [if_neg c, List.filter_cons, decide_eq_false c]
          rfl
      have lcur : (abvS ((pairsL N.ls os).take i) (os.getD (posOf r.u os) 0)).length ≤ 1600 := by
        unfold abvS
        rw [List.length_map]
        refine Nat.le_trans (List.length_filter_le _ _) ?_
        rw [List.length_take]
        omega
      refine q_app (v := .int r.v) (vl_dgetRKS (vl_sesK T 5 I.hp (vl_var rfl) rfl (by decide +kernel) (by decide +kernel)) (vl_var rfl) (.inl eabH) hv) ecur (vl_var rfl) (Nat.lt_of_le_of_lt lcur (by decide)) ?_
      have I2 := I.app (cur' := fun j => abvS ((pairsL N.ls os).take (i + 1)) (os.getD j 0)) ndrw ha fun i' hi' hl' => by
        have : os.getD i' 0 ≠ r.u := fun e => by
          have h1 : os[i']? = some (os[i']'(by omega)) := List.getElem?_eq_getElem (by omega)
          rw [List.getD_eq_getElem?_getD, h1] at e
          have e : os[i']'(by omega) = r.u := e
          rw [e] at h1
          exact hi' ((List.getElem?_inj (by omega) oo.nodup).mp (h1.trans hj.symm))
        rw [eabv, if_neg (fun e => this e.symm), List.append_nil]
      have ecur2 : abvS ((pairsL N.ls os).take (i + 1)) (os.getD (posOf r.u os) 0) = abvS ((pairsL N.ls os).take i) (os.getD (posOf r.u os) 0) ++ [.int r.v] := by rw [eabv, if_pos gj.symm]
      have I2 : IniH CS p dx pr mi rw_ [.int N.n, .ref ro, .ref en, .ref lk, .ref pa, .ref ab, .ref lo, .ref pr, .ref mi] Hi (fun j => abvS ((pairsL N.ls os).take (i + 1)) (os.getD j 0)) kvp kvm (upd H' a (.lst (abvS ((pairsL N.ls os).take i) (os.getD (posOf r.u os) 0) ++ [.int r.v]))) := by rw [← ecur2]; exact I2
      generalize upd H' a (.lst (abvS ((pairsL N.ls os).take i) (os.getD (posOf r.u os) 0) ++ [.int r.v])) = G2 at I2
      -- prices
      refine q_dputK (v := oV r.up) (vl_var rfl) (vl_sesK T 7 I2.hp (vl_var rfl) rfl (by decide +kernel) (by decide +kernel)) (vl_var rfl) (vl_var rfl) I2.hpr (Nat.lt_of_le_of_lt (m := 3200) (by omega) (by decide)) fun U nU oU => ?_
      have I3 := I2.putP (kvn := putK kvp ([Sum.inl r.u, Sum.inl r.v]) (oV r.up)) (xs := [.int r.u, .int r.v]) prmi nU
      generalize upd (upd G2 U (.tup [.int r.u, .int r.v])) pr (.dT (putK kvp ([Sum.inl r.u, Sum.inl r.v]) (oV r.up))) = G3 at I3
      have l1 := putK_lenG9 (kvs := kvp) (k := [Sum.inl r.u, Sum.inl r.v]) (v := oV r.up)
      refine q_dputK (v := oV r.dn) (vl_var rfl) (vl_sesK T 7 I3.hp (vl_var rfl) rfl (by decide +kernel) (by decide +kernel)) (vl_var rfl) (vl_var rfl) I3.hpr (Nat.lt_of_le_of_lt (m := 3300) (by omega) (by decide)) fun U nU oU => ?_
      have I4 := I3.putP (kvn := putK (putK kvp ([Sum.inl r.u, Sum.inl r.v]) (oV r.up)) ([Sum.inl r.v, Sum.inl r.u]) (oV r.dn)) (xs := [.int r.v, .int r.u]) prmi nU
      generalize upd (upd G3 U (.tup [.int r.v, .int r.u])) pr (.dT (putK (putK kvp ([Sum.inl r.u, Sum.inl r.v]) (oV r.up)) ([Sum.inl r.v, Sum.inl r.u]) (oV r.dn))) = G4 at I4
      have l2 := putK_lenG9 (kvs := putK kvp ([Sum.inl r.u, Sum.inl r.v]) (oV r.up)) (k := [Sum.inl r.v, Sum.inl r.u]) (v := oV r.dn)
      -- middles
      refine q_dputK (v := oV r.um) (vl_var rfl) (vl_sesK T 8 I4.hp (vl_var rfl) rfl (by decide +kernel) (by decide +kernel)) (vl_var rfl) (vl_var rfl) I4.hmi (Nat.lt_of_le_of_lt (m := 3200) (by omega) (by decide)) fun U nU oU => ?_
      have I5 := I4.putM (kvn := putK kvm ([Sum.inl r.u, Sum.inl r.v]) (oV r.um)) (xs := [.int r.u, .int r.v]) prmi nU
      generalize upd (upd G4 U (.tup [.int r.u, .int r.v])) mi (.dT (putK kvm ([Sum.inl r.u, Sum.inl r.v]) (oV r.um))) = G5 at I5
      have l3 := putK_lenG9 (kvs := kvm) (k := [Sum.inl r.u, Sum.inl r.v]) (v := oV r.um)
      refine g_dputK (v := oV r.dm) (vl_var rfl) (vl_sesK T 8 I5.hp (vl_var rfl) rfl (by decide +kernel) (by decide +kernel)) (vl_var rfl) (vl_var rfl) I5.hmi (Nat.lt_of_le_of_lt (m := 3300) (by omega) (by decide)) fun U nU oU => ?_
      have I6 := I5.putM (kvn := putK (putK kvm ([Sum.inl r.u, Sum.inl r.v]) (oV r.um)) ([Sum.inl r.v, Sum.inl r.u]) (oV r.dm)) (xs := [.int r.v, .int r.u]) prmi nU
      have l4 := putK_lenG9 (kvs := putK kvm ([Sum.inl r.u, Sum.inl r.v]) (oV r.um)) (k := [Sum.inl r.v, Sum.inl r.u]) (v := oV r.dm)
      have two : ∀ {kvs : List (List L2.Key × V)} {g : Int → Int → Option Int} {o1 o2 : Option Int}, (∀ x y, (x, y) ∈ wysL ((pairsL N.ls os).take i) → valV kvs (K2 (x, y)) = some (oV (g x y))) → g r.u r.v = o1 → g r.v r.u = o2 → ∀ x y, (x, y) ∈ wysL ((pairsL N.ls os).take (i + 1)) → valV (putK (putK kvs (K2 (r.u, r.v)) (oV o1)) (K2 (r.v, r.u)) (oV o2)) (K2 (x, y)) = some (oV (g x y)) := fun {kvs g o1 o2} h h1 h2 x y hm => by
        rw [valV_put, valV_put]
        by_cases c1 : (x, y) = (r.v, r.u)
        · cases c1
          rw [if_pos rfl, h2]
        · rw [if_neg (fun e => c1 (K2_inj e))]
          by_cases c2 : (x, y) = (r.u, r.v)
          · cases c2
            rw [if_pos rfl, h1]
          · rw [if_neg (fun e => c2 (K2_inj e))]
            refine h x y ?_
            rw [wtake_snoc9 hLi] at hm
            rcases mem_wys.mp hm with h | h
            · rcases List.mem_append.mp h with h | h
              · exact mem_wys.mpr (.inl h)
              · exact absurd (List.mem_singleton.mp h) c2
            · rcases List.mem_append.mp h with h | h
              · exact mem_wys.mpr (.inr h)
              · have := List.mem_singleton.mp h
                cases this
                exact absurd rfl c1
      exact ⟨_, _, _, _, _, _, _, _, rfl, I6, by omega, by omega, two vp (by rw [w1]) (by rw [w2]), two vm (by rw [w1]) (by rw [w2])⟩
    · obtain ⟨y4, y5, y6, y7, y8, y9, kvp, kvm, rfl, I, lp, lm, vp, vm⟩ := hP
      have eN : netL (endsL N.ls) (linkW N.ls) = N.ls := net_self ok
      -- _looked, _undos
      refine q_fldS ⟨Nat.zero_le _, fun ld nld => ⟨.ref p, rfl, p, CS, dx, _, rfl, same_upd nld _ _ I.hp, T.cl, T.no _ (by decide +kernel), by show 9 < 1000; decide, ?_⟩⟩
      have pld : ld ≠ p := fun z => by rw [z, I.hp] at nld; cases nld
      rw [fldN (i := 9) (vs := [.int N.n, .ref ro, .ref en, .ref lk, .ref pa, .ref ab, .ref lo, .ref pr, .ref mi]) (y := .ref ld) rfl (by decide +kernel) rfl]
      refine g_fldS ⟨Nat.zero_le _, fun un nun => ⟨.ref p, rfl, p, CS, dx, _, rfl, same_upd nun _ _ upd_same, T.cl, T.no _ (by decide +kernel), by show 10 < 1000; decide, ?_⟩⟩
      have pun : un ≠ p := fun z => by rw [z, upd_same] at nun; cases nun
      rw [fldN (i := 9 + 1) (vs := [V.int N.n, V.ref ro, V.ref en, V.ref lk, V.ref pa, V.ref ab, V.ref lo, V.ref pr, V.ref mi] ++ [V.ref ld]) (y := .ref un) rfl (by decide +kernel) rfl]
      rw [upd_ne pun] at nun
      have nunld : un ≠ ld := fun z => by rw [z, upd_same] at nun; cases nun
      rw [upd_ne nunld] at nun
      have fin1 : ∀ {x u}, x ≠ p → H' x = some u → (upd (upd (upd (upd H' ld (.lst [])) p (.ins CS dx (fldZ (sesN.take (9 + 1)) ([.int N.n, .ref ro, .ref en, .ref lk, .ref pa, .ref ab, .ref lo, .ref pr, .ref mi] ++ [.ref ld])))) un (.lst [])) p (.ins CS dx (fldZ (sesN.take (9 + 1 + 1)) ([.int N.n, .ref ro, .ref en, .ref lk, .ref pa, .ref ab, .ref lo, .ref pr, .ref mi] ++ [.ref ld] ++ [.ref un])))) x = some u := fun {x u} n e => by
        rw [upd_ne n, upd_ne (fun z => by rw [z, nun] at e; cases e), upd_ne n, upd_ne (fun z => by rw [z, nld] at e; cases e)]
        exact e
      have finL : (upd (upd (upd (upd H' ld (.lst [])) p (.ins CS dx (fldZ (sesN.take (9 + 1)) ([.int N.n, .ref ro, .ref en, .ref lk, .ref pa, .ref ab, .ref lo, .ref pr, .ref mi] ++ [.ref ld])))) un (.lst [])) p (.ins CS dx (fldZ (sesN.take (9 + 1 + 1)) ([.int N.n, .ref ro, .ref en, .ref lk, .ref pa, .ref ab, .ref lo, .ref pr, .ref mi] ++ [.ref ld] ++ [.ref un])))) ld = some (.lst []) := by
        rw [upd_ne pld, upd_ne (fun z => nunld z.symm), upd_ne pld, upd_same]
      have finU : (upd (upd (upd (upd H' ld (.lst [])) p (.ins CS dx (fldZ (sesN.take (9 + 1)) ([.int N.n, .ref ro, .ref en, .ref lk, .ref pa, .ref ab, .ref lo, .ref pr, .ref mi] ++ [.ref ld])))) un (.lst [])) p (.ins CS dx (fldZ (sesN.take (9 + 1 + 1)) ([.int N.n, .ref ro, .ref en, .ref lk, .ref pa, .ref ab, .ref lo, .ref pr, .ref mi] ++ [.ref ld] ++ [.ref un])))) un = some (.lst []) := by
        rw [upd_ne pun, upd_same]
      have finP : (upd (upd (upd (upd H' ld (.lst [])) p (.ins CS dx (fldZ (sesN.take (9 + 1)) ([.int N.n, .ref ro, .ref en, .ref lk, .ref pa, .ref ab, .ref lo, .ref pr, .ref mi] ++ [.ref ld])))) un (.lst [])) p (.ins CS dx (fldZ (sesN.take (9 + 1 + 1)) ([.int N.n, .ref ro, .ref en, .ref lk, .ref pa, .ref ab, .ref lo, .ref pr, .ref mi] ++ [.ref ld] ++ [.ref un])))) p = some (.ins CS dx (fldZ sesN [.int N.n, .ref ro, .ref en, .ref lk, .ref pa, .ref ab, .ref lo, .ref pr, .ref mi, .ref ld, .ref un])) := upd_same
      generalize (upd (upd (upd (upd H' ld (.lst [])) p (.ins CS dx (fldZ (sesN.take (9 + 1)) ([.int N.n, .ref ro, .ref en, .ref lk, .ref pa, .ref ab, .ref lo, .ref pr, .ref mi] ++ [.ref ld])))) un (.lst [])) p (.ins CS dx (fldZ (sesN.take (9 + 1 + 1)) ([.int N.n, .ref ro, .ref en, .ref lk, .ref pa, .ref ab, .ref lo, .ref pr, .ref mi] ++ [.ref ld] ++ [.ref un])))) = HF at fin1 finL finU finP
      -- what stands in H'
      have now : ∀ {x u}, x ≠ p → x ∉ rw_ → but Hd p x = some u → x ≠ pr ∧ x ≠ mi ∧ H' x = some u := fun {x u} n nr e => by
        obtain ⟨h1, h2⟩ := upd0 n nr e
        refine ⟨fun z => h1 (by rw [z]; simp), fun z => h1 (by rw [z]; simp), ?_⟩
        have := I.hs x u (by rw [buts_ne h1]; exact but_same _ _ h2)
        exact buts_same _ _ this
      have nowA : ∀ {x u}, but Ha p x = some u → x ≠ p ∧ x ≠ pr ∧ x ≠ mi ∧ x ∉ rw_ ∧ H' x = some u := fun {x u} e => by
        have n : x ≠ p := fun z => by rw [z, but_at] at e; cases e
        have e' := e
        rw [but_ne n] at e'
        have nr : x ∉ rw_ := fun z => by rw [(hrw x z).1] at e'; cases e'
        obtain ⟨h1, h2, h3⟩ := now n nr (((cHb.trans cHc).trans cHd) _ _ e)
        exact ⟨n, h1, h2, nr, h3⟩
      obtain ⟨kvl, ekl, lkl, hkl⟩ := hLk.ex
      obtain ⟨lk1, lk2, lk3, lk4, lk5⟩ := nowA ((cH8.trans (cH9.trans cHa)) lk _ (by rw [but_ne plk]; exact ekl))
      have am : ∀ a, a ∈ [p, lk, pr, mi, un] ↔ a = p ∨ a = lk ∨ a = pr ∨ a = mi ∨ a = un := fun a => by simp
      have out : ∀ {x u}, H' x = some u → x ≠ p → x ≠ lk → x ≠ pr → x ≠ mi → buts [p, lk, pr, mi, un] HF x = some u := fun {x u} e n1 n2 n3 n4 => by
        rw [buts_ne fun z => by
          rcases (am x).mp z with z | z | z | z | z
          · exact n1 z
          · exact n2 z
          · exact n3 z
          · exact n4 z
          · rw [z, nun] at e; cases e]
        exact fin1 n1 e
      have outL : ∀ {x xs}, but Ha p x = some (.lst xs) → buts [p, lk, pr, mi, un] HF x = some (.lst xs) := fun {x xs} e => by
        obtain ⟨n1, n2, n3, _, e'⟩ := nowA e
        exact out e' n1 (fun z => by rw [z, lk5] at e'; cases e') n2 n3
      have outT : ∀ {x xs}, but Ha p x = some (.tup xs) → buts [p, lk, pr, mi, un] HF x = some (.tup xs) := fun {x xs} e => by
        obtain ⟨n1, n2, n3, _, e'⟩ := nowA e
        exact out e' n1 (fun z => by rw [z, lk5] at e'; cases e') n2 n3
      have sA : ∀ {X : Hp}, Same (but X p) (but Ha p) → ∀ {ts L} {C' : Addr} {fs'}, X p = some (.ins C' dx fs') → TupsAt X ts L → TupsAt (buts [p, lk, pr, mi, un] HF) ts L := fun {X} c {ts L C' fs'} eX h => ⟨h.len, fun i u v e => by
        obtain ⟨t, h1, h2⟩ := h.at_ i u v e
        exact ⟨t, h1, outT (c _ _ (by rw [but_ne (fun z => by rw [z, eX] at h2; cases h2)]; exact h2))⟩⟩
      have nlk0 : H lk = none := by
        cases e : H lk with
        | none => rfl
        | some u =>
          have := sH6 lk u (by rw [but_ne plk]; exact e)
          rw [but_ne plk, nlk] at this
          cases this
      have fresh : ∀ {a}, a ≠ p → (∀ u, but Ha p a = some u → False) → H a = none := fun {a} n h => by
        cases e : H a with
        | none => rfl
        | some u => exact (h u (sHa a u (by rw [but_ne n]; exact e))).elim
      have frm : Same (but H p) (buts [p, lk, pr, mi, un] HF) := fun x u e => by
        obtain ⟨n1, n2, n3, _, e'⟩ := nowA (sHa _ _ e)
        refine out e' n1 (fun z => ?_) n2 n3
        rw [z, but_ne plk, nlk0] at e
        cases e
      have frn : ∀ a, a ∈ [p, lk, pr, mi, un] → a ≠ p → H a = none := fun a ha hp => by
        rcases (am a).mp ha with z | z | z | z | z
        · exact absurd z hp
        · rw [z]
          exact nlk0
        · subst z
          exact fresh hp fun u e => (nowA e).2.1 rfl
        · subst z
          exact fresh hp fun u e => (nowA e).2.2.1 rfl
        · subst z
          exact fresh hp fun u e => by
            have := (nowA e).2.2.2.2
            rw [nun] at this
            cases this
      have nld0 : but H p ld = none := by
        cases e : but H p ld with
        | none => rfl
        | some u =>
          have := (nowA (sHa _ _ e)).2.2.2.2
          rw [nld] at this
          cases this
      have fr : ∀ {Y : Hp} {x}, Same (but H p) (but Y p) → x ≠ p → Y x = none → but H p x = none := fun s n e => Same.free s (by rw [but_ne n]; exact e)
      have bm : ∀ {x}, x ∈ [p, lk, pr, mi, un] → but H p x = none := fun {x} hx => by
        by_cases c : x = p
        · rw [c, but_at]
        · rw [but_ne c]
          exact frn x hx c
      have bN : ∀ {x u}, but H p x = none → buts [p, lk, pr, mi, un] HF x = some u → buts [p, lk, pr, mi, un] (unl (but H p) HF) x = some u := fun {x u} n e => by
        obtain ⟨h1, h2⟩ := buts_no e
        rw [buts_ne h1]
        exact unl_new n h2
      have bO : ∀ {x u}, (∀ xs, u ≠ HO.lst xs) → buts [p, lk, pr, mi, un] HF x = some u → buts [p, lk, pr, mi, un] (unl (but H p) HF) x = some u := fun {x u} n e => by
        obtain ⟨h1, h2⟩ := buts_no e
        rw [buts_ne h1]
        exact unl_not (fun xs e' => n xs (Option.some.inj (e.symm.trans (frm _ _ e')))) h2
      have bT : ∀ {ts L}, TupsAt (buts [p, lk, pr, mi, un] HF) ts L → TupsAt (buts [p, lk, pr, mi, un] (unl (but H p) HF)) ts L := fun {ts L} h => ⟨h.len, fun i u v e => by
        obtain ⟨t, h1, h2⟩ := h.at_ i u v e
        exact ⟨t, h1, bO (fun xs z => nomatch z) h2⟩⟩
      have lM : ∀ {x u}, x ∈ [p, lk, pr, mi, un] → HF x = some u → unl (but H p) HF x = some u := fun {x u} hx e => unl_new (bm hx) e
      refine nx_of (q HF ⟨p, dx, lk, pr, mi, un, lo, []⟩ rows rfl rfl rfl frm (fun x hx hp => (List.mem_cons.mp hx).elim (fun e => by
        have e : x = lo := e
        have := fr sHc plo nlo
        rw [but_ne plo] at this
        rw [e]
        exact this) fun h => frn x h hp) ?_)
      · have hnd : ([p, lk, pr, mi, un] : List Addr).Nodup := by
          have u1 : un ≠ lk := fun z => by rw [z, lk5] at nun; cases nun
          have u2 : un ≠ pr := fun z => by rw [z, I.hpr] at nun; cases nun
          have u3 : un ≠ mi := fun z => by rw [z, I.hmi] at nun; cases nun
          simp [lk2, lk3, prmi]
          exact ⟨⟨fun z => plk z.symm, fun z => ppr z.symm, fun z => pmi z.symm, fun z => pun z.symm⟩, fun z => u1 z.symm, fun z => u2 z.symm, fun z => u3 z.symm⟩
        have eNN : (⟨N.n, netL (endsL N.ls) (linkW N.ls)⟩ : Net) = N := by rw [eN]
        have ndk : (os.map (Sum.inl : Int → L2.Key)).Pairwise (fun x y => x ≠ y) := List.pairwise_map.mpr (oo.nodup.imp fun {x y} n e => n (Sum.inl.inj e))
        have lkA := cH8.trans (cH9.trans cHa) lk _ (by rw [but_ne plk]; exact ekl)
        rw [but_ne plk] at lkA
        have lkC : Hc lk = some (.dT kvl) := by
          have := (cHb.trans cHc) lk _ (by rw [but_ne plk]; exact lkA)
          rwa [but_ne plk] at this
        have rwC : ∀ x, x ∈ rw_ → Hc x = some (.lst []) := fun x hx => by
          have := cHc x _ (by rw [but_ne (rwp x hx)]; exact (hrw x hx).2)
          rwa [but_ne (rwp x hx)] at this
        have tkL : (pairsL N.ls os).take rows.length = pairsL N.ls os := List.take_of_length_le (by rw [← hLL, List.length_map]; exact Nat.le_refl _)
        rw [tkL] at vp vm
        have hab := I.hab
        rw [tkL] at hab
        refine ⟨?_, ends_ok ok, fun x y c h => linkW_ok ok.ok h, oo, ?_, hnd, List.not_mem_nil, ⟨ro, en, pa, ab, ld, lM ((am _).mpr (.inl rfl)) finP, ?_, [], bN nld0 ?_, TupsAt.nil⟩, ⟨kvl, lM ((am _).mpr (.inr (.inl rfl))) (fin1 lk1 lk5), ?_, fun x y => ?_⟩, ⟨kvp, lM ((am _).mpr (.inr (.inr (.inl rfl)))) (fin1 ppr I.hpr), by omega, fun x y h => ?_⟩, ⟨kvm, lM ((am _).mpr (.inr (.inr (.inr (.inl rfl))))) (fin1 pmi I.hmi), by omega, fun x y h => ?_⟩, lM ((am _).mpr (.inr (.inr (.inr (.inr rfl))))) finU, .nil, fun u h => nomatch h⟩
        · show NetOk ⟨N.n, netL (endsL N.ls) (linkW N.ls)⟩
          rw [eNN]
          exact ok
        · show FillOk ⟨N.n, netL (endsL N.ls) (linkW N.ls)⟩ os rows
          rw [eNN]
          exact hF
        · show SesI (buts [p, lk, pr, mi, un] (unl (but H p) HF)) (netL (endsL N.ls) (linkW N.ls)) (endsL N.ls) os ro en pa ab lo
          rw [eN]
          refine ⟨?_, ⟨te, ?_, ?_⟩, ⟨tpp, ?_, ?_⟩, ⟨kz (os.map (Sum.inl : Int → L2.Key)) rw_, ?_, fun w hw => ?_⟩, ⟨kvo, ?_, fun u v hm => ?_⟩⟩
          · exact bN (fr sH2 pro nro) (outL ((cH4.trans (cH5.trans (cH6.trans (cH7.trans (cH8.trans (cH9.trans cHa)))))) ro _ eR3))
          · exact bN (fr sH4 pen nen) (outL ((cH6.trans (cH7.trans (cH8.trans (cH9.trans cHa)))) en _ (by rw [but_ne pen]; exact een)))
          · exact bT (sA (cH6.trans (cH7.trans (cH8.trans (cH9.trans cHa)))) eH5 hte)
          · exact bN (fr sH8 ppa npa) (outL (cHa pa _ (by rw [but_ne ppa]; exact epa)))
          · rw [← hLL]
            exact bT (sA cHa eH9 hpa)
          · obtain ⟨n1, n2, e⟩ := now pab abrw ((cHc.trans cHd) _ _ (by rw [but_ne pab]; exact eab))
            exact bO (fun xs z => nomatch z) (out e pab (fun z => by rw [z, lkA] at nab; cases nab) n1 n2)
          · have hj := posOf_lt hw
            have jl := (List.getElem?_eq_some_iff.mp hj).1
            obtain ⟨a, ha⟩ : ∃ a, rw_[posOf w os]? = some a := ⟨_, List.getElem?_eq_getElem (by omega)⟩
            have gj : os.getD (posOf w os) 0 = w := by rw [List.getD_eq_getElem?_getD, hj]; rfl
            have hm := List.mem_of_getElem? ha
            have ea := hab _ a ha
            refine ⟨a, kz_val (i := posOf w os) ndk (by rw [List.getElem?_map, hj]; rfl) ha, ?_⟩
            rw [gj] at ea
            have e : abvS (pairsL N.ls os) w = (upP N.ls os w).map V.int := by
              unfold abvS
              rw [← above_all oo hw, List.map_map]
              rfl
            rw [e] at ea
            refine bN (fr sHa (rwp a hm) (hrw a hm).1) ?_
            exact out ea (rwp a hm) (fun z => by
              have := (hrw a hm).1
              rw [z, lkA] at this
              cases this) (fun z => by rw [z, I.hpr] at ea; cases ea) (fun z => by rw [z, I.hmi] at ea; cases ea)
          · obtain ⟨n1, n2, e⟩ := now plo (fun z => by rw [rwC _ z] at nlo; cases nlo) (by rw [but_ne plo]; exact hLo.d)
            exact bO (fun xs z => nomatch z) (out e plo (fun z => by rw [z, lkC] at nlo; cases nlo) n1 n2)
          · obtain ⟨a, hv, na, ea⟩ := hLo.getN hm
            have pa' : a ≠ p := fun z => by rw [z, eHc] at na; cases na
            obtain ⟨n1, n2, e⟩ := now pa' (fun z => by rw [rwC _ z] at na; cases na) (by rw [but_ne pa']; exact ea)
            exact ⟨a, hv, bN (fr sHc pa' na) (out e pa' (fun z => by rw [z, lkC] at na; cases na) n1 n2)⟩
        · rw [buts_ne fun z => by
            rcases (am ld).mp z with z | z | z | z | z
            · exact pld z
            · rw [z, lk5] at nld; cases nld
            · rw [z, I.hpr] at nld; cases nld
            · rw [z, I.hmi] at nld; cases nld
            · exact nunld z.symm]
          exact finL
        · show kvl.length ≤ 2 * (endsL N.ls).length
          unfold endsL
          rw [List.length_map]
          exact lkl
        · show valV kvl [Sum.inl x, Sum.inl y] = _
          rw [hkl x y]
          conv => lhs; rw [← eN]
          exact lkv_net
        · refine vp x y ?_
          have : (x, y) ∈ wysL (pairsL (netL (endsL N.ls) (linkW N.ls)) os) := h
          rwa [eN] at this
        · refine vm x y ?_
          have : (x, y) ∈ wysL (pairsL (netL (endsL N.ls) (linkW N.ls)) os) := h
          rwa [eN] at this
end
/-! ### is_price; a call's edits -/
abbrev sIsPrice : Stmt := topS 11
theorem scIsPrice : FnScope ["value"] ["value"] (defScope sIsPrice) := ⟨rfl, rfl, rfl, by decide +kernel, rfl, by decide +kernel, by decide +kernel⟩
def priceB : Option Int → Bool
  | none => true
  | some x => decide (1 ≤ x) && decide (x ≤ 1000000)
theorem priceB_iff {o : Option Int} : priceB o = true ↔ PriceOk o := by
  cases o with
  | none => exact ⟨fun _ x h => (nomatch h), fun _ => rfl⟩
  | some x =>
    refine ⟨fun h y e => ?_, fun h => ?_⟩
    · cases e
      have h : (decide (1 ≤ x) && decide (x ≤ 1000000)) = true := h
      simpa using h
    · have := h x rfl
      show (decide (1 ≤ x) && decide (x ≤ 1000000)) = true
      rw [decide_eq_true this.1, decide_eq_true this.2]
      rfl
def spIsPrice : Sp := fun vs H Q _ => ∃ o : Option Int, vs = [oV o] ∧ Q (.bl (priceB o)) H
section
variable {P : Program} {w : World} {K : PySem.W.Frag} {mg : Str → Option Value} {base : Heap}
theorem ok_isPriceS {f : Addr} {fd : FuncData} {k : Nat} (F : Fun K "is_price" "is_price" sIsPrice f fd) {t : Tok} (mH : mg "HIGHEST_PRICE" = some (.int 1000000 t)) : FnOk P w K mg base CX0 (k + 1) f fd ["value"] spIsPrice := by
  refine F.ok scIsPrice (fun vs H Q E h => ?_) (fun cdv A outer s H vs Q E hr h => ?_)
  · obtain ⟨o, rfl, _⟩ := h
    rfl
  · obtain ⟨o, rfl, q⟩ := h
    refine ⟨_, pss_one (ps_ret (pe_or (pe_cmpR op_isN (pv 0) pe_non (nomark _)) (pe_one (pe_chain op_le op_le pe_int (pv 0) (pe_glob (v := .int 1000000) (by rfl) mH ⟨_, rfl⟩))))), ?_⟩
    cases o with
    | none => exact g_ret (vl_orV (K := K) (k := true) ((vl_isN (vl_var rfl)).is rfl) (fun e => nomatch e) (m := true)) q
    | some x => exact g_ret (vl_orV (K := K) (k := false) ((vl_isN (vl_var rfl)).is rfl) fun _ => vl_chainI vl_c (vl_var rfl) vl_c) q
end
abbrev EdL := List ((Int × Int) × Option Int)
def edD (e : (Int × Int) × Option Int) : PyData := .tuple [.int e.1.1, .int e.1.2, oD e.2]
def edV (e : (Int × Int) × Option Int) : List V := [.int e.1.1, .int e.1.2, oV e.2]
theorem Dp.ed_inv {K : PySem.W.Frag} {H : Hp} {v : V} {e : (Int × Int) × Option Int} (h : Dp K H v (edD e)) : ∃ a, v = .ref a ∧ SqT K H a (edV e) := by
  obtain ⟨a, xs, rfl, hs, ha⟩ := Dp.tup_inv h
  cases ha with
  | cons h1 r1 =>
    cases r1 with
    | cons h2 r2 =>
      cases r2 with
      | cons h3 r3 =>
        cases r3
        rw [Dp.int_inv h1, Dp.int_inv h2, Dp.o_inv h3] at hs
        exact ⟨a, rfl, hs⟩
noncomputable def okE (es : List (Int × Int)) (e : (Int × Int) × Option Int) : Bool := decide (e.1 ∈ wysL es) && priceB e.2
/-- the values of a call, as they are set one by one -/
def putE (vs : EdL) (e : (Int × Int) × Option Int) : EdL := if (vs.any fun z => decide (z.1 = e.1)) = true then vs.map fun z => if z.1 = e.1 then (z.1, e.2) else z else vs ++ [e]
def valE (eds : EdL) : EdL := eds.foldl putE []
theorem valE_snoc {eds : EdL} {e : (Int × Int) × Option Int} : valE (eds ++ [e]) = putE (valE eds) e := by
  unfold valE
  rw [List.foldl_append]
  rfl
theorem undK_put {vs : EdL} {e : (Int × Int) × Option Int} : undK (putE vs e) = putK (undK vs) (K2 e.1) (oV e.2) := by
  have ea : (undK vs).any (fun kv => decide (kv.1 = K2 e.1)) = vs.any fun z => decide (z.1 = e.1) := by
    unfold undK
    rw [List.any_map]
    congr 1
    funext z
    show decide (K2 z.1 = K2 e.1) = _
    by_cases c : z.1 = e.1
    · rw [decide_eq_true c, decide_eq_true (congrArg K2 c)]
    · rw [decide_eq_false c, decide_eq_false fun h => c (K2_inj h)]
  unfold putE putK
  rw [ea]
  by_cases c : (vs.any fun z => decide (z.1 = e.1)) = true
  · rw [if_pos c, if_pos c]
    unfold undK
    rw [List.map_map, List.map_map]
    refine List.map_congr_left fun z _ => ?_
    show (K2 (if z.1 = e.1 then (z.1, e.2) else z).1, oV (if z.1 = e.1 then (z.1, e.2) else z).2) = if K2 z.1 = K2 e.1 then (K2 z.1, oV e.2) else (K2 z.1, oV z.2)
    by_cases d : z.1 = e.1
    · rw [if_pos d, if_pos (congrArg K2 d)]
    · rw [if_neg d, if_neg fun h => d (K2_inj h)]
  · rw [if_neg c, if_neg c]
    unfold undK
    rw [List.map_append]
    rfl
theorem putE_ok {es : List (Int × Int)} {vs : EdL} {e : (Int × Int) × Option Int} (h : UOk es vs) (he : okE es e = true) : UOk es (putE vs e) := by
  unfold okE at he
  rw [Bool.and_eq_true, decide_eq_true_eq, priceB_iff] at he
  unfold putE
  by_cases c : (vs.any fun z => decide (z.1 = e.1)) = true
  · rw [if_pos c]
    refine ⟨?_, fun z hz => ?_⟩
    · rw [List.map_map]
      have : (vs.map ((fun z : (Int × Int) × Option Int => z.1) ∘ fun z => if z.1 = e.1 then (z.1, e.2) else z)) = vs.map (·.1) := List.map_congr_left fun z _ => by
        show (if z.1 = e.1 then (z.1, e.2) else z).1 = z.1
        split <;> rfl
      rw [this]
      exact h.nd
    · obtain ⟨w, hw, rfl⟩ := List.mem_map.mp hz
      by_cases d : w.1 = e.1
      · rw [if_pos d]
        exact ⟨(h.mem w hw).1, he.2⟩
      · rw [if_neg d]
        exact h.mem w hw
  · rw [if_neg c]
    refine ⟨?_, fun z hz => ?_⟩
    · rw [List.map_append, List.map_singleton]
      refine List.nodup_append.mpr ⟨h.nd, List.nodup_cons.mpr ⟨List.not_mem_nil, List.nodup_nil⟩, fun a ha b hb hab => ?_⟩
      rw [List.mem_singleton.mp hb] at hab
      obtain ⟨z, hz, rfl⟩ := List.mem_map.mp ha
      exact c (List.any_eq_true.mpr ⟨z, hz, decide_eq_true hab⟩)
    · rcases List.mem_append.mp hz with hz | hz
      · exact h.mem z hz
      · rw [List.mem_singleton.mp hz]
        exact he
theorem putE_len {vs : EdL} {e : (Int × Int) × Option Int} : (putE vs e).length ≤ vs.length + 1 := by
  unfold putE
  split
  · rw [List.length_map]
    omega
  · rw [List.length_append]
    exact Nat.le_refl _
theorem valE_ok {es : List (Int × Int)} : ∀ {n : Nat} {eds : EdL}, eds.length = n → (∀ e ∈ eds, okE es e = true) → UOk es (valE eds) ∧ (valE eds).length ≤ n
  | 0, eds, h, _ => by
    rw [List.length_eq_zero_iff.mp h]
    exact ⟨⟨List.nodup_nil, fun z hz => nomatch hz⟩, Nat.le_refl _⟩
  | n + 1, eds, h, hk => by
    have hne : eds ≠ [] := fun z => by rw [z] at h; cases h
    have e : eds = eds.dropLast ++ [eds.getLast hne] := (List.dropLast_concat_getLast hne).symm
    have hd := valE_ok (es := es) (n := n) (eds := eds.dropLast) (by rw [List.length_dropLast, h]; rfl) fun e he => hk e (List.dropLast_subset _ he)
    have hg := hk _ (List.getLast_mem hne)
    generalize eds.getLast hne = z at e hg
    generalize eds.dropLast = fs at e hd
    rw [e, valE_snoc]
    exact ⟨putE_ok hd.1 hg, Nat.le_trans putE_len (by omega)⟩
/-- the old prices of the ways that a call sets -/
def oldU (S : SesS) (vals : EdL) : EdL := vals.map fun z => (z.1, S.lk z.1.1 z.1.2)
def SesA.push (A : SesA) (a : Addr) : SesA := ⟨A.p, A.dx, A.lk, A.pr, A.mi, A.un, A.lo, A.us ++ [a]⟩
def SesS.push (S : SesS) (u : EdL) : SesS := ⟨S.n, S.es, S.os, S.lk, S.rows, S.look, S.und ++ [u]⟩
theorem SesAt.usd {CS : Addr} {H : Hp} {A : SesA} {S : SesS} (h : SesAt CS H A S) {a : Addr} (ha : a ∈ A.m) : H a ≠ none := by
  unfold SesA.m at ha
  simp only [List.mem_cons, List.not_mem_nil, or_false] at ha
  rcases ha with rfl | rfl | rfl | rfl | rfl
  · obtain ⟨_, _, _, _, _, e, _⟩ := h.im
    rw [e]
    exact fun z => nomatch z
  · obtain ⟨_, e, _⟩ := h.lk
    rw [e]
    exact fun z => nomatch z
  · obtain ⟨_, e, _⟩ := h.pr
    rw [e]
    exact fun z => nomatch z
  · obtain ⟨_, e, _⟩ := h.mi
    rw [e]
    exact fun z => nomatch z
  · rw [h.un]
    exact fun z => nomatch z
theorem SesAt.lou {CS : Addr} {H : Hp} {A : SesA} {S : SesS} (h : SesAt CS H A S) : H A.lo ≠ none := by
  obtain ⟨_, _, _, _, _, _, e, _⟩ := h.im
  obtain ⟨kvs, e, _⟩ := e.lo
  rw [buts_same _ _ e]
  exact fun z => nomatch z
theorem SesAt.push {CS : Addr} {H H2 : Hp} {A : SesA} {S : SesS} (h : SesAt CS H A S) (s : Same H H2) {a : Addr} {u : EdL} (na : H a = none) (e : Rd H2 a (.dT (undK u))) (hu : UOk S.es u) : SesAt CS (upd H2 A.un (.lst ((A.us ++ [a]).map V.ref))) (A.push a) (S.push u) := by
  obtain ⟨d1, d2, d3, d4, d5, d6, d7, d8, d9, d10⟩ := SesA.dist h.nd
  have am := A.mem
  have sb := buts_mono (as := A.m) s
  obtain ⟨ro, en, pa, ab, lkd, e1, e2, ts, e3, e4⟩ := h.im
  have nam : a ∉ A.m := fun z => h.usd z na
  have eb : buts A.m (upd H2 A.un (.lst ((A.us ++ [a]).map V.ref))) = buts A.m H2 := buts_upd am.2.2.2.2
  refine ⟨h.ok, h.eok, h.pok, h.oo, h.fl, h.nd, fun z => ?_, ⟨ro, en, pa, ab, lkd, by show upd H2 A.un _ A.p = _; rw [upd_ne d4]; exact s _ _ e1, ?_, ts, ?_, ?_⟩, let ⟨k, e, d⟩ := h.lk; ⟨k, by show upd H2 A.un _ A.lk = _; rw [upd_ne d7]; exact s _ _ e, d⟩, let ⟨k, e, d⟩ := h.pr; ⟨k, by show upd H2 A.un _ A.pr = _; rw [upd_ne d9]; exact s _ _ e, d⟩, let ⟨k, e, d⟩ := h.mi; ⟨k, by show upd H2 A.un _ A.mi = _; rw [upd_ne d10]; exact s _ _ e, d⟩, upd_same, ?_, fun u' hu' => ?_⟩
  · rcases List.mem_append.mp z with z | z
    · exact h.nlo z
    · refine h.lou ?_
      rw [show A.lo = a from List.mem_singleton.mp z]
      exact na
  · show SesI (buts A.m (upd H2 A.un _)) _ _ _ _ _ _ _ _
    rw [eb]
    exact e2.to sb
  · show buts A.m (upd H2 A.un _) lkd = _
    rw [eb]
    exact sb _ _ e3
  · show TupsAt (buts A.m (upd H2 A.un _)) _ _
    rw [eb]
    exact e4.to sb
  · show UnAt (buts A.m (upd H2 A.un _)) _ _
    rw [eb]
    exact (h.ud.to sb).snoc (e.imp (fun e => by rw [buts_ne nam]; exact e) fun ⟨o, e⟩ => ⟨o, by rw [buts_ne nam]; exact e⟩)
  · rcases List.mem_append.mp hu' with z | z
    · exact h.uok _ z
    · rw [List.mem_singleton.mp z]
      exact hu
/-- {k: g(k) for k in d}, the keys are tuples -/
theorem dc_keysV {σ : L2.St} {H : Hp} {td tv : TE} {d : Addr} {kvs : List (List L2.Key × V)} {j : Nat} {Q : VK} {g : List L2.Key → V} (hj : j < σ.length) (hl : Vl td σ H (.ref d)) (hr : Rd H d (.dT kvs)) (hz : kvs.length ≤ 1000000) (hn : (kvs.map (·.1)).Nodup)
    (hv : ∀ b kk H', kk ∈ kvs.map (·.1) → Same (but H d) (but H' d) → H' b = some (.tup (kk.map kV)) → Vl tv ((σ.set j none).set j (some (V.ref b))) H' (g kk))
    (q : ∀ D H', H D = none → Same (but H d) (but H' d) → Rd H' d (.dT kvs) → H' D = some (.dT (kvs.map fun kv => (kv.1, g kv.1))) → Q (.ref D) H') : tDcT (iKeysTF td) (gName j) tYes (tVar j) tv [j] σ H Q := by
  refine keysTF_in hl hr fun od Hn e1 e2 D nD => ?_
  have hHd : H d ≠ none := fun e => by rcases hr with h | ⟨o, h⟩ <;> rw [e] at h <;> cases h
  have Dd : D ≠ d := fun z => by rw [z, e2] at nD; cases nD
  have nDH : H D = none := by
    have := congrFun e1 D
    rw [but_ne Dd, but_ne Dd, nD] at this
    exact this.symm
  refine ⟨fun i m H2 => m + i = kvs.length ∧ H2 d = some (.frz od (.dT kvs)) ∧ Same (but H d) (but (but H2 D) d) ∧ H2 D = some (.dT ((kvs.take i).map fun kv => (kv.1, g kv.1))), ⟨kvs.length, rfl, by rw [upd_ne (fun z => Dd z.symm)]; exact e2, ?_, upd_same⟩, fun i m H2 hW => ?_⟩
  · rw [but_upd, ← e1]
    intro a u e
    by_cases c : a = d
    · rw [c, but_at] at e
      cases e
    · rw [but_ne c] at e ⊢
      rw [but_ne fun z => by rw [z, nD] at e; cases e]
      exact e
  · obtain ⟨em, ed, s2, eD⟩ := hW
    have s2' : Same (but H d) (but H2 d) := fun a u e => by
      have := s2 _ _ e
      by_cases c : a = d
      · rw [c, but_at] at e
        cases e
      · rw [but_ne c] at this ⊢
        exact but_same _ _ this
    by_cases hi : i < kvs.length
    · have hg : kvs[i]? = some (kvs[i]'hi) := List.getElem?_eq_getElem hi
      generalize kvs[i]'hi = kv at hg
      refine .inr ⟨⟨ed, hi⟩, fun H' => ∃ m', m' < m ∧ (m' + (i + 1) = kvs.length ∧ H' d = some (.frz od (.dT kvs)) ∧ Same (but H d) (but (but H' D) d) ∧ H' D = some (.dT ((kvs.take (i + 1)).map fun kv => (kv.1, g kv.1)))), fun H' h => h, fun x H' hy => ?_⟩
      obtain ⟨rfl, kk, vv, b, hk', rfl, hb⟩ := hy
      cases hg.symm.trans hk'
      have hm : kk ∈ kvs.map (·.1) := List.mem_map.mpr ⟨_, List.mem_of_getElem? hg, rfl⟩
      refine ⟨?_, ?_⟩
      · show ((σ.set j none).set j (some (V.ref b))).set j none = σ.set j none
        rw [List.set_set, List.set_set]
      · refine yes_nowS ?_
        rw [if_pos rfl]
        refine ⟨.ref b, ?_, hv b kk _ hm s2' hb _ ⟨_, kk, b, rfl, hb, eD, Nat.lt_of_le_of_lt (m := 1000000) (by rw [List.length_map, List.length_take]; omega) (by decide), m - 1, by omega, by omega, ?_, ?_, ?_⟩⟩
        · show ((σ.set j none).set j (some (V.ref b)))[j]? = _
          exact List.getElem?_set_self (by rw [List.length_set]; exact hj)
        · rw [upd_ne (fun z => Dd z.symm)]
          exact ed
        · rw [but_upd]
          exact s2
        · have hno : ((kvs.take i).map fun kv => (kv.1, g kv.1)).any (fun kv => decide (kv.1 = kk)) = false := by
            rw [List.any_eq_false]
            intro z hz e
            obtain ⟨y, hy, rfl⟩ := List.mem_map.mp hz
            have e : y.1 = kk := of_decide_eq_true e
            obtain ⟨l, hl'⟩ := List.mem_iff_getElem?.mp hy
            rw [List.getElem?_take] at hl'
            have li : l < i := by
              by_cases c : l < i
              · exact c
              · rw [if_neg c] at hl'
                cases hl'
            rw [if_pos li] at hl'
            have h1 : (kvs.map (·.1))[l]? = some kk := by rw [List.getElem?_map, hl', ← e]; rfl
            have h2 : (kvs.map (·.1))[i]? = some kk := by rw [List.getElem?_map, hg]; rfl
            have := (List.getElem?_inj (by rw [List.length_map]; omega) hn).mp (h1.trans h2.symm)
            omega
          rw [upd_same, wtake_snoc9 hg, List.map_append]
          unfold putK
          rw [hno]
          rfl
    · have : i = kvs.length := by omega
      subst this
      rw [List.take_length] at eD
      exact .inl ⟨⟨ed, Nat.le_refl _⟩, q D H2 nDH s2' (.inr ⟨od, ed⟩) eD⟩
/-! ### edit_all, edit -/
abbrev sSEdit : Stmt := inClass (topS 28) 1
abbrev sSEditAll : Stmt := inClass (topS 28) 2
theorem scSEdit : FnScope ["self", "a", "b", "price"] ["self", "a", "b", "price"] (defScope sSEdit) := ⟨rfl, rfl, rfl, by decide +kernel, rfl, by decide +kernel, by decide +kernel⟩
theorem scSEditAll : FnScope ["self", "edits", "values", "index", "a", "b", "price", "way"] ["self", "edits"] (defScope sSEditAll) := ⟨rfl, rfl, rfl, by decide +kernel, rfl, by decide +kernel, by decide +kernel⟩
/-- what a call that edits, or takes edits back, promises -/
def MdOut (K : PySem.W.Frag) (CS : Addr) (A A' : SesA) (S S' : SesS) (vals : EdL) (H : Hp) (Q : VK) : Prop := ∀ H' q ts rows', H q = none → H' q = some (.lst ts) → DpAll K (buts (q :: A.m) H') ts ((chgL S rows').map (chgD (wv S.rows) (wv rows'))) → Same (buts A.m H) (buts (q :: A.m) H') → KeepP CS H H' A S (S'.mend vals rows') → SesAt CS (but H' q) A' (S'.mend vals rows') → Q (.ref q) H'
structure EdBad (es : List (Int × Int)) (eds : EdL) (CL CB : Addr) (E : XK) (H : Hp) : Prop where
  l : ∀ (i : Nat) e, eds[i]? = some e → (∀ x ∈ eds.take i, okE es x = true) → e.1 ∉ wysL es → RaiseTo E H CL i
  b : ∀ (i : Nat) e, eds[i]? = some e → (∀ x ∈ eds.take i, okE es x = true) → e.1 ∈ wysL es → priceB e.2 = false → RaiseTo E H CB i
def spSEditAll (K : PySem.W.Frag) (CS CL CB : Addr) : Sp := fun vs H Q E => ∃ (A : SesA) (S : SesS) (v : V) (eds : EdL), vs = [.ref A.p, v] ∧ SesAt CS H A S ∧ Dp K H v (.list (eds.map edD)) ∧ eds.length ≤ 1000 ∧ S.und.length ≤ 1000 ∧ EdBad S.es eds CL CB E H ∧
  ((∀ x ∈ eds, okE S.es x = true) → ∀ a', H a' = none → MdOut K CS A (A.push a') S (S.push (oldU S (valE eds))) (valE eds) H Q)
def spSEdit (K : PySem.W.Frag) (CS CL CB : Addr) : Sp := fun vs H Q E => ∃ (A : SesA) (S : SesS) (x y : Int) (o : Option Int), vs = [.ref A.p, .int x, .int y, oV o] ∧ SesAt CS H A S ∧ S.und.length ≤ 1000 ∧ EdBad S.es [((x, y), o)] CL CB E H ∧
  (okE S.es ((x, y), o) = true → ∀ a', H a' = none → MdOut K CS A (A.push a') S (S.push (oldU S [((x, y), o)])) [((x, y), o)] H Q)
theorem q_appE {K : PySem.W.Frag} {σ : L2.St} {H : Hp} {ta te : TE} {D : Ends} {tw : TS} {l : Addr} {xs : List V} (ho : Vl ta σ H (.ref l)) (hl : H l = some (.lst xs)) (h : te σ H fun y H1 => ∃ l' xs' v', V.ref l = .ref l' ∧ [y] = [v'] ∧ H1 l' = some (.lst xs') ∧ xs'.length < sizeLine ∧ tw D σ (upd H1 l' (.lst (xs' ++ [v'])))) :
    tSeq (tDrop (tBM K "list" rAppend ta (tCons te tNil))) tw D σ H := ho _ ⟨.inl ⟨rfl, _, .inl (.inl hl)⟩, h⟩
theorem ax_dnotPE {σ : L2.St} {H : Hp} {ta tb td : TE} {o : Addr} {kvs : List (List L2.Key × V)} {x y : Int} (h1 : Vl ta σ H (.int x)) (h2 : Vl tb σ H (.int y)) (h3 : ∀ H', Same H H' → Vl td σ H' (.ref o)) (hD : H o = some (.dT kvs)) : Ax (tB (tDNotIn (tTup (tCons ta (tCons tb tNil))) td)) σ H (!(valV kvs (K2 (x, y))).isSome) := fun Q k =>
  h1 _ (h2 _ ⟨by show 2 ≤ sizeLine; decide, fun T nT => h3 _ (same_upd nT) _ ⟨o, _, rfl, DGet.t (k := K2 (x, y)) (same_upd nT _ _ hD) upd_same, _, rfl, k _ (same_upd nT)⟩⟩)
section
variable {P : Program} {w : World} {K : PySem.W.Frag} {mg : Str → Option Value} {base : Heap} {CS CL CB fI : Addr}
theorem ok_sEditAll {f : Addr} {fd : FuncData} {k k1 k2 : Nat} (l1 : k1 ≤ k) (l2 : k2 ≤ k) (F : Fun K "edit_all" "Session.edit_all" sSEditAll f fd) (T : SesT K CS) (hL : PySem.LowX.LowTxt K mg "NoLink" CL fI) (hB : PySem.LowX.LowTxt K mg "BadPrice" CB fI) (c_is_price : Kal P w K mg base k1 "is_price" ["value"] spIsPrice) (cs_mend : KalM P w K mg base k2 CS "_mend" ["self", "values"] (spSMend K CS)) (me : mg "enumerate" = none) : FnOk P w K mg base (L2.CX P w) (k + 1) f fd ["self", "edits"] (spSEditAll K CS CL CB) := by
  refine F.okX scSEditAll (fun vs H Q E h => ?_) (fun cdv A outer s H vs Q E hr h => ?_)
  · obtain ⟨A, S, v, eds, rfl, _⟩ := h
    rfl
  · obtain ⟨A, S, v, eds, rfl, hS, hE, leds, lund, hb, q⟩ := h
    have hu := hu_of hr
    refine ⟨_, pss_cons (ps_set (i := 2) scSEditAll.nd rfl (.inl rfl) pe_dnewT)
      (pss_cons (ps_for (passes_of rfl) rfl (pi_enum (by rfl) me (pa_cons (pv 1) pa_nil)) (pg_tup rfl (pgs_cons (pg_name (i := 3) scSEditAll.nd rfl (.inl rfl)) (pgs_cons (pg_tup rfl (pgs_cons (pg_name (i := 4) scSEditAll.nd rfl (.inl rfl)) (pgs_cons (pg_name (i := 5) scSEditAll.nd rfl (.inl rfl)) (pgs_cons (pg_name (i := 6) scSEditAll.nd rfl (.inl rfl)) pgs_nil)))) pgs_nil)))
      (pss_cons (ps_if (pt_cmp (pc_dnotin hu (pe_tup (pa_cons (pv 4) (pa_cons (pv 5) pa_nil))) (pe_fld (pv 0) rfl)))
        (pss_one (ps_raiseLow rfl hL hr (takes_of rfl rfl rfl rfl) (by exact (pa_cons (pv 3) pa_nil))))
        pss_nil)
        (pss_cons (ps_if (pt_not (pt_val (pe_k c_is_price hr (by first | decide | omega) (by rfl) (pa_cons (pv 6) pa_nil))))
        (pss_one (ps_raiseLow rfl hB hr (takes_of rfl rfl rfl rfl) (by exact (pa_cons (pv 3) pa_nil))))
        pss_nil)
        (pss_one (ps_dput hu (pv 2) (pe_tup (pa_cons (pv 4) (pa_cons (pv 5) pa_nil))) (pv 6) rfl)))))
      (pss_cons (ps_expr (pe_bm PySem.F.plainAttrs_list PySem.F.slot_list_append PySem.F.type_list_append mt_append (pe_fld (pv 0) rfl) (pa_cons (pe_dcT (own := [("way", 7)]) (g := gName 7) (tt := tYes) (tk := (tVar 7)) (tv := (tDGet (tFld K (tVar 0) "_links") (tVar 7))) hu rfl scSEditAll.nd (pi_keysTF (pv 2)) (blkOk_by (own := [("way", 7)]) (N := ["self", "edits", "values", "index", "a", "b", "price", "way"]) (sc := defScope sSEditAll) (by decide +kernel)) (fun _ _ _ _ _ => pg_name (i := 7) scSEditAll.nd rfl (Or.inl rfl)) (fun _ _ _ _ _ => by exact pts_nil) (fun _ _ _ _ _ => by exact (pv 7)) (fun _ _ _ _ _ => by exact (pe_dget hu (pe_fld (pv 0) rfl) (pv 7) (fun _ _ => rfl)))) pa_nil)))
      (pss_one (ps_ret (pe_m cs_mend hr (by first | decide | omega) (pv 0) (pa_cons (pv 2) pa_nil)))))), ?_⟩
    obtain ⟨lp, xs, rfl, hx, hd⟩ := Dp.lst_inv hE
    have lx := DpAll.len hd
    rw [List.length_map] at lx
    obtain ⟨ro, en, pa, ab, lkd0, e1, e2, tlk, e3, e4⟩ := hS.im
    obtain ⟨kvl, ekl, dkl⟩ := hS.lk
    refine q_asgE fun vd nvd => ?_
    have fin : ∀ {X : Hp} {x u}, Same H (but X vd) → H x = some u → X x = some u := fun s e => but_same _ _ (s _ _ e)
    refine ⟨.ref lp, rfl, lp, xs, rfl, (same_upd nvd).seq hx, for_en (K := K) (xs := xs)
      (fun i σ H3 => ∃ y3 y4 y5 y6 y7, σ = [some (.ref A.p), some (.ref lp), some (.ref vd), y3, y4, y5, y6, y7] ∧ Same H (but H3 vd) ∧ H3 vd = some (.dT (undK (valE (eds.take i)))) ∧ ∀ x ∈ eds.take i, okE S.es x = true)
      ⟨_, _, _, _, _, rfl, same_but (same_upd nvd) nvd, upd_same, fun x h => nomatch h⟩ (fun i σ H3 hP => ?_) (fun i x U σ H3 hi hP nU => ?_) (fun σ H1 hP => ?_)⟩
    · obtain ⟨_, _, _, _, _, _, s3, _⟩ := hP
      exact (s3.trans but_same).seq hx
    · obtain ⟨y3, y4, y5, y6, y7, rfl, s3, ev, hA⟩ := hP
      have il : i < eds.length := by
        rw [← lx]
        exact (List.getElem?_eq_some_iff.mp hi).1
      have hg : eds[i]? = some (eds[i]'il) := List.getElem?_eq_getElem il
      generalize eds[i]'il = e at hg
      obtain ⟨⟨x0, y0⟩, o⟩ := e
      obtain ⟨v', ev', dv⟩ := DpAll.get (i := i) (d := edD ((x0, y0), o)) hd (by
        rw [List.getElem?_map, hg]
        rfl)
      cases hi.symm.trans ev'
      obtain ⟨t, rfl, ht⟩ := Dp.ed_inv dv
      have sT := same_upd (o := .tup [.int (i : Nat), .ref t]) nU
      have sH := (s3.trans but_same).trans sT
      refine ⟨U, _, rfl, .of upd_same, rfl, _, _, rfl, _, _, rfl, ⟨t, _, rfl, seqT sH ht, rfl, _, _, rfl, _, _, rfl, _, _, rfl, rfl, rfl, ?_⟩⟩
      have hadj : (valV kvl (K2 (x0, y0))).isSome = decide ((x0, y0) ∈ wysL S.es) := by
        rw [dkl.at_]
        by_cases c : (x0, y0) ∈ wysL S.es
        · rw [if_pos c, decide_eq_true c]
          rfl
        · rw [if_neg c, decide_eq_false c]
          rfl
      have vdT : vd ≠ U := fun z => by rw [← z, ev] at nU; cases nU
      refine q_whenx (b := !(decide ((x0, y0) ∈ wysL S.es))) (Ax.is (ax_dnotPE (vl_var rfl) (vl_var rfl) (fun H' s' => vl_ses T 3 ((sH.trans s') _ _ e1) (vl_var rfl) rfl (by decide +kernel) (by decide +kernel)) (sH _ _ ekl)) (by rw [hadj])) (fun c H5 s5 => ?_) (fun c H5 s5 => ?_)
      · have c : (x0, y0) ∉ wysL S.es := by simpa using c
        exact raise_now (va_cons (vl_var rfl) va_nil) ((hb.l i _ hg hA c).to (sH.trans s5))
      · have c : (x0, y0) ∈ wysL S.es := by simpa using c
        refine q_when (b := !(priceB o)) (an_not (an_B fun Q q => ⟨oV o, rfl, o, rfl, q⟩)) (fun d => ?_) (fun d => ?_)
        · exact raise_now (va_cons (vl_var rfl) va_nil) ((hb.b i _ hg hA c (by simpa using d)).to (sH.trans s5))
        · have d : priceB o = true := by simpa using d
          have ok : okE S.es ((x0, y0), o) = true := by
            unfold okE
            rw [decide_eq_true c, d]
            rfl
          have lv := (valE_ok (es := S.es) (n := i) (eds := eds.take i) (by rw [List.length_take]; omega) hA).2
          refine g_dputK (v := oV o) (vl_var rfl) (vl_var rfl) (vl_var rfl) (vl_var rfl) (s5 _ _ (sT _ _ ev)) (Nat.lt_of_le_of_lt (m := 1000) (by unfold undK; rw [List.length_map]; omega) (by decide)) fun T2 nT2 oT2 => ⟨_, _, _, _, _, rfl, ?_, ?_, fun z hz => ?_⟩
          · rw [but_upd]
            exact s3.trans (but_mono (sT.trans (s5.trans (same_upd nT2))))
          · rw [upd_same, wtake_snoc9 hg, valE_snoc, undK_put]
            rfl
          · rw [wtake_snoc9 hg] at hz
            rcases List.mem_append.mp hz with hz | hz
            · exact hA z hz
            · rw [List.mem_singleton.mp hz]
              exact ok
    · obtain ⟨y3, y4, y5, y6, y7, rfl, s3, ev, hA⟩ := hP
      rw [lx, List.take_length] at hA
      rw [lx, List.take_length] at ev
      have q := q hA
      obtain ⟨hU, lv⟩ := valE_ok rfl hA
      generalize valE eds = vals at ev q hU lv
      have s1 := s3.trans but_same
      have hun := s1 _ _ hS.un
      refine nx_of ?_
      have old : ∀ z, z ∈ vals → okE S.es (z.1, S.lk z.1.1 z.1.2) = true := fun z hz => by
        unfold okE
        rw [decide_eq_true (hU.mem z hz).1, priceB_iff.mpr (hS.pok _ _)]
        rfl
      have hO : UOk S.es (oldU S vals) := by
        refine ⟨?_, fun z hz => ?_⟩
        · unfold oldU
          rw [List.map_map]
          exact hU.nd
        · obtain ⟨w, hw, rfl⟩ := List.mem_map.mp hz
          exact ⟨(hU.mem w hw).1, hS.pok _ _⟩
      refine q_appE (vl_ses T 10 (s1 _ _ e1) (vl_var rfl) rfl (by decide +kernel) (by decide +kernel)) hun ?_
      refine dc_keysV (d := vd) (kvs := undK vals) (g := fun kk => match kk with | [.inl x, .inl y] => oV (S.lk x y) | _ => .non) (by show 7 < 8; decide) (vl_var rfl) (.inl ev) (by unfold undK; rw [List.length_map]; omega) (by
        unfold undK
        rw [List.map_map]
        have := hU.nd
        have e : (vals.map ((fun kv : List L2.Key × V => kv.1) ∘ fun z => (K2 z.1, oV z.2))) = (vals.map (·.1)).map K2 := by rw [List.map_map]; rfl
        rw [e]
        exact List.pairwise_map.mpr (this.imp fun n e => n (K2_inj e))) (fun b kk H' hk s' hb => ?_) (fun a' H2 na' s2 rdv ea' => ?_)
      · unfold undK at hk
        rw [List.map_map] at hk
        obtain ⟨z, hz, rfl⟩ := List.mem_map.mp hk
        obtain ⟨⟨x, y⟩, o⟩ := z
        have hw := (hU.mem _ hz).1
        have sX : Same H H' := fun a u e => but_same _ _ (s' _ _ (s3 _ _ e))
        exact vl_dgetT (p := (x, y)) (vl_ses T 3 (sX _ _ e1) (vl_var rfl) rfl (by decide +kernel) (by decide +kernel)) (vl_var rfl) hb (sX _ _ ekl) (by rw [dkl.at_, if_pos hw]; rfl)
      · have s12 : Same H H2 := fun a u e => but_same _ _ (s2 _ _ (s3 _ _ e))
        have na : H a' = none := Same.free s1 na'
        have eo : (undK vals).map (fun kv => (kv.1, (match kv.1 with | [.inl x, .inl y] => oV (S.lk x y) | _ => .non : V))) = undK (oldU S vals) := by
          unfold undK oldU
          rw [List.map_map, List.map_map]
          rfl
        rw [eo] at ea'
        have hS3 := hS.push s12 na (.inl ea') hO
        have lus := hS.ud.len
        refine ⟨A.un, _, .ref a', rfl, rfl, s12 _ _ hS.un, Nat.lt_of_le_of_lt (m := 1000) (by rw [List.length_map]; omega) (by decide), ?_⟩
        rw [← List.map_singleton (f := V.ref) (a := a'), ← List.map_append]
        have nvd2 : vd ≠ A.un := fun z => hS.usd A.mem.2.2.2.2 (by rw [← z]; exact nvd)
        have e13 := hS3.im
        obtain ⟨ro3, en3, pa3, ab3, lkd3, e13, _⟩ := e13
        have am := A.mem
        have frn : ∀ {x u}, x ≠ vd → x ≠ A.un → upd H2 A.un (.lst ((A.us ++ [a']).map V.ref)) x = u → H2 x = u := fun n1 n2 e => by rwa [upd_ne n2] at e
        have vdm : vd ∉ A.m := fun z => hS.usd z nvd
        have vdl : vd ≠ A.lo := fun z => hS.lou (by rw [← z]; exact nvd)
        have rdv3 : Rd (buts A.m (upd H2 A.un (.lst ((A.us ++ [a']).map V.ref)))) vd (.dT (undK vals)) := by
          rw [buts_upd am.2.2.2.2]
          exact rdv.imp (fun e => by rw [buts_ne vdm]; exact e) fun ⟨o, e⟩ => ⟨o, by rw [buts_ne vdm]; exact e⟩
        have q := q a' na
        have sb : Same (buts A.m H) (buts A.m (upd H2 A.un (.lst ((A.us ++ [a']).map V.ref)))) := by
          rw [buts_upd am.2.2.2.2]
          exact buts_mono s12
        have nq3 : ∀ x, upd H2 A.un (.lst ((A.us ++ [a']).map V.ref)) x = none → H x = none := fun x e => by
          have n : x ≠ A.un := fun z => by rw [z, upd_same] at e; cases e
          rw [upd_ne n] at e
          exact Same.free s12 e
        have hp3 : ∀ u, H A.p = some u → upd H2 A.un (.lst ((A.us ++ [a']).map V.ref)) A.p = some u := fun u e => by
          rw [upd_ne (SesA.dist hS.nd).2.2.2.1]
          exact s12 _ _ e
        generalize upd H2 A.un (.lst ((A.us ++ [a']).map V.ref)) = H3 at hS3 e13 rdv3 sb nq3 hp3
        refine ⟨.ref A.p, rfl, A.p, _, _, rfl, e13, fldZ_no (by decide +kernel), .ref vd, rfl, A.push a', S.push (oldU S vals), vd, vals, rfl, hS3, rdv3, hU, vdl, by omega, fun H' q' ts rows' nq eq hd' fr _ kp hS' => q H' q' ts rows' (nq3 _ nq) eq hd' (fun x u e => ?_) (fun ro en pa ab lkd e => let ⟨ld, n, e'⟩ := kp ro en pa ab lkd (hp3 _ e); ⟨ld, nq3 _ n, e'⟩) hS'⟩
        obtain ⟨n1, e'⟩ := buts_no e
        have n2 : x ≠ vd := fun z => by rw [z, nvd] at e'; cases e'
        obtain ⟨n3, e3⟩ := buts_no (sb _ _ e)
        have fr : Same (buts (vd :: A.m) H3) (buts (q' :: vd :: A.m) H') := fr
        have := fr x u (by rw [buts_ne fun z => (List.mem_cons.mp z).elim n2 n3]; exact e3)
        obtain ⟨n4, e4⟩ := buts_no this
        rw [buts_ne fun z => n4 ((List.mem_cons.mp z).elim (fun h => by rw [h]; exact List.mem_cons_self) fun h => List.mem_cons_of_mem _ (List.mem_cons_of_mem _ h))]
        exact e4
theorem ok_sEdit {f : Addr} {fd : FuncData} {k k1 : Nat} (l1 : k1 ≤ k) (F : Fun K "edit" "Session.edit" sSEdit f fd) (T : SesT K CS) (cs_edit_all : KalMX P w K mg base k1 CS "edit_all" ["self", "edits"] (spSEditAll K CS CL CB)) : FnOk P w K mg base (L2.CX P w) (k + 1) f fd ["self", "a", "b", "price"] (spSEdit K CS CL CB) := by
  refine F.okX scSEdit (fun vs H Q E h => ?_) (fun cdv A outer s H vs Q E hr h => ?_)
  · obtain ⟨A, S, x, y, o, rfl, _⟩ := h
    rfl
  · obtain ⟨A, S, x, y, o, rfl, hS, lund, hb, q⟩ := h
    have hu := hu_of hr
    refine ⟨_, pss_one (ps_ret (pe_mx (E := E) cs_edit_all hr (by first | decide | omega) (takes_of rfl rfl rfl rfl) (pv 0) (pa_cons (pe_lst (pa_cons (pe_tup (pa_cons (pv 1) (pa_cons (pv 2) (pa_cons (pv 3) pa_nil)))) pa_nil)) pa_nil))), ?_⟩
    obtain ⟨ro, en, pa, ab, lkd0, e1, e2, tlk, e3, e4⟩ := hS.im
    refine ⟨.ref A.p, rfl, A.p, _, _, rfl, e1, fldZ_no (by decide +kernel), .int x, rfl, .int y, rfl, oV o, rfl, by show 3 ≤ sizeLine; decide, fun U nU => ⟨by show 1 ≤ sizeLine; decide, fun L nL => ?_⟩⟩
    have s1 := (same_upd (o := .tup [.int x, .int y, oV o]) nU).trans (same_upd (o := .lst [.ref U]) nL)
    have eU := same_upd (o := .lst [.ref U]) nL _ _ (upd_same (H := H) (a := U) (o := .tup [.int x, .int y, oV o]))
    have eL := upd_same (H := upd H U (.tup [.int x, .int y, oV o])) (a := L) (o := .lst [.ref U])
    generalize upd (upd H U (.tup [.int x, .int y, oV o])) L (.lst [.ref U]) = H1 at s1 eU eL
    refine ⟨A, S, .ref L, [((x, y), o)], rfl, hS.to s1, .lst (.of eL) (.cons (.tup (.of eU) (.cons (.int _) (.cons (.int _) (.cons (Dp.o _) .nil)))) .nil), by show 1 ≤ 1000; decide, lund, ⟨fun i e h1 h2 h3 => (hb.l i e h1 h2 h3).to s1, fun i e h1 h2 h3 h4 => (hb.b i e h1 h2 h3 h4).to s1⟩, fun ok a' na => ?_⟩
    have q := q (ok _ List.mem_cons_self) a' (Same.free s1 na)
    exact fun H' q' ts rows' nq eq hd fr kp hS' => q H' q' ts rows' (Same.free s1 nq) eq hd ((buts_mono s1).trans fr) (fun ro en pa ab lkd e => let ⟨ld, n, e'⟩ := kp ro en pa ab lkd (s1 _ _ e); ⟨ld, Same.free s1 n, e'⟩) hS'
end
/-! ### _law_changed: a net with prices of ways set -/
abbrev sLChanged : Stmt := topS 39
theorem scLChanged : FnScope ["net", "edits", "links", "x", "y", "price", "k", "a", "b", "there", "back"] ["net", "edits"] (defScope sLChanged) := ⟨rfl, rfl, rfl, by decide +kernel, rfl, by decide +kernel, by decide +kernel⟩
def spLChanged (K : PySem.W.Frag) : Sp := fun vs H Q _ => ∃ (v ev : V) (N : Net) (eds : EdL), vs = [v, ev] ∧ Dp K H v (netD N) ∧ NetOk N ∧ Dp K H ev (.list (eds.map edD)) ∧ eds.length ≤ 1000 ∧
  ∀ H' T L ts, Same H H' → H L = none → H' T = some (.tup [.int N.n, .ref L]) → H' L = some (.lst ts) → DpAll K H' ts ((netL (endsL N.ls) (setW (linkW N.ls) eds)).map lnkD) → Q (.ref T) H'
theorem g_setLS {σ : L2.St} {H : Hp} {te t0 t1 : TE} {D : Ends} {a : Addr} {xs : List V} {k : Nat} {ys : List V} (hv : ∀ Q : VK, (∀ T H', Same H H' → H T = none → H' T = some (.tup ys) → Q (.ref T) H') → te σ H Q) (h0 : ∀ H', Same H H' → Vl t0 σ H' (.ref a)) (h1 : ∀ H', Same H H' → Vl t1 σ H' (.int (k : Nat))) (ha : H a = some (.lst xs)) (hk : k < xs.length)
    (q : ∀ T H', Same H H' → H T = none → H' T = some (.tup ys) → D.nx σ (upd H' a (.lst (xs.set k (.ref T))))) : tAsg te (gSub t0 t1 rSetL) D σ H :=
  hv _ fun T H' s' nT eT => (h0 H' s') _ ((h1 H' s') _ ⟨a, xs, (k : Nat), k, rfl, rfl, s' _ _ ha, by
    unfold ixN
    rw [if_pos (by omega), if_pos (by omega)]
    rw [Int.toNat_natCast], q T H' s' nT eT⟩)
theorem DpAll.setS {K : PySem.W.Frag} {H : Hp} {v : V} {d : PyData} (hv : Dp K H v d) : ∀ {vs : List V} {ds : List PyData} (k : Nat), DpAll K H vs ds → DpAll K H (vs.set k v) (ds.set k d)
  | [], [], _, .nil => .nil
  | _ :: _, _ :: _, 0, .cons _ h => .cons hv h
  | _ :: _, _ :: _, k + 1, .cons h0 h => .cons h0 (DpAll.setS hv k h)
theorem mix_succ {α : Type} {as bs : List α} {k : Nat} {a : α} (hl : as.length = bs.length) (ha : as[k]? = some a) : as.take (k + 1) ++ bs.drop (k + 1) = (as.take k ++ bs.drop k).set k a := by
  have il := (List.getElem?_eq_some_iff.mp ha).1
  have hlk : (as.take k).length = k := by
    rw [List.length_take]
    omega
  rw [wtake_snoc9 ha, List.set_append_right _ _ (by omega), hlk, Nat.sub_self, List.drop_eq_getElem_cons (by omega : k < bs.length), List.set_cons_zero, List.append_assoc]
  rfl
theorem g_retE {te : TE} {D : Ends} {σ : L2.St} {H : Hp} (h : te σ H D.rt) : tRet te D σ H := h
/-- for a, b, price in edits -/
theorem g_forEd {K : PySem.W.Frag} {σ : L2.St} {H : Hp} {D : Ends} {tz : TS} {a : Addr} {j1 j2 j3 : Nat} {Hb : Hp} {xs : List V} {eds : EdL} {tl : TE} (h : Vl tl σ H (.ref a)) (hx : SqL K Hb a xs) (hL : DpAll K Hb xs (eds.map edD)) (Pv : Nat → L2.St → Hp → Prop) (h0 : Pv 0 σ H) (hl : ∀ i σ' H', Pv i σ' H' → Same Hb H')
    (hs : ∀ (i : Nat) e σ H, eds[i]? = some e → Pv i σ H → tz { D with nx := Pv (i + 1), ct := Pv (i + 1), bk := D.nx } (((σ.set j1 (some (.int e.1.1))).set j2 (some (.int e.1.2))).set j3 (some (oV e.2))) H) (hd : ∀ σ H, Pv eds.length σ H → D.nx σ H) :
    tFor (iList K tl) (gTup K 3 (gCons (gName j1) (gCons (gName j2) (gCons (gName j3) gNil)))) tz D σ H := by
  have ll := DpAll.len hL
  rw [List.length_map] at ll
  refine h _ ⟨a, rfl, ⟨_, (hl 0 _ _ h0).seq hx⟩, for_list Pv h0 (fun i σ H _ p => (hl i σ H p).seq hx) (fun i x σ H hi p => ?_) (fun σ H p => hd σ H (by rwa [ll] at p))⟩
  have il := (List.getElem?_eq_some_iff.mp hi).1
  rw [ll] at il
  have hg : eds[i]? = some (eds[i]'il) := List.getElem?_eq_getElem il
  generalize eds[i]'il = e at hg
  obtain ⟨v', ev, dv⟩ := DpAll.get (i := i) (d := edD e) hL (by
    rw [List.getElem?_map, hg]
    rfl)
  cases hi.symm.trans ev
  obtain ⟨t, rfl, ht⟩ := Dp.ed_inv dv
  exact ⟨t, _, rfl, seqT (hl i σ H p) ht, rfl, _, _, rfl, _, _, rfl, _, _, rfl, rfl, hs i e σ H hg p⟩
theorem q_forEd {K : PySem.W.Frag} {σ : L2.St} {H : Hp} {D : Ends} {tz tw : TS} {a : Addr} {j1 j2 j3 : Nat} {Hb : Hp} {xs : List V} {eds : EdL} {tl : TE} (h : Vl tl σ H (.ref a)) (hx : SqL K Hb a xs) (hL : DpAll K Hb xs (eds.map edD)) (Pv : Nat → L2.St → Hp → Prop) (h0 : Pv 0 σ H) (hl : ∀ i σ' H', Pv i σ' H' → Same Hb H')
    (hs : ∀ (i : Nat) e σ H, eds[i]? = some e → Pv i σ H → tz { D with nx := Pv (i + 1), ct := Pv (i + 1), bk := tw D } (((σ.set j1 (some (.int e.1.1))).set j2 (some (.int e.1.2))).set j3 (some (oV e.2))) H) (hd : ∀ σ H, Pv eds.length σ H → tw D σ H) :
    tSeq (tFor (iList K tl) (gTup K 3 (gCons (gName j1) (gCons (gName j2) (gCons (gName j3) gNil)))) tz) tw D σ H := g_forEd (D := { D with nx := tw D }) h hx hL Pv h0 hl hs hd
section
variable {P : Program} {w : World} {K : PySem.W.Frag} {mg : Str → Option Value} {base : Heap}
theorem ok_lChanged {f : Addr} {fd : FuncData} {k : Nat} (F : Fun K "_law_changed" "_law_changed" sLChanged f fd) (mL : mg "list" = none) (ml : mg "len" = none) (mr : mg "range" = none) : FnOk P w K mg base CX0 (k + 1) f fd ["net", "edits"] (spLChanged K) := by
  refine F.ok scLChanged (fun vs H Q E h => ?_) (fun cdv A outer s H vs Q E hr h => ?_)
  · obtain ⟨v, ev, N, eds, rfl, _⟩ := h
    rfl
  · obtain ⟨v, ev, N, eds, rfl, hN, ok, hE, leds, q⟩ := h
    have hu := hu_of hr
    refine ⟨_, pss_cons (ps_set (i := 2) scLChanged.nd rfl (.inl rfl) (pe_callTy call_list_of (by rfl) mL (by decide +kernel) (pa_cons (pe_ix ix_tup (pv 0) pe_int (fun _ _ => rfl)) pa_nil)))
      (pss_cons (ps_for PassesOwn.never rfl (pi_list (pv 1)) (pg_tup rfl (pgs_cons (pg_name (i := 3) scLChanged.nd rfl (.inl rfl)) (pgs_cons (pg_name (i := 4) scLChanged.nd rfl (.inl rfl)) (pgs_cons (pg_name (i := 5) scLChanged.nd rfl (.inl rfl)) pgs_nil))))
      (pss_one (ps_for PassesOwn.never rfl (pi_range1 (by rfl) mr (pa_cons (pe_callB call_len_seq (by rfl) ml PySem.boot_len (pa_cons (pv 2) pa_nil)) pa_nil)) (pg_name (i := 6) scLChanged.nd rfl (.inl rfl))
        (pss_cons (ps_asg (pe_ix ix_list (pv 2) (pv 6) (fun _ _ => rfl)) (pg_tup rfl (pgs_cons (pg_name (i := 7) scLChanged.nd rfl (.inl rfl)) (pgs_cons (pg_name (i := 8) scLChanged.nd rfl (.inl rfl)) (pgs_cons (pg_name (i := 9) scLChanged.nd rfl (.inl rfl)) (pgs_cons (pg_name (i := 10) scLChanged.nd rfl (.inl rfl)) pgs_nil))))))
          (pss_one (ps_if (pt_cmpR (op_eqD hr.units) (pe_tup (pa_cons (pv 7) (pa_cons (pv 8) pa_nil))) (pe_tup (pa_cons (pv 3) (pa_cons (pv 4) pa_nil))) (nomark _))
          (pss_one (ps_asg (pe_tup (pa_cons (pv 7) (pa_cons (pv 8) (pa_cons (pv 5) (pa_cons (pv 10) pa_nil))))) (pg_sub (pv 2) (pv 6) set_list)))
          (pss_one (ps_if (pt_cmpR (op_eqD hr.units) (pe_tup (pa_cons (pv 8) (pa_cons (pv 7) pa_nil))) (pe_tup (pa_cons (pv 3) (pa_cons (pv 4) pa_nil))) (nomark _))
            (pss_one (ps_asg (pe_tup (pa_cons (pv 7) (pa_cons (pv 8) (pa_cons (pv 9) (pa_cons (pv 5) pa_nil))))) (pg_sub (pv 2) (pv 6) set_list)))
            pss_nil))))))))
      (pss_one (ps_ret (pe_tup (pa_cons (pe_ix ix_tup (pv 0) pe_int (fun _ _ => rfl)) (pa_cons (pv 2) pa_nil)))))), ?_⟩
    obtain ⟨pn, c, xs, rfl, hpn, hc, hx⟩ := Dp.net_inv hN
    obtain ⟨ep, ys, rfl, hy, hd⟩ := Dp.lst_inv hE
    have lls := ok.len
    have lx := DpAll.len hx
    rw [List.length_map] at lx
    refine q_asgE ((vl_ixT (K := K) (vl_var rfl) vl_c hpn (atI_nat (j := 1) rfl)) _ ⟨c, _, rfl, .inl hc, fun L nL => ?_⟩)
    have s0 := same_upd (o := .lst xs) nL
    refine q_forEd (K := K) (Hb := H) (vl_var rfl) hy hd
      (fun i σ H' => ∃ y3 y4 y5 y6 y7 y8 y9 y10 ts, σ = [some (.ref pn), some (.ref ep), some (.ref L), y3, y4, y5, y6, y7, y8, y9, y10] ∧ Same H (but H' L) ∧ H' L = some (.lst ts) ∧ DpAll K (but H' L) ts ((netL (endsL N.ls) (setW (linkW N.ls) (eds.take i))).map lnkD))
      ⟨_, _, _, _, _, _, _, _, xs, rfl, same_but s0 nL, upd_same, by
        rw [List.take_zero]
        show DpAll K _ _ ((netL (endsL N.ls) (linkW N.ls)).map lnkD)
        rw [net_self ok]
        exact DpAll.to hx (same_but s0 nL)⟩ (fun i σ H' hP => ?_) (fun i e σ H1 hi hP => ?_) (fun σ H1 hP => ?_)
    · obtain ⟨_, _, _, _, _, _, _, _, _, _, s', _⟩ := hP
      exact s'.trans but_same
    · obtain ⟨y3, y4, y5, y6, y7, y8, y9, y10, ts, rfl, s1, eL, hT⟩ := hP
      obtain ⟨⟨x, y⟩, o⟩ := e
      have lt := DpAll.len hT
      rw [List.length_map] at lt
      have e1 : setW (linkW N.ls) (eds.take (i + 1)) = fun a b => if (a, b) = (x, y) then o else setW (linkW N.ls) (eds.take i) a b := by
        rw [wtake_snoc9 hi, setW_snoc]
      rw [e1]
      generalize setW (linkW N.ls) (eds.take i) = f0 at hT lt
      have f1e : ∃ f1 : Int → Int → Option Int, f1 = fun a b => if (a, b) = (x, y) then o else f0 a b := ⟨_, rfl⟩
      obtain ⟨f1, ef1⟩ := f1e
      rw [← ef1]
      have lE : ts.length = (endsL N.ls).length := by
        rw [lt]
        unfold netL
        rw [List.length_map]
      have lE2 : (endsL N.ls).length ≤ 1600 := by
        unfold endsL
        rw [List.length_map]
        exact Nat.le_trans lls (by decide)
      refine g_forR (n := (ts.length : Int)) (va_cons (vl_lenL (K := K) (vl_var rfl) (.of eL)) va_nil) (by omega)
        (fun k σ H' => ∃ y6 y7 y8 y9 y10 ts', σ = [some (.ref pn), some (.ref ep), some (.ref L), some (.int x), some (.int y), some (oV o), y6, y7, y8, y9, y10] ∧ Same H (but H' L) ∧ H' L = some (.lst ts') ∧ DpAll K (but H' L) ts' (((netL (endsL N.ls) f1).take k ++ (netL (endsL N.ls) f0).drop k).map lnkD))
        ⟨_, _, _, _, _, ts, rfl, s1, eL, hT⟩ (fun k σ H2 hk hP => ?_) (fun σ H2 hP => ?_)
      · obtain ⟨y6, y7, y8, y9, y10, ts', rfl, s2, eL2, hT2⟩ := hP
        have kl : k < (endsL N.ls).length := by omega
        have hek : (endsL N.ls)[k]? = some ((endsL N.ls)[k]'kl) := List.getElem?_eq_getElem kl
        generalize (endsL N.ls)[k]'kl = z at hek
        obtain ⟨a, b⟩ := z
        have n0 : (netL (endsL N.ls) f0)[k]? = some ⟨a, b, f0 a b, f0 b a⟩ := by
          unfold netL
          rw [List.getElem?_map, hek]
          rfl
        have n1 : (netL (endsL N.ls) f1)[k]? = some ⟨a, b, f1 a b, f1 b a⟩ := by
          unfold netL
          rw [List.getElem?_map, hek]
          rfl
        have ll0 : (netL (endsL N.ls) f0).length = (endsL N.ls).length := by unfold netL; rw [List.length_map]
        have ll1 : (netL (endsL N.ls) f1).length = (endsL N.ls).length := by unfold netL; rw [List.length_map]
        have hm : ((netL (endsL N.ls) f1).take k ++ (netL (endsL N.ls) f0).drop k)[k]? = some ⟨a, b, f0 a b, f0 b a⟩ := by
          have hlk : ((netL (endsL N.ls) f1).take k).length = k := by
            rw [List.length_take]
            omega
          rw [List.getElem?_append_right (by omega), hlk, Nat.sub_self, List.getElem?_drop]
          exact n0
        have hms := mix_succ (as := netL (endsL N.ls) f1) (bs := netL (endsL N.ls) f0) (ll1.trans ll0.symm) n1
        have lt2 := DpAll.len hT2
        rw [List.length_map, List.length_append, List.length_take, List.length_drop] at lt2
        generalize (netL (endsL N.ls) f1).take k ++ (netL (endsL N.ls) f0).drop k = M at hT2 hm hms
        obtain ⟨v', ev', dv⟩ := DpAll.get (i := k) (d := lnkD ⟨a, b, f0 a b, f0 b a⟩) hT2 (by
          rw [List.getElem?_map, hm]
          rfl)
        obtain ⟨t, rfl, ht⟩ := Dp.lnk_inv dv
        have hab : a < b := by
          have := ends_ok ok
          obtain ⟨l, hl, el⟩ := List.mem_map.mp (List.mem_of_getElem? hek)
          have := (ok.ok l hl).ab
          cases el
          exact this
        refine q_asgLnk (l := ⟨a, b, f0 a b, f0 b a⟩) (vl_ixL (K := K) (vl_var rfl) (vl_var rfl) (.of eL2) (atI_nat (j := k) ev')) (seqT but_same ht) ?_
        have put : ∀ (T : Addr) (H3 H4 : Hp), Same H2 H3 → Same H3 H4 → H3 T = none → H4 T = some (.tup (lnkV ⟨a, b, f1 a b, f1 b a⟩)) → Same H (but (upd H4 L (.lst (ts'.set k (.ref T)))) L) ∧ upd H4 L (.lst (ts'.set k (.ref T))) L = some (.lst (ts'.set k (.ref T))) ∧ DpAll K (but (upd H4 L (.lst (ts'.set k (.ref T)))) L) (ts'.set k (.ref T)) (((netL (endsL N.ls) f1).take (k + 1) ++ (netL (endsL N.ls) f0).drop (k + 1)).map lnkD) := fun T H3 H4 s3 s4 nT eT => by
          have TL : T ≠ L := fun z => by rw [z, s3 _ _ eL2] at nT; cases nT
          rw [but_upd, hms, List.map_set]
          refine ⟨s2.trans (but_mono (s3.trans s4)), upd_same, DpAll.setS (Dp.lnk (.of ?_)) k (DpAll.to hT2 (but_mono (s3.trans s4)))⟩
          rw [but_ne TL]
          exact eT
        refine g_ifx (b := decide (a = x ∧ b = y)) (ax_eqTT (fun _ _ => vl_var rfl) (fun _ _ => vl_var rfl) (fun _ _ => vl_var rfl) (fun _ _ => vl_var rfl)) (fun c H3 s3 => ?_) (fun c H3 s3 => ?_)
        · obtain ⟨rfl, rfl⟩ := of_decide_eq_true c
          have o1 : f1 a b = o := by rw [ef1]; exact if_pos rfl
          have o2 : f1 b a = f0 b a := by rw [ef1]; exact if_neg fun h => by cases h; omega
          refine g_setLS (k := k) (ys := lnkV ⟨a, b, o, f0 b a⟩) (fun Q h => ⟨_, rfl, _, rfl, _, rfl, _, rfl, by show 4 ≤ sizeLine; decide, fun T nT => h T _ (same_upd nT) nT upd_same⟩) (fun _ _ => vl_var rfl) (fun _ _ => vl_var rfl) (s3 _ _ eL2) (by omega) fun T H4 s4 nT eT => ?_
          rw [← o1, ← o2] at eT
          obtain ⟨p1, p2, p3⟩ := put T H3 H4 s3 s4 nT eT
          exact ⟨_, _, _, _, _, _, rfl, p1, p2, p3⟩
        · have c := of_decide_eq_false c
          refine g_ifx (b := decide (b = x ∧ a = y)) (ax_eqTT (fun _ _ => vl_var rfl) (fun _ _ => vl_var rfl) (fun _ _ => vl_var rfl) (fun _ _ => vl_var rfl)) (fun d H3' s3' => ?_) (fun d H3' s3' => ?_)
          · obtain ⟨rfl, rfl⟩ := of_decide_eq_true d
            have o1 : f1 a b = f0 a b := by rw [ef1]; exact if_neg fun h => by cases h; omega
            have o2 : f1 b a = o := by rw [ef1]; exact if_pos rfl
            refine g_setLS (k := k) (ys := lnkV ⟨a, b, f0 a b, o⟩) (fun Q h => ⟨_, rfl, _, rfl, _, rfl, _, rfl, by show 4 ≤ sizeLine; decide, fun T nT => h T _ (same_upd nT) nT upd_same⟩) (fun _ _ => vl_var rfl) (fun _ _ => vl_var rfl) ((s3.trans s3') _ _ eL2) (by omega) fun T H4 s4 nT eT => ?_
            rw [← o1, ← o2] at eT
            obtain ⟨p1, p2, p3⟩ := put T H3' H4 (s3.trans s3') s4 nT eT
            exact ⟨_, _, _, _, _, _, rfl, p1, p2, p3⟩
          · have d := of_decide_eq_false d
            have o1 : f1 a b = f0 a b := by rw [ef1]; exact if_neg fun h => c (by cases h; exact ⟨rfl, rfl⟩)
            have o2 : f1 b a = f0 b a := by rw [ef1]; exact if_neg fun h => d (by cases h; exact ⟨rfl, rfl⟩)
            have sm := but_mono (o := L) (s3.trans s3')
            refine ⟨_, _, _, _, _, _, rfl, s2.trans sm, (s3.trans s3') _ _ eL2, ?_⟩
            rw [hms, o1, o2, List.map_set]
            have := DpAll.setS (Dp.to dv sm) k (DpAll.to hT2 sm)
            rwa [show ts'.set k (.ref t) = ts' from by
              obtain ⟨h1, h2⟩ := List.getElem?_eq_some_iff.mp ev'
              rw [← h2, List.set_getElem_self]] at this
      · obtain ⟨y6, y7, y8, y9, y10, ts', rfl, s2, eL2, hT2⟩ := hP
        refine ⟨_, _, _, _, _, _, _, _, ts', rfl, s2, eL2, ?_⟩
        rwa [Int.toNat_natCast, List.take_of_length_le (by unfold netL; rw [List.length_map]; omega), List.drop_eq_nil_of_le (by unfold netL; rw [List.length_map]; omega), List.append_nil] at hT2
    · obtain ⟨y3, y4, y5, y6, y7, y8, y9, y10, ts, rfl, s1, eL, hT⟩ := hP
      rw [List.take_length] at hT
      refine g_retE ((vl_ixT (K := K) (vl_var rfl) vl_c (seqT (s1.trans but_same) hpn) (atI_nat (j := 0) rfl)) _ ⟨.ref L, rfl, by show 2 ≤ sizeLine; decide, fun T nT => q _ T L ts ((s1.trans but_same).trans (same_upd nT)) nL upd_same (same_upd nT _ _ eL) (DpAll.to hT (but_same.trans (same_upd nT)))⟩)
end
structure MendH (K : PySem.W.Frag) (CS : Addr) (A : SesA) (S : SesS) (lk' : Int → Int → Option Int) (H0 : Hp) (vd md ld cd : Addr) (vals : List ((Int × Int) × Option Int)) (f0 f1 f : Int → Int → Option Int × Option Int) (mk : Int × Int → Bool) (lkd chg : List (Int × Int)) (b : Nat) (H : Hp) : Prop where
  hmid : MidAt CS (buts [md, ld, cd, vd] H) A S lk' f
  hmd : ∃ kvm, H md = some (.dT kvm) ∧ kvm.length ≤ b ∧ ∀ p, (valV kvm (K2 p)).isSome = mk p
  hld : ∃ tl, H ld = some (.lst tl) ∧ TupsAt (buts ([md, ld, cd, vd] ++ A.m) H) tl lkd
  hcd : ∃ tc, H cd = some (.lst tc) ∧ DpAll K (buts ([md, ld, cd, vd] ++ A.m) H) tc (chg.map (chgD f0 f1))
  hs : Same (buts (vd :: A.m) H0) (buts ([md, ld, cd, vd] ++ A.m) H)
  hvd : Rd H vd (.dT (undK vals))
  hun : H A.un = some (.lst (A.us.map V.ref))
  hpo : ∃ u, H A.p = some u ∧ H0 A.p = some u
section
variable {K : PySem.W.Frag} {CS : Addr} {A : SesA} {S : SesS} {lk' : Int → Int → Option Int} {H0 : Hp} {vd md ld cd : Addr} {vals : List ((Int × Int) × Option Int)} {f0 f1 f f' : Int → Int → Option Int × Option Int} {mk mk' : Int × Int → Bool} {lkd chg : List (Int × Int)} {b b' : Nat} {H H' : Hp} {T : Addr} {x y : Int}
theorem MendH.to (h : MendH K CS A S lk' H0 vd md ld cd vals f0 f1 f mk lkd chg b H) (s : Same H H') : MendH K CS A S lk' H0 vd md ld cd vals f0 f1 f mk lkd chg b H' := by
  have sb := buts_mono (as := [md, ld, cd, vd] ++ A.m) s
  exact ⟨h.hmid.to (buts_mono s), let ⟨k, e, r⟩ := h.hmd; ⟨k, s _ _ e, r⟩, let ⟨k, e, r⟩ := h.hld; ⟨k, s _ _ e, r.to sb⟩, let ⟨k, e, r⟩ := h.hcd; ⟨k, s _ _ e, DpAll.to r sb⟩, h.hs.trans sb, rd_to h.hvd s, s _ _ h.hun, let ⟨u, e, e0⟩ := h.hpo; ⟨u, s _ _ e, e0⟩⟩
theorem MendH.sm (h : MendH K CS A S lk' H0 vd md ld cd vals f0 f1 f mk lkd chg b H) : ∀ a, a ∈ [md, ld, cd, vd] ++ A.m → H a ≠ none := fun a ha e => by
  obtain ⟨ro, en, pa, ab, lk, e1, _⟩ := h.hmid.im
  obtain ⟨k1, e2, _⟩ := h.hmid.lk
  obtain ⟨k2, e3, _⟩ := h.hmid.pr
  obtain ⟨k3, e4, _⟩ := h.hmid.mi
  obtain ⟨k4, e5, _⟩ := h.hmd
  obtain ⟨k5, e6, _⟩ := h.hld
  obtain ⟨k6, e7, _⟩ := h.hcd
  have e1 := buts_same _ _ e1
  have e2 := buts_same _ _ e2
  have e3 := buts_same _ _ e3
  have e4 := buts_same _ _ e4
  have e8 := h.hun
  unfold SesA.m at ha
  simp only [List.cons_append, List.nil_append, List.mem_cons, List.not_mem_nil, or_false] at ha
  rcases ha with rfl | rfl | rfl | rfl | rfl | rfl | rfl | rfl | rfl
  · rw [e] at e5; cases e5
  · rw [e] at e6; cases e6
  · rw [e] at e7; cases e7
  · rcases h.hvd with z | ⟨o, z⟩ <;> rw [e] at z <;> cases z
  · rw [e] at e1; cases e1
  · rw [e] at e2; cases e2
  · rw [e] at e3; cases e3
  · rw [e] at e4; cases e4
  · rw [e] at e8; cases e8
theorem MendH.fresh (h : MendH K CS A S lk' H0 vd md ld cd vals f0 f1 f mk lkd chg b H) (n : H T = none) : T ∉ [md, ld, cd, vd] ++ A.m := fun z => h.sm _ z n
theorem MendH.look (h : MendH K CS A S lk' H0 vd md ld cd vals f0 f1 f mk lkd chg b H) (nd : ([md, ld, cd, vd] ++ A.m).Nodup) (hT : H T = some (.tup [.int x, .int y])) (nT : T ∉ [md, ld, cd, vd] ++ A.m) {tl : List V} (e : H ld = some (.lst tl)) :
    MendH K CS A S lk' H0 vd md ld cd vals f0 f1 f mk (lkd ++ [(x, y)]) chg b (upd H ld (.lst (tl ++ [.ref T]))) := by
  have m1 : ld ∈ [md, ld, cd, vd] := by simp
  have m2 : ld ∈ [md, ld, cd, vd] ++ A.m := List.mem_append.mpr (.inl m1)
  simp only [List.cons_append, List.nil_append, List.nodup_cons, List.mem_cons, not_or] at nd
  obtain ⟨⟨n1, n2, n3, n4⟩, ⟨n5, n6, n7⟩, ⟨n8, n9⟩, n10, n11⟩ := nd
  obtain ⟨k, e1, r⟩ := h.hld
  cases e.symm.trans e1
  refine ⟨by rw [buts_upd m1]; exact h.hmid, let ⟨k, e, r⟩ := h.hmd; ⟨k, by rw [upd_ne n1]; exact e, r⟩, ⟨_, upd_same, ?_⟩, let ⟨k, e, r⟩ := h.hcd; ⟨k, by rw [upd_ne fun z => n5 z.symm]; exact e, by rw [buts_upd m2]; exact r⟩, by rw [buts_upd m2]; exact h.hs, ?_, by rw [upd_ne fun z => n7 (by rw [← z]; exact A.mem.2.2.2.2)]; exact h.hun, let ⟨u, e, e0⟩ := h.hpo; ⟨u, by rw [upd_ne fun z => n7 (by rw [← z]; exact A.mem.1)]; exact e, e0⟩⟩
  · rw [buts_upd m2]
    exact r.app (TupsAt.one (by rw [buts_ne nT]; exact hT))
  · exact h.hvd.imp (fun e => by rw [upd_ne fun z => n6 z.symm]; exact e) fun ⟨o, e⟩ => ⟨o, by rw [upd_ne fun z => n6 z.symm]; exact e⟩
theorem MendH.chgs (h : MendH K CS A S lk' H0 vd md ld cd vals f0 f1 f mk lkd chg b H) (nd : ([md, ld, cd, vd] ++ A.m).Nodup) (hT : H T = some (.tup [.int x, .int y, oV (f0 x y).1, oV (f1 x y).1])) (nT : T ∉ [md, ld, cd, vd] ++ A.m) {tc : List V} (e : H cd = some (.lst tc)) :
    MendH K CS A S lk' H0 vd md ld cd vals f0 f1 f mk lkd (chg ++ [(x, y)]) b (upd H cd (.lst (tc ++ [.ref T]))) := by
  have m1 : cd ∈ [md, ld, cd, vd] := by simp
  have m2 : cd ∈ [md, ld, cd, vd] ++ A.m := List.mem_append.mpr (.inl m1)
  simp only [List.cons_append, List.nil_append, List.nodup_cons, List.mem_cons, not_or] at nd
  obtain ⟨⟨n1, n2, n3, n4⟩, ⟨n5, n6, n7⟩, ⟨n8, n9⟩, n10, n11⟩ := nd
  obtain ⟨k, e1, r⟩ := h.hcd
  cases e.symm.trans e1
  refine ⟨by rw [buts_upd m1]; exact h.hmid, let ⟨k, e, r⟩ := h.hmd; ⟨k, by rw [upd_ne n2]; exact e, r⟩, let ⟨k, e, r⟩ := h.hld; ⟨k, by rw [upd_ne n5]; exact e, by rw [buts_upd m2]; exact r⟩, ⟨_, upd_same, ?_⟩, by rw [buts_upd m2]; exact h.hs, ?_, by rw [upd_ne fun z => n9 (by rw [← z]; exact A.mem.2.2.2.2)]; exact h.hun, let ⟨u, e, e0⟩ := h.hpo; ⟨u, by rw [upd_ne fun z => n9 (by rw [← z]; exact A.mem.1)]; exact e, e0⟩⟩
  · rw [buts_upd m2, List.map_append]
    exact DpAll.app r (.cons (.tup (.of (by rw [buts_ne nT]; exact hT)) (.cons (.int _) (.cons (.int _) (.cons (Dp.o _) (.cons (Dp.o _) .nil))))) .nil)
  · exact h.hvd.imp (fun e => by rw [upd_ne fun z => n8 z.symm]; exact e) fun ⟨o, e⟩ => ⟨o, by rw [upd_ne fun z => n8 z.symm]; exact e⟩
theorem MendH.fill (h : MendH K CS A S lk' H0 vd md ld cd vals f0 f1 f mk lkd chg b H) (nd : ([md, ld, cd, vd] ++ A.m).Nodup) (s : Same (buts A.m H) (buts A.m H')) (un : ∀ a u, (a = A.un ∨ a = A.p) → H a = some u → H' a = some u) (mid : MidAt CS (buts [md, ld, cd, vd] H') A S lk' f') : MendH K CS A S lk' H0 vd md ld cd vals f0 f1 f' mk lkd chg b H' := by
  simp only [List.cons_append, List.nil_append, List.nodup_cons, List.mem_cons, not_or] at nd
  obtain ⟨⟨n1, n2, n3, n4⟩, ⟨n5, n6, n7⟩, ⟨n8, n9⟩, n10, n11⟩ := nd
  have g : ∀ {a u}, a ∉ A.m → H a = Option.some u → H' a = Option.some u := fun {a u} n e => by
    have := s a u (by rw [buts_ne n]; exact e)
    rwa [buts_ne n] at this
  have sb : Same (buts ([md, ld, cd, vd] ++ A.m) H) (buts ([md, ld, cd, vd] ++ A.m) H') := by
    rw [buts_app, buts_app]
    exact buts_mono s
  exact ⟨mid, let ⟨k, e, r⟩ := h.hmd; ⟨k, g n4 e, r⟩, let ⟨k, e, r⟩ := h.hld; ⟨k, g n7 e, r.to sb⟩, let ⟨k, e, r⟩ := h.hcd; ⟨k, g n9 e, DpAll.to r sb⟩, h.hs.trans sb, h.hvd.imp (g n10) fun ⟨o, e⟩ => ⟨o, g n10 e⟩, un _ _ (.inl rfl) h.hun, let ⟨u, e, e0⟩ := h.hpo; ⟨u, un _ _ (.inr rfl) e, e0⟩⟩
theorem MendH.mark (h : MendH K CS A S lk' H0 vd md ld cd vals f0 f1 f mk lkd chg b H) (nd : ([md, ld, cd, vd] ++ A.m).Nodup) (s : Same (but H md) (but H' md)) {kvm : List (List L2.Key × V)} (e : H' md = some (.dT kvm)) (hl : kvm.length ≤ b') (hk : ∀ p, (valV kvm (K2 p)).isSome = mk' p) : MendH K CS A S lk' H0 vd md ld cd vals f0 f1 f mk' lkd chg b' H' := by
  have m1 : md ∈ [md, ld, cd, vd] := by simp
  have m2 : md ∈ [md, ld, cd, vd] ++ A.m := List.mem_append.mpr (.inl m1)
  simp only [List.cons_append, List.nil_append, List.nodup_cons, List.mem_cons, not_or] at nd
  obtain ⟨⟨n1, n2, n3, n4⟩, ⟨n5, n6, n7⟩, ⟨n8, n9⟩, n10, n11⟩ := nd
  have g : ∀ {a u}, a ≠ md → H a = Option.some u → H' a = Option.some u := fun {a u} n e => by
    have := s a u (by rw [but_ne n]; exact e)
    rwa [but_ne n] at this
  have sx : ∀ bs : List Addr, md ∈ bs → Same (buts bs H) (buts bs H') := fun bs hm a u e => by
    obtain ⟨n, e⟩ := buts_no e
    rw [buts_ne n]
    exact g (fun z => n (by rw [z]; exact hm)) e
  exact ⟨h.hmid.to (sx _ m1), ⟨kvm, e, hl, hk⟩, let ⟨k, e, r⟩ := h.hld; ⟨k, g (fun z => n1 z.symm) e, r.to (sx _ m2)⟩, let ⟨k, e, r⟩ := h.hcd; ⟨k, g (fun z => n2 z.symm) e, DpAll.to r (sx _ m2)⟩, h.hs.trans (sx _ m2), h.hvd.imp (g fun z => n3 z.symm) fun ⟨o, e⟩ => ⟨o, g (fun z => n3 z.symm) e⟩, g (fun z => n4 (by rw [← z]; exact A.mem.2.2.2.2)) h.hun, let ⟨u, e, e0⟩ := h.hpo; ⟨u, g (fun z => n4 (by rw [← z]; exact A.mem.1)) e, e0⟩⟩
end
section
variable {P : Program} {w : World} {K : PySem.W.Frag} {mg : Str → Option Value} {base : Heap} {CS : Addr}
theorem MendH.mono {A : SesA} {S : SesS} {lk' : Int → Int → Option Int} {H0 : Hp} {vd md ld cd : Addr} {vals : List ((Int × Int) × Option Int)} {f0 f1 f : Int → Int → Option Int × Option Int} {mk : Int × Int → Bool} {lkd chg : List (Int × Int)} {b b' : Nat} {H : Hp} (h : MendH K CS A S lk' H0 vd md ld cd vals f0 f1 f mk lkd chg b H) (l : b ≤ b') : MendH K CS A S lk' H0 vd md ld cd vals f0 f1 f mk lkd chg b' H :=
  ⟨h.hmid, let ⟨k, e, l1, r⟩ := h.hmd; ⟨k, e, Nat.le_trans l1 l, r⟩, h.hld, h.hcd, h.hs, h.hvd, h.hun, h.hpo⟩
theorem ax_dnotPS {σ : L2.St} {H : Hp} {ta tb td : TE} {o : Addr} {kvs : List (List L2.Key × V)} {x y : Int} (h1 : Vl ta σ H (.int x)) (h2 : Vl tb σ H (.int y)) (h3 : ∀ H', Same H H' → Vl td σ H' (.ref o)) (hD : H o = some (.dT kvs)) : Ax (tB (tDNotIn (tTup (tCons ta (tCons tb tNil))) td)) σ H (!(valV kvs (K2 (x, y))).isSome) := fun Q k =>
  h1 _ (h2 _ ⟨by show 2 ≤ sizeLine; decide, fun T nT => h3 _ (same_upd nT) _ ⟨o, _, rfl, DGet.t (k := K2 (x, y)) (same_upd nT _ _ hD) upd_same, _, rfl, k _ (same_upd nT)⟩⟩)
theorem scal_oo (a b : Option Int) : scal (oV a) (oV b) = true := by
  cases a <;> cases b <;> rfl
theorem oV_inj {a b : Option Int} (h : oV a = oV b) : a = b := by
  cases a <;> cases b <;> cases h <;> rfl
theorem MidAt.at_ {G : Hp} {A : SesA} {S : SesS} {lk : Int → Int → Option Int} {f : Int → Int → Option Int × Option Int} (h : MidAt CS G A S lk f) : ∃ vs, G A.p = some (.ins CS A.dx (fldZ sesN vs)) ∧ vs[7]? = some (.ref A.pr) ∧ vs[9]? ≠ none := by
  obtain ⟨ro, en, pa, ab, lkd, e1, _⟩ := h.im
  exact ⟨_, e1, rfl, (fun z => nomatch z)⟩
theorem buts_eqS {bs : List Addr} {H Hn : Hp} {d : Addr} (h : d ∈ bs) (b : but Hn d = but H d) : buts bs Hn = buts bs H := by
  funext a
  by_cases c : a ∈ bs
  · rw [buts_at c, buts_at c]
  · have := congrFun b a
    rw [but_ne fun z => c (by rw [z]; exact h), but_ne fun z => c (by rw [z]; exact h)] at this
    rw [buts_ne c, buts_ne c, this]
theorem undK_key {vals : List ((Int × Int) × Option Int)} {p : Int × Int} : K2 p ∈ (undK vals).map (·.1) ↔ domU vals p = true := by
  unfold undK domU
  rw [List.map_map, List.mem_map, List.any_eq_true]
  exact ⟨fun ⟨z, hz, e⟩ => ⟨z, hz, decide_eq_true (K2_inj e)⟩, fun ⟨z, hz, e⟩ => ⟨z, hz, by rw [← of_decide_eq_true e]; rfl⟩⟩
theorem MidAt.setLk {G : Hp} {A : SesA} {S : SesS} {lk lk' : Int → Int → Option Int} {f : Int → Int → Option Int × Option Int} (h : MidAt CS G A S lk f) {kvs : List (List L2.Key × V)} (d : LkD kvs S.es lk') : MidAt CS (upd G A.lk (.dT kvs)) A S lk' f := by
  obtain ⟨d1, d2, d3, d4, d5, d6, d7, d8, d9, d10⟩ := SesA.dist h.nd
  obtain ⟨ro, en, pa, ab, lkd, e1, e2⟩ := h.im
  exact ⟨h.nd, ⟨ro, en, pa, ab, lkd, by rw [upd_ne d1]; exact e1, by rw [buts_upd A.mem.2.1]; exact e2⟩, ⟨kvs, upd_same, d⟩, let ⟨k, e, d⟩ := h.pr; ⟨k, by rw [upd_ne fun z => d5 z.symm]; exact e, d⟩, let ⟨k, e, d⟩ := h.mi; ⟨k, by rw [upd_ne fun z => d6 z.symm]; exact e, d⟩⟩
theorem ok_sMend {f : Addr} {fd : FuncData} {k k1 k2 : Nat} (l1 : k1 ≤ k) (l2 : k2 ≤ k) (F : Fun K "_mend" "Session._mend" sSMend f fd) (T : SesT K CS) (cs_fill_in : KalM P w K mg base k1 CS "_fill_in" ["self", "low", "high", "x", "y"] (spSFillIn CS)) (cs_mark : KalM P w K mg base k2 CS "_mark" ["self", "marked", "low", "high", "x"] (spSMark CS)) : FnOk P w K mg base CX0 (k + 1) f fd ["self", "values"] (spSMend K CS) := by
  refine F.ok scSMend (fun vs H Q E h => ?_) (fun cdv A outer s H vs Q E hr h => ?_)
  · obtain ⟨A, S, vd, vals, rfl, _⟩ := h
    rfl
  · obtain ⟨A, S, vd, vals, rfl, hS, hvd, hU, vlo, lvals, q⟩ := h
    have hu := hu_of hr
    refine ⟨_, pss_cons (ps_for PassesOwn.never rfl (pi_keysTF (pv 1)) (pg_name (i := 2) scSMend.nd rfl (.inl rfl))
      (pss_one (ps_dput hu (pe_fld (pv 0) rfl) (pv 2) (pe_dget hu (pv 1) (pv 2) (fun _ _ => rfl)) rfl)))
      (pss_cons (ps_setDcT (i := 3) (own := [("way", 2)]) (g := gName 2) (tt := tYes) (tk := (tVar 2)) (tv := (tC (.bl true))) hu rfl scSMend.nd rfl rfl (swapsD rfl rfl rfl (by decide +kernel)) (pi_keysTF (pv 1)) (blkOk_by (own := [("way", 2)]) (N := ["self", "values", "way", "marked", "looked", "changes", "low", "high", "x", "y", "old", "new"]) (sc := defScope sSMend) (by decide +kernel)) (fun _ _ _ _ _ => pg_name (i := 2) scSMend.nd rfl (Or.inl rfl)) (fun _ _ _ _ _ => by exact pts_nil) (fun _ _ _ _ _ => by exact (pv 2)) (fun _ _ _ _ _ => by exact pe_bl))
      (pss_cons (ps_set (i := 4) scSMend.nd rfl (.inl rfl) (pe_lst pa_nil))
      (pss_cons (ps_set (i := 5) scSMend.nd rfl (.inl rfl) (pe_lst pa_nil))
      (pss_cons (ps_for PassesOwn.never rfl (pi_list (pe_fld (pv 0) rfl)) (pg_tup rfl (pgs_cons (pg_name (i := 6) scSMend.nd rfl (.inl rfl)) (pgs_cons (pg_name (i := 7) scSMend.nd rfl (.inl rfl)) pgs_nil)))
      (pss_one (ps_for PassesOwn.never rfl (pi_tup (pe_tup (pa_cons (pe_tup (pa_cons (pv 6) (pa_cons (pv 7) pa_nil))) (pa_cons (pe_tup (pa_cons (pv 7) (pa_cons (pv 6) pa_nil))) pa_nil)))) (pg_tup rfl (pgs_cons (pg_name (i := 8) scSMend.nd rfl (.inl rfl)) (pgs_cons (pg_name (i := 9) scSMend.nd rfl (.inl rfl)) pgs_nil)))
        (pss_cons (ps_if (pt_cmp (pc_dnotin hu (pe_tup (pa_cons (pv 8) (pa_cons (pv 9) pa_nil))) (pv 3)))
          (pss_one ps_continue)
          pss_nil)
          (pss_cons (ps_expr (pe_bm PySem.F.plainAttrs_list PySem.F.slot_list_append PySem.F.type_list_append mt_append (pv 4) (pa_cons (pe_tup (pa_cons (pv 8) (pa_cons (pv 9) pa_nil))) pa_nil)))
          (pss_cons (ps_set (i := 10) scSMend.nd rfl (.inl rfl) (pe_dget hu (pe_fld (pv 0) rfl) (pe_tup (pa_cons (pv 8) (pa_cons (pv 9) pa_nil))) (fun _ _ => rfl)))
          (pss_cons (ps_set (i := 11) scSMend.nd rfl (.inl rfl) (pe_m cs_fill_in hr (by first | decide | omega) (pv 0) (pa_cons (pv 6) (pa_cons (pv 7) (pa_cons (pv 8) (pa_cons (pv 9) pa_nil))))))
          (pss_one (ps_if (pt_cmpR op_ne (pv 11) (pv 10) (nomark _))
          (pss_cons (ps_expr (pe_bm PySem.F.plainAttrs_list PySem.F.slot_list_append PySem.F.type_list_append mt_append (pv 5) (pa_cons (pe_tup (pa_cons (pv 8) (pa_cons (pv 9) (pa_cons (pv 10) (pa_cons (pv 11) pa_nil))))) pa_nil)))
            (pss_one (ps_expr (pe_m cs_mark hr (by first | decide | omega) (pv 0) (pa_cons (pv 3) (pa_cons (pv 6) (pa_cons (pv 7) (pa_cons (pv 8) pa_nil))))))))
          pss_nil)))))))))
      (pss_cons (ps_fld (pv 0) (pv 4) rfl)
      (pss_one (ps_ret (pv 5)))))))), ?_⟩
    obtain ⟨ro, en, pa, ab, lkd0, e1, e2, tlk, e3, e4⟩ := hS.im
    have vdm : vd ∉ A.m := by
      rcases hvd with e | ⟨o, e⟩ <;> exact (buts_no e).1
    have hvdH : Rd H vd (.dT (undK vals)) := hvd.imp (buts_same _ _) fun ⟨o, e⟩ => ⟨o, buts_same _ _ e⟩
    obtain ⟨d1, d2, d3, d4, d5, d6, d7, d8, d9, d10⟩ := SesA.dist hS.nd
    have am := A.mem
    have nv : ∀ {a}, a ∈ A.m → a ∉ [vd] := fun ha z => vdm (by rw [← List.mem_singleton.mp z]; exact ha)
    have mid0 : MidAt CS (buts [vd] H) A S S.lk (wv S.rows) := by
      refine ⟨hS.nd, ⟨ro, en, pa, ab, lkd0, by rw [buts_ne (nv am.1)]; exact e1, ?_⟩, let ⟨k, e, d⟩ := hS.lk; ⟨k, by rw [buts_ne (nv am.2.1)]; exact e, d⟩, let ⟨k, e, d⟩ := hS.pr; ⟨k, by rw [buts_ne (nv am.2.2.1)]; exact e, d⟩, let ⟨k, e, d⟩ := hS.mi; ⟨k, by rw [buts_ne (nv am.2.2.2.1)]; exact e, d⟩⟩
      rw [buts_comm]
      exact e2.noD hvd vlo
    -- the links
    refine q_forKT (vl_var rfl) hvdH fun od Hn b1 b2 => ⟨fun i σ' H' => ∃ y2, σ' = [some (.ref A.p), some (.ref vd), y2, none, none, none, none, none, none, none, none, none] ∧ H' vd = some (.frz od (.dT (undK vals))) ∧ Same (buts (vd :: A.m) H) (buts (vd :: A.m) H') ∧ MidAt CS (buts [vd] H') A S (setW S.lk (vals.take i)) (wv S.rows) ∧ H' A.un = some (.lst (A.us.map V.ref)) ∧ H' A.p = some (.ins CS A.dx (fldZ sesN (sesV S A ro en pa ab lkd0))), ⟨none, rfl, b2, ?_, ?_, ?_, ?_⟩, fun i σ' H' hP => ?_, fun i kk vv b σ' H' hk hb hP => ?_, fun σ' H1 hP => ?_⟩
    · rw [buts_eqS List.mem_cons_self b1]
      exact Same.refl _
    · rw [buts_eqS List.mem_cons_self b1]
      exact mid0
    · have := congrFun b1 A.un
      rw [but_ne (fun z => vdm (by rw [← z]; exact am.2.2.2.2)), but_ne (fun z => vdm (by rw [← z]; exact am.2.2.2.2))] at this
      rw [this]
      exact hS.un
    · have := congrFun b1 A.p
      rw [but_ne (fun z => vdm (by rw [← z]; exact am.1)), but_ne (fun z => vdm (by rw [← z]; exact am.1))] at this
      rw [this]
      exact e1
    · obtain ⟨_, _, e, _⟩ := hP
      exact e
    · obtain ⟨y2, rfl, ed, sH, mid, eun, epP⟩ := hP
      unfold undK at hk
      rw [List.getElem?_map] at hk
      obtain ⟨z, hz, ez⟩ := Option.map_eq_some_iff.mp hk
      cases ez
      have hzm := List.mem_of_getElem? hz
      obtain ⟨ro', en', pa', ab', lkd', i1, _⟩ := mid.im
      obtain ⟨kvl, el, dl⟩ := mid.lk
      have hlkF : Vl (tFld K (tVar 0) "_links") [some (.ref A.p), some (.ref vd), some (.ref b), none, none, none, none, none, none, none, none, none] H' (.ref A.lk) := vl_ses T 3 (buts_same _ _ i1) (vl_var rfl) rfl (by decide +kernel) (by decide +kernel)
      have hd9 : DGet H' vd (.ref b) (some (oV z.2)) := .inr ⟨undK vals, K2 z.1, b, .inr ⟨od, ed⟩, rfl, hb, (valV_und hU.nd hzm).symm⟩
      have nlk : A.lk ∉ [vd] := nv am.2.1
      have les := hS.eok.len
      refine ⟨.ref vd, rfl, .ref b, rfl, vd, oV z.2, rfl, hd9, hlkF _ ⟨.ref b, rfl, A.lk, _, rfl, DPut.t (k := K2 z.1) (buts_same _ _ el) hb (Nat.lt_of_le_of_lt (m := 3200) (Nat.le_trans dl.len (by omega)) (by decide)), ?_⟩⟩
      refine nx_of ⟨_, rfl, ?_, ?_, ?_, ?_, by rw [upd_ne d1]; exact epP⟩
      · rw [upd_ne (fun z => vdm (by rw [z]; exact am.2.1))]
        exact ed
      · rw [buts_upd (List.mem_cons_of_mem _ am.2.1)]
        exact sH
      · rw [buts_upd_out nlk, wtake_snoc9 hz, setW_snoc]
        exact mid.setLk (dl.put (x := z.1.1) (y := z.1.2) (o := z.2) (hU.mem z hzm).1)
      · rw [upd_ne (fun z => d7 z.symm)]
        exact eun
    -- marked, looked, changes
    obtain ⟨y2, rfl, ed, sH, mid, eun, epP⟩ := hP
    have lun : (undK vals).length = vals.length := by unfold undK; rw [List.length_map]
    rw [lun, List.take_length] at mid
    have some1 : ∀ a, a ∈ A.m → H1 a ≠ none := fun a ha e => by
      obtain ⟨ro', en', pa', ab', lkd', i1, _⟩ := mid.im
      obtain ⟨k1, i2, _⟩ := mid.lk
      obtain ⟨k2, i3, _⟩ := mid.pr
      obtain ⟨k3, i4, _⟩ := mid.mi
      have i1 := buts_same _ _ i1
      have i2 := buts_same _ _ i2
      have i3 := buts_same _ _ i3
      have i4 := buts_same _ _ i4
      unfold SesA.m at ha
      simp only [List.mem_cons, List.not_mem_nil, or_false] at ha
      rcases ha with rfl | rfl | rfl | rfl | rfl
      · rw [e] at i1; cases i1
      · rw [e] at i2; cases i2
      · rw [e] at i3; cases i3
      · rw [e] at i4; cases i4
      · rw [e] at eun; cases eun
    refine q_asgE (dc_keysT (by show 2 < 12; decide) (vl_var rfl) (.inr ⟨od, ed⟩) (by omega) fun md H2 kvm nmd s12 rd2 emd lkm hkm => ?_)
    refine q_lnew fun ld nld => ?_
    have s23 := same_upd (o := .lst []) nld
    have eld := upd_same (H := H2) (a := ld) (o := .lst [])
    have g3 : ∀ {a}, a ≠ ld → upd H2 ld (.lst []) a = H2 a := fun n => upd_ne n
    generalize upd H2 ld (.lst []) = H3 at s23 eld g3
    refine q_lnew fun cd ncd => ?_
    have s34 := same_upd (o := .lst []) ncd
    have ecd := upd_same (H := H3) (a := cd) (o := .lst [])
    have g4 : ∀ {a}, a ≠ cd → upd H3 cd (.lst []) a = H3 a := fun n => upd_ne n
    generalize upd H3 cd (.lst []) = H4 at s34 ecd g4
    have s24 := s23.trans s34
    -- the addresses
    have k12 : ∀ {a u}, a ≠ vd → H1 a = some u → H2 a = some u := fun {a u} n e => by
      have := s12 a u (by rw [but_ne n]; exact e)
      rwa [but_ne n] at this
    have vdH2 : H2 vd ≠ none := fun e => by rcases rd2 with h | ⟨o, h⟩ <;> rw [e] at h <;> cases h
    have mvd : md ≠ vd := fun z => by rw [z, ed] at nmd; cases nmd
    have some2 : ∀ a, a ∈ A.m → H2 a ≠ none := fun a ha e => by
      cases e1 : H1 a with
      | none => exact some1 a ha e1
      | some u =>
        have := k12 (fun z => vdm (by rw [← z]; exact ha)) e1
        rw [e] at this
        cases this
    have mdm : md ∉ A.m := fun z => some1 _ z nmd
    have ldm : ld ∉ A.m := fun z => some2 _ z nld
    have cdm : cd ∉ A.m := fun z => by
      cases e1 : H2 cd with
      | none => exact some2 _ z e1
      | some u => rw [s23 _ _ e1] at ncd; cases ncd
    have mld : md ≠ ld := fun z => by rw [z, nld] at emd; cases emd
    have mcd : md ≠ cd := fun z => by rw [← z, s23 _ _ emd] at ncd; cases ncd
    have lcd : ld ≠ cd := fun z => by rw [← z, eld] at ncd; cases ncd
    have lvd : ld ≠ vd := fun z => by rw [z] at nld; exact vdH2 nld
    have cvd : cd ≠ vd := fun z => by
      cases e1 : H2 vd with
      | none => exact vdH2 e1
      | some u => rw [z, s23 _ _ e1] at ncd; cases ncd
    have nd : ([md, ld, cd, vd] ++ A.m).Nodup := by
      refine List.nodup_append.mpr ⟨by simp [mld, mcd, mvd, lcd, lvd, cvd], hS.nd, fun a ha b hb e => ?_⟩
      subst e
      simp only [List.mem_cons, List.not_mem_nil, or_false] at ha
      rcases ha with rfl | rfl | rfl | rfl
      · exact mdm hb
      · exact ldm hb
      · exact cdm hb
      · exact vdm hb
    have up14 : ∀ {a u}, a ≠ vd → H1 a = some u → a ∉ [md, ld, cd, vd] ∧ H4 a = some u := fun {a u} n e => by
      have e2 := k12 n e
      refine ⟨fun z => ?_, s24 _ _ e2⟩
      simp only [List.mem_cons, List.not_mem_nil, or_false] at z
      rcases z with rfl | rfl | rfl | rfl
      · rw [nmd] at e; cases e
      · rw [nld] at e2; cases e2
      · rw [s23 _ _ e2] at ncd; cases ncd
      · exact n rfl
    obtain ⟨rows', hF⟩ := fill_ex (N := ⟨S.n, netL S.es (setW S.lk vals)⟩) (os := S.os) (net_ok hS.ok.n1 hS.ok.n40 hS.eok (setW_ok hS.pok fun z hz => (hU.mem z hz).2)) hS.oo
    have ok' : NetOk ⟨S.n, netL S.es (setW S.lk vals)⟩ := net_ok hS.ok.n1 hS.ok.n40 hS.eok (setW_ok hS.pok fun z hz => (hU.mem z hz).2)
    have hends : endsL (netL S.es (setW S.lk vals)) = endsL S.N.ls := by
      show _ = endsL (netL S.es S.lk)
      rw [ends_net, ends_net]
    have TW : Two S.N ⟨S.n, netL S.es (setW S.lk vals)⟩ S.os (domU vals) (wv S.rows) (wv rows') := two_of hS.ok ok' hS.oo rfl hends hS.fl hF fun x y hd => by
      show linkW (netL S.es (setW S.lk vals)) x y = linkW (netL S.es S.lk) x y
      rw [linkW_net hS.eok, linkW_net hS.eok, setW_out hd]
    have MH0 : MendH K CS A S (setW S.lk vals) H vd md ld cd vals (wv S.rows) (wv rows') (wv S.rows) (domU vals) [] [] 5000 H4 := by
      refine ⟨mid.to fun a u e => ?_, ⟨kvm, s24 _ _ emd, by omega, fun p => ?_⟩, ⟨[], s34 _ _ eld, TupsAt.nil⟩, ⟨[], ecd, .nil⟩, sH.trans fun a u e => ?_, rd_to rd2 s24, ?_, ⟨_, s24 _ _ (k12 (fun z => vdm (by rw [← z]; exact am.1)) epP), e1⟩⟩
      · obtain ⟨n, e⟩ := buts_no e
        obtain ⟨n2, e2⟩ := up14 (fun z => n (List.mem_singleton.mpr z)) e
        rw [buts_ne n2]
        exact e2
      · rw [Bool.eq_iff_iff, hkm, undK_key]
      · obtain ⟨n, e⟩ := buts_no e
        obtain ⟨n2, e2⟩ := up14 (fun z => n (by rw [z]; exact List.mem_cons_self)) e
        rw [buts_ne fun z => (List.mem_append.mp z).elim n2 fun z => n (List.mem_cons_of_mem _ z)]
        exact e2
      · exact s24 _ _ (k12 (fun z => vdm (by rw [← z]; exact am.2.2.2.2)) eun)
    have MI0 := MendI.start (mk := domU vals) TW fun x y _ => rfl
    have lW : S.W.length = 2 * S.L.length := wys_len
    have lL : S.L.length ≤ 1600 := pairsL_len hS.ok hS.oo
    have epP4 : H4 A.p = some (.ins CS A.dx (fldZ sesN (sesV S A ro en pa ab lkd0))) := s24 _ _ (k12 (fun z => vdm (by rw [← z]; exact am.1)) epP)
    obtain ⟨tp, p1, p2⟩ := e2.pa
    have p1' : buts (vd :: A.m) H pa = some (.lst tp) := by
      rw [buts_cons, but_ne (rd_ne hvd p1 notL)]
      exact p1
    have p2' : TupsAt (buts (vd :: A.m) H) tp S.L := (p2.noD hvd).to fun a u e => by
      obtain ⟨n, e⟩ := buts_no e
      rw [buts_cons, but_ne fun z => n (List.mem_singleton.mpr z)]
      exact e
    have paOf : ∀ {f mk lkd chg b H'}, MendH K CS A S (setW S.lk vals) H vd md ld cd vals (wv S.rows) (wv rows') f mk lkd chg b H' → SqL K H' pa tp ∧ TupsAt H' tp S.L := fun M => ⟨.of (buts_same _ _ (M.hs _ _ p1')), p2'.to (M.hs.trans buts_same)⟩
    refine q_forP2 (K := K) (a := pa) (ts := tp) (L := S.L) (vl_ses T 4 epP4 (vl_var rfl) rfl (by decide +kernel) (by decide +kernel)) (paOf MH0).1
      (fun i σ' H' => ∃ y2 y6 y7 y8 y9 y10 y11 f mk lkd chg, σ' = [some (.ref A.p), some (.ref vd), y2, some (.ref md), some (.ref ld), some (.ref cd), y6, y7, y8, y9, y10, y11] ∧ MendI S.L S.os (domU vals) (wv S.rows) (wv rows') (2 * i) f mk lkd chg ∧ MendH K CS A S (setW S.lk vals) H vd md ld cd vals (wv S.rows) (wv rows') f mk lkd chg (5000 + 80 * i) H')
      ⟨_, _, _, _, _, _, _, _, _, _, _, rfl, MI0, MH0⟩ (fun i σ' H' hP => ?_) (fun i u v σ' H' hi hP => ?_) (fun σ' H' hP => ?_)
    · obtain ⟨_, _, _, _, _, _, _, _, _, _, _, _, _, M⟩ := hP
      exact paOf M
    · obtain ⟨y2, y6, y7, y8, y9, y10, y11, f, mk, lkd, chg, rfl, MI, MH⟩ := hP
      have il := (List.getElem?_eq_some_iff.mp hi).1
      have huv := List.mem_of_getElem? hi
      refine ⟨.int u, rfl, .int v, rfl, by show 2 ≤ sizeLine; decide, fun U nU => ⟨.int v, rfl, .int u, rfl, by show 2 ≤ sizeLine; decide, fun W nW => ⟨by show 2 ≤ sizeLine; decide, fun Z nZ => ?_⟩⟩⟩
      have sU := same_upd (o := .tup [.int u, .int v]) nU
      have eU := upd_same (H := H') (a := U) (o := .tup [.int u, .int v])
      generalize upd H' U (.tup [.int u, .int v]) = H5 at sU eU nW nZ
      have sW := same_upd (o := .tup [.int v, .int u]) nW
      have eW := upd_same (H := H5) (a := W) (o := .tup [.int v, .int u])
      have eU6 := sW _ _ eU
      generalize upd H5 W (.tup [.int v, .int u]) = H6 at sW eW eU6 nZ
      have sZ := same_upd (o := .tup [.ref U, .ref W]) nZ
      have eZ := upd_same (H := H6) (a := Z) (o := .tup [.ref U, .ref W])
      have eU7 := sZ _ _ eU6
      have eW7 := sZ _ _ eW
      have nU7 := MH.fresh nU
      have nW7 := (MH.to sU).fresh nW
      have nZ7 := (MH.to (sU.trans sW)).fresh nZ
      have MH7 := MH.to (sU.trans (sW.trans sZ))
      generalize upd H6 Z (.tup [.ref U, .ref W]) = H7 at sZ eZ eU7 eW7 MH7
      refine ⟨Z, rfl, ⟨_, .of eZ⟩, for_tup (K := K) (a := Z) (xs := [.ref U, .ref W])
        (fun s σ' H' => ∃ y2 y8 y9 y10 y11 f mk lkd chg, σ' = [some (.ref A.p), some (.ref vd), y2, some (.ref md), some (.ref ld), some (.ref cd), some (.int u), some (.int v), y8, y9, y10, y11] ∧ MendI S.L S.os (domU vals) (wv S.rows) (wv rows') (2 * i + s) f mk lkd chg ∧ MendH K CS A S (setW S.lk vals) H vd md ld cd vals (wv S.rows) (wv rows') f mk lkd chg (5000 + 80 * i + 40 * s) H' ∧ H' U = some (.tup [.int u, .int v]) ∧ H' W = some (.tup [.int v, .int u]) ∧ H' Z = some (.tup [.ref U, .ref W]))
        ⟨_, _, _, _, _, _, _, _, _, rfl, MI, MH7, eU7, eW7, eZ⟩ (fun s σ' H' _ hP => ?_) (fun s x σ' H8 hx hP => ?_) (fun σ' H' hP => ?_)⟩
      · obtain ⟨_, _, _, _, _, _, _, _, _, _, _, _, _, _, e⟩ := hP
        exact .of e
      · obtain ⟨y2, y8, y9, y10, y11, f, mk, lkd, chg, rfl, MI, MH, eU8, eW8, eZ8⟩ := hP
        have hs2 : s < 2 := (List.getElem?_eq_some_iff.mp hx).1
        obtain ⟨R, a, b, rfl, eR, hm, hab⟩ : ∃ R a b, x = .ref R ∧ H8 R = some (.tup [.int a, .int b]) ∧ S.W[2 * i + s]? = some (a, b) ∧ ((a = u ∧ b = v) ∨ (a = v ∧ b = u)) := by
          have c : s = 0 ∨ s = 1 := by omega
          rcases c with rfl | rfl
          · cases hx
            exact ⟨U, u, v, rfl, eU8, wys_get0 hi, .inl ⟨rfl, rfl⟩⟩
          · cases hx
            exact ⟨W, v, u, rfl, eW8, wys_get1 hi, .inr ⟨rfl, rfl⟩⟩
        refine ⟨R, _, rfl, .of eR, rfl, _, _, rfl, _, _, rfl, rfl, ?_⟩
        have hmW := List.mem_of_getElem? hm
        obtain ⟨kvm8, ekm, lkm8, hkm8⟩ := MH.hmd
        have keep : ∀ {X u}, X ∉ [md, ld, cd, vd] ++ A.m → ∀ {Ha Hb : Hp}, Ha X = some u → Same (buts ([md, ld, cd, vd] ++ A.m) Ha) (buts ([md, ld, cd, vd] ++ A.m) Hb) → Hb X = some u := fun {X u} n {Ha Hb} e sr => by
          have := sr X u (by rw [buts_ne n]; exact e)
          rwa [buts_ne n] at this
        have mld9 : ld ∈ [md, ld, cd, vd] ++ A.m := by simp
        have mcd9 : cd ∈ [md, ld, cd, vd] ++ A.m := by simp
        have mmd9 : md ∈ [md, ld, cd, vd] ++ A.m := by simp
        refine q_whenx (ax_dnotPS (vl_var rfl) (vl_var rfl) (fun _ _ => vl_var rfl) ekm) (fun hb H9 s9 => ?_) (fun hb H9 s9 => ?_)
        · rw [hkm8, Bool.not_eq_true'] at hb
          exact ⟨_, _, _, _, _, f, mk, lkd, chg, rfl, MI.skip TW hm hb, (MH.to s9).mono (by omega), s9 _ _ eU8, s9 _ _ eW8, s9 _ _ eZ8⟩
        · rw [hkm8, Bool.not_eq_false'] at hb
          have M9 := MH.to s9
          have r89 := buts_mono (as := [md, ld, cd, vd] ++ A.m) s9
          obtain ⟨tl, etl, htl⟩ := M9.hld
          have ltl : tl.length ≤ 3200 := by
            rw [htl.len, MI.lkd]
            refine Nat.le_trans (List.length_filter_le _ _) ?_
            rw [List.length_take]
            show min _ S.W.length ≤ 3200
            omega
          -- looked.append((x, y))
          refine ⟨.ref ld, rfl, .inl ⟨rfl, _, .inl (.inl etl)⟩, .int a, rfl, .int b, rfl, by show 2 ≤ sizeLine; decide, fun T1 nT1 => ⟨ld, tl, .ref T1, rfl, rfl, same_upd nT1 _ _ etl, Nat.lt_of_le_of_lt ltl (by decide), ?_⟩⟩
          have M10 := (M9.to (same_upd (o := .tup [.int a, .int b]) nT1)).look nd upd_same (M9.fresh nT1) (same_upd nT1 _ _ etl)
          have r910 : Same (buts ([md, ld, cd, vd] ++ A.m) H9) (buts ([md, ld, cd, vd] ++ A.m) (upd (upd H9 T1 (.tup [.int a, .int b])) ld (.lst (tl ++ [.ref T1])))) := by
            rw [buts_upd mld9]
            exact buts_mono (same_upd nT1)
          generalize upd (upd H9 T1 (.tup [.int a, .int b])) ld (.lst (tl ++ [.ref T1])) = H10 at M10 r910
          -- old
          obtain ⟨vs10, p10, g10, _⟩ := M10.hmid.at_
          obtain ⟨kvp, ekp, dkp⟩ := M10.hmid.pr
          refine q_asgE ((vn_dget2 (vl_ses T 7 (buts_same _ _ p10) (vl_var rfl) g10 (by decide +kernel) (by decide +kernel)) (fun _ _ => vl_var rfl) (fun _ _ => vl_var rfl) (buts_same _ _ ekp) (dkp.at_ a b hmW)) _ fun H11 s11 => ?_)
          have M11 := M10.to s11
          have r1011 := buts_mono (as := [md, ld, cd, vd] ++ A.m) s11
          obtain ⟨vs11, p11, _⟩ := M11.hmid.at_
          -- new
          refine q_asgE ⟨.ref A.p, rfl, A.p, _, _, rfl, buts_same _ _ p11, fldZ_no (by decide +kernel), .int u, rfl, .int v, rfl, .int a, rfl, .int b, rfl, A, S, [md, ld, cd, vd], setW S.lk vals, f, u, v, a, b, rfl, M11.hmid, ok', hS.oo, huv, hab, fun w hw => ⟨List.mem_of_mem_take (low_ahead hS.ok hS.oo hm hw).1, List.mem_of_mem_take (low_ahead hS.ok hS.oo hm hw).2⟩, fun H12 nv hnv s12 un12 mid12 => ?_⟩
          have env : nv = wv rows' a b := hnv.trans (MI.calc TW hm)
          have M12 := M11.fill nd s12 un12 mid12
          have r1112 : Same (buts ([md, ld, cd, vd] ++ A.m) H11) (buts ([md, ld, cd, vd] ++ A.m) H12) := by
            rw [buts_app, buts_app]
            exact buts_mono s12
          have hfn := MI.fnow TW hm
          have r812 := ((r89.trans r910).trans r1011).trans r1112
          have hf' : ∀ x y, (x, y) ∈ wysL S.L → (fun x y => if (x, y) = (a, b) then nv else f x y) x y = if (x, y) = (a, b) then wv rows' a b else f x y := fun x y _ => by rw [env]
          refine g_when (b := !decide (oV nv.1 = oV (f a b).1)) (an_test (vl_ne (vl_var rfl) (vl_var rfl) (scal_oo _ _))) (fun hc => ?_) (fun hc => ?_)
          · have hne : (wv S.rows a b).1 ≠ (wv rows' a b).1 := fun e => by
              rw [env, hfn, e, decide_eq_true rfl] at hc
              cases hc
            obtain ⟨tc, etc, htc⟩ := M12.hcd
            have ltc : tc.length ≤ 3200 := by
              have := DpAll.len htc
              rw [List.length_map, MI.chg] at this
              rw [this]
              refine Nat.le_trans (List.length_filter_le _ _) ?_
              rw [List.length_take]
              show min _ S.W.length ≤ 3200
              omega
            -- changes.append((x, y, old, new))
            refine ⟨.ref cd, rfl, .inl ⟨rfl, _, .inl (.inl etc)⟩, .int a, rfl, .int b, rfl, oV (f a b).1, rfl, oV nv.1, rfl, by show 4 ≤ sizeLine; decide, fun T2 nT2 => ⟨cd, tc, .ref T2, rfl, rfl, same_upd nT2 _ _ etc, Nat.lt_of_le_of_lt ltc (by decide), ?_⟩⟩
            have M13 := (M12.to (same_upd (o := .tup [.int a, .int b, oV (f a b).1, oV nv.1]) nT2)).chgs (x := a) (y := b) nd (by rw [upd_same, env, hfn]) (M12.fresh nT2) (same_upd nT2 _ _ etc)
            have r1213 : Same (buts ([md, ld, cd, vd] ++ A.m) H12) (buts ([md, ld, cd, vd] ++ A.m) (upd (upd H12 T2 (.tup [.int a, .int b, oV (f a b).1, oV nv.1])) cd (.lst (tc ++ [.ref T2])))) := by
              rw [buts_upd mcd9]
              exact buts_mono (same_upd nT2)
            generalize upd (upd H12 T2 (.tup [.int a, .int b, oV (f a b).1, oV nv.1])) cd (.lst (tc ++ [.ref T2])) = H13 at M13 r1213
            obtain ⟨vs13, p13, _⟩ := M13.hmid.at_
            obtain ⟨kvm13, ekm13, lkm13, hkm13⟩ := M13.hmd
            have ol := hS.oo.len
            have n40 : S.n ≤ 40 := hS.ok.n40
            have huo : u ∈ S.os := hS.oo.mem.mpr (((mem_pairsL hS.ok hS.oo).mp huv).ins hS.ok).1
            refine ⟨.ref A.p, rfl, A.p, _, _, rfl, buts_same _ _ p13, fldZ_no (by decide +kernel), .ref md, rfl, .int u, rfl, .int v, rfl, .int a, rfl, A, S, [md, ld, cd, vd], setW S.lk vals, _, md, kvm13, u, v, a, rfl, M13.hmid, by simp, ekm13, by omega, huo, by omega, fun H14 kvm14 s14 e14 l14 hk14 => ?_⟩
            have M14 := M13.mark (mk' := fun p => (valV kvm14 (K2 p)).isSome) (b' := 5000 + 80 * i + 40 * (s + 1)) nd s14 e14 (by omega) fun p => rfl
            have r1314 : Same (buts ([md, ld, cd, vd] ++ A.m) H13) (buts ([md, ld, cd, vd] ++ A.m) H14) := fun X u e => by
              obtain ⟨n, e⟩ := buts_no e
              rw [buts_ne n]
              have hX : X ≠ md := fun z => n (by rw [z]; exact mmd9)
              have := s14 X u (by rw [but_ne hX]; exact e)
              rwa [but_ne hX] at this
            have MI14 := MI.move TW hm hb hne hf' huv hab (mk' := fun p => (valV kvm14 (K2 p)).isSome) fun p _ => by
              rw [hk14 p, hkm13 p]
            have rr := (r812.trans r1213).trans r1314
            exact ⟨_, _, _, _, _, _, _, _, _, rfl, MI14, M14, keep nU7 eU8 rr, keep nW7 eW8 rr, keep nZ7 eZ8 rr⟩
          · have heq : (wv S.rows a b).1 = (wv rows' a b).1 := by
              have := oV_inj (of_decide_eq_true (by rw [Bool.not_eq_false'] at hc; exact hc))
              rw [env, hfn] at this
              exact this.symm
            exact ⟨_, _, _, _, _, _, mk, _, chg, rfl, MI.stay TW hm hb heq hf', M12.mono (by omega), keep nU7 eU8 r812, keep nW7 eW8 r812, keep nZ7 eZ8 r812⟩
      · obtain ⟨y2, y8, y9, y10, y11, f, mk, lkd, chg, rfl, MI, MH, _⟩ := hP
        exact ⟨_, _, _, _, _, _, _, f, mk, lkd, chg, rfl, MI, MH.mono (by show 5000 + 80 * i + 40 * 2 ≤ _; omega)⟩
    · obtain ⟨y2, y6, y7, y8, y9, y10, y11, f, mk, lkd, chg, rfl, MI, MH⟩ := hP
      have e2L : 2 * S.L.length = (wysL S.L).length := wys_len.symm
      rw [e2L] at MI
      obtain ⟨fin1, fin2, fin3⟩ := MendI.fin TW MI
      obtain ⟨ro', en', pa', ab', lkd', i1, i2⟩ := MH.hmid.im
      refine ⟨.ref ld, rfl, .ref A.p, rfl, A.p, CS, A.dx, _, rfl, buts_same _ _ i1, T.cl, T.no _ (by decide +kernel), by show 11 < 1000; decide, ?_⟩
      rw [fldZ_put (i := 9) (by decide +kernel) (by show 9 < 11; decide)]
      obtain ⟨tc, etc, htc⟩ := MH.hcd
      obtain ⟨tl, etl, htl⟩ := MH.hld
      obtain ⟨kvl, ekl, dkl⟩ := MH.hmid.lk
      obtain ⟨kvp, ekp, dkp⟩ := MH.hmid.pr
      obtain ⟨kvi, eki, dki⟩ := MH.hmid.mi
      have cdP : cd ≠ A.p := fun z => cdm (by rw [z]; exact am.1)
      have ldP : ld ≠ A.p := fun z => ldm (by rw [z]; exact am.1)
      have vdP : vd ≠ A.p := fun z => vdm (by rw [z]; exact am.1)
      have ncd0 : H cd = none := by
        cases e : H cd with
        | none => rfl
        | some u =>
          have n : cd ∉ vd :: A.m := fun z => (List.mem_cons.mp z).elim cvd cdm
          have h1 := sH cd u (by rw [buts_ne n]; exact e)
          rw [buts_ne n] at h1
          rw [s23 _ _ (k12 cvd h1)] at ncd
          cases ncd
      have outs : ∀ {a}, a ∉ [md, ld, cd, vd] ++ A.m → a ≠ cd ∧ a ≠ A.p ∧ a ∉ A.m ∧ a ∉ vd :: A.m := fun {a} n => ⟨fun z => n (by rw [z]; simp), fun z => n (List.mem_append.mpr (.inr (by rw [z]; exact am.1))), fun z => n (List.mem_append.mpr (.inr z)), fun z => n ((List.mem_cons.mp z).elim (fun z => by rw [z]; simp) fun z => List.mem_append.mpr (.inr z))⟩
      have hends2 : pairsL (S.mend vals rows').N.ls (S.mend vals rows').os = S.L := pairsL_ends hends
      have hW2 : (S.mend vals rows').W = S.W := by
        show wysL (pairsL (S.mend vals rows').N.ls (S.mend vals rows').os) = _
        rw [hends2]
        rfl
      refine g_ret (vl_var rfl) (q _ cd tc rows' ncd0 (by rw [upd_ne cdP]; exact etc) ?_ ?_ ?_ ?_ ?_)
      · rw [buts_upd (List.mem_cons_of_mem _ am.1), fin3] at *
        exact DpAll.to htc (buts_sub fun a ha => (List.mem_cons.mp ha).elim (fun z => by rw [z]; simp) fun z => List.mem_append.mpr (.inr z))
      · rw [buts_upd (List.mem_cons_of_mem _ (List.mem_cons_of_mem _ am.1))]
        refine MH.hs.trans (buts_sub fun a ha => ?_)
        rcases List.mem_cons.mp ha with rfl | ha
        · simp
        · rcases List.mem_cons.mp ha with rfl | ha
          · simp
          · exact List.mem_append.mpr (.inr ha)
      · exact MH.hvd.imp (fun e => by rw [upd_ne vdP]; exact e) fun ⟨o, e⟩ => ⟨o, by rw [upd_ne vdP]; exact e⟩
      · intro ro0 en0 pa0 ab0 lkd00 e00
        obtain ⟨u0, u1, u2⟩ := MH.hpo
        have e01 := u2.symm.trans e00
        have e02 := u1.symm.trans (buts_same _ _ i1)
        cases e01
        have e03 : ro0 = ro' ∧ en0 = en' ∧ pa0 = pa' ∧ ab0 = ab' := by
          have := HO.ins.inj (Option.some.inj e02)
          have h := this.2.2
          simp [fldZ, sesN, sesV] at h
          exact ⟨h.1, h.2.1, h.2.2.1, h.2.2.2.1⟩
        obtain ⟨rfl, rfl, rfl, rfl⟩ := e03
        refine ⟨ld, ?_, ?_⟩
        · cases e : H ld with
          | none => rfl
          | some u =>
            have lv : ld ≠ vd := fun z => by
              have := nd
              simp only [List.cons_append, List.nil_append, List.nodup_cons, List.mem_cons, not_or] at this
              exact this.2.1.2.1 z
            have n : ld ∉ vd :: A.m := fun z => (List.mem_cons.mp z).elim lv ldm
            have h1 := sH ld u (by rw [buts_ne n]; exact e)
            rw [buts_ne n] at h1
            have h2 := k12 lv h1
            rw [nld] at h2
            cases h2
        · rw [upd_same]
          rfl
      · have gm : ∀ {a u}, a ∈ A.m → a ≠ A.p → buts [md, ld, cd, vd] H' a = some u → but (upd H' A.p (.ins CS A.dx (fldZ sesN ((sesV S A ro' en' pa' ab' lkd').set 9 (.ref ld))))) cd a = some u := fun {a u} ha hp e => by
          rw [but_ne (fun z => cdm (by rw [← z]; exact ha)), upd_ne hp]
          exact buts_same _ _ e
        have sG : Same (buts ([md, ld, cd, vd] ++ A.m) H') (buts A.m (but (upd H' A.p (.ins CS A.dx (fldZ sesN ((sesV S A ro' en' pa' ab' lkd').set 9 (.ref ld))))) cd)) := fun a u e => by
          obtain ⟨n, e⟩ := buts_no e
          obtain ⟨o1, o2, o3, _⟩ := outs n
          rw [buts_ne o3, but_ne o1, upd_ne o2]
          exact e
        refine ⟨ok', hS.eok, setW_ok hS.pok fun z hz => (hU.mem z hz).2, hS.oo, hF, hS.nd, hS.nlo, ⟨ro', en', pa', ab', ld, ?_, ?_, tl, ?_, ?_⟩, ⟨kvl, gm am.2.1 (fun z => d1 z.symm) ekl, dkl⟩, ⟨kvp, gm am.2.2.1 (fun z => d2 z.symm) ekp, dkp.len, fun x y hm => ?_⟩, ⟨kvi, gm am.2.2.2.1 (fun z => d3 z.symm) eki, dki.len, fun x y hm => ?_⟩, ?_, ?_, hS.uok⟩
        · rw [but_ne (fun z => cdP z.symm), upd_same]
          rfl
        · refine (i2.to ?_).ends hends
          rw [← buts_comm, ← buts_app]
          exact sG
        · rw [buts_ne ldm, but_ne lcd, upd_ne ldP]
          exact etl
        · have := htl.to sG
          rw [fin2] at this
          exact this
        · rw [hW2] at hm
          rw [dkp.at_ x y hm, fin1 x y hm]
          rfl
        · rw [hW2] at hm
          rw [dki.at_ x y hm, fin1 x y hm]
          rfl
        · rw [but_ne (fun z => cdm (by rw [← z]; exact am.2.2.2.2)), upd_ne (fun z => d4 z.symm)]
          exact MH.hun
        · refine UnAt.noD hS.ud (fun a u e => ?_) hvd ?_
          · refine sG _ _ (MH.hs _ _ ?_)
            obtain ⟨n, e⟩ := buts_no e
            rw [buts_cons, but_ne fun z => n (List.mem_singleton.mpr z)]
            exact e
          · exact MH.hvd.imp (fun e => by rw [buts_ne vdm, but_ne (fun z => cvd z.symm), upd_ne vdP]; exact e) fun ⟨o, e⟩ => ⟨o, by rw [buts_ne vdm, but_ne (fun z => cvd z.symm), upd_ne vdP]; exact e⟩
end
/-! ### _law_changes: the ways whose prices differ -/
abbrev sLChanges : Stmt := topS 40
theorem scLChanges : FnScope ["old", "new", "out", "k", "low", "high", "up", "down", "up_middle", "down_middle"] ["old", "new"] (defScope sLChanges) := ⟨rfl, rfl, rfl, by decide +kernel, rfl, by decide +kernel, by decide +kernel⟩
def spLChanges (K : PySem.W.Frag) : Sp := fun vs H Q _ => ∃ (ov nv : V) (N N' : Net) (os : List Int) (rows rows' : List Row), vs = [ov, nv] ∧ Dp K H ov (.list (rows.map rowD)) ∧ Dp K H nv (.list (rows'.map rowD)) ∧ NetOk N ∧ NetOk N' ∧ OrdOk N.n os ∧ OrdOk N'.n os ∧ FillOk N os rows ∧ FillOk N' os rows' ∧ pairsL N'.ls os = pairsL N.ls os ∧
  ∀ H' q ts, Same H (but H' q) → H q = none → H' q = some (.lst ts) → DpAll K (but H' q) ts (((wysL (pairsL N.ls os)).filter (chB (wv rows) (wv rows'))).map (chgD (wv rows) (wv rows'))) → Q (.ref q) H'
theorem q_asgRow {K : PySem.W.Frag} {σ : L2.St} {H : Hp} {D : Ends} {tw : TS} {j1 j2 j3 j4 j5 j6 : Nat} {te : TE} {t : Addr} {r : Row} (h : Vl te σ H (.ref t)) (ht : SqT K H t (rowV r)) (k : tw D ((((((σ.set j1 (some (.int r.u))).set j2 (some (.int r.v))).set j3 (some (oV r.up))).set j4 (some (oV r.dn))).set j5 (some (oV r.um))).set j6 (some (oV r.dm))) H) :
    tSeq (tAsg te (gTup K 6 (gCons (gName j1) (gCons (gName j2) (gCons (gName j3) (gCons (gName j4) (gCons (gName j5) (gCons (gName j6) gNil)))))))) tw D σ H := h _ ⟨t, _, rfl, ht, rfl, _, _, rfl, _, _, rfl, _, _, rfl, _, _, rfl, _, _, rfl, _, _, rfl, rfl, k⟩
theorem g_appE {K : PySem.W.Frag} {σ : L2.St} {H : Hp} {ta te : TE} {D : Ends} {l : Addr} {xs : List V} (ho : Vl ta σ H (.ref l)) (hl : H l = some (.lst xs)) (h : te σ H fun y H1 => ∃ l' xs' v', V.ref l = .ref l' ∧ [y] = [v'] ∧ H1 l' = some (.lst xs') ∧ xs'.length < sizeLine ∧ D.nx σ (upd H1 l' (.lst (xs' ++ [v'])))) :
    tDrop (tBM K "list" rAppend ta (tCons te tNil)) D σ H := ho _ ⟨.inl ⟨rfl, _, .inl (.inl hl)⟩, h⟩
theorem wys_snoc {L : List (Int × Int)} {p : Int × Int} : wysL (L ++ [p]) = wysL L ++ [p] ++ [(p.2, p.1)] := by
  unfold wysL
  rw [List.flatMap_append, List.append_assoc]
  rfl
theorem dec_oV (a b : Option Int) : (!decide (oV a = oV b)) = decide (a ≠ b) := by
  by_cases c : a = b
  · rw [decide_eq_true (congrArg oV c), decide_eq_false (fun h => h c)]
    rfl
  · rw [decide_eq_false (fun h => c (oV_inj h)), decide_eq_true c]
    rfl
section
variable {P : Program} {w : World} {K : PySem.W.Frag} {mg : Str → Option Value} {base : Heap}
theorem ok_lChanges {f : Addr} {fd : FuncData} {k : Nat} (F : Fun K "_law_changes" "_law_changes" sLChanges f fd) (ml : mg "len" = none) (mr : mg "range" = none) : FnOk P w K mg base CX0 (k + 1) f fd ["old", "new"] (spLChanges K) := by
  refine F.ok scLChanges (fun vs H Q E h => ?_) (fun cdv A outer s H vs Q E hr h => ?_)
  · obtain ⟨ov, nv, N, N', os, rows, rows', rfl, _⟩ := h
    rfl
  · obtain ⟨ov, nv, N, N', os, rows, rows', rfl, hO, hN, ok, ok', oo, oo', hF, hF', hL, q⟩ := h
    have hu := hu_of hr
    refine ⟨_, pss_cons (ps_set (i := 2) scLChanges.nd rfl (.inl rfl) (pe_lst pa_nil))
      (pss_cons (ps_for PassesOwn.never rfl (pi_range1 (by rfl) mr (pa_cons (pe_callB call_len_seq (by rfl) ml PySem.boot_len (pa_cons (pv 0) pa_nil)) pa_nil)) (pg_name (i := 3) scLChanges.nd rfl (.inl rfl))
      (pss_cons (ps_asg (pe_ix ix_list (pv 0) (pv 3) (fun _ _ => rfl)) (pg_tup rfl (pgs_cons (pg_name (i := 4) scLChanges.nd rfl (.inl rfl)) (pgs_cons (pg_name (i := 5) scLChanges.nd rfl (.inl rfl)) (pgs_cons (pg_name (i := 6) scLChanges.nd rfl (.inl rfl)) (pgs_cons (pg_name (i := 7) scLChanges.nd rfl (.inl rfl)) (pgs_cons (pg_name (i := 8) scLChanges.nd rfl (.inl rfl)) (pgs_cons (pg_name (i := 9) scLChanges.nd rfl (.inl rfl)) pgs_nil))))))))
        (Evl.pss_cut (ps_if (pt_cmpR op_ne (pv 6) (pe_ix ix_tup (pe_ix ix_list (pv 1) (pv 3) (fun _ _ => rfl)) pe_int (fun _ _ => rfl)) (nomark _))
        (pss_one (ps_expr (pe_bm PySem.F.plainAttrs_list PySem.F.slot_list_append PySem.F.type_list_append mt_append (pv 2) (pa_cons (pe_tup (pa_cons (pv 4) (pa_cons (pv 5) (pa_cons (pv 6) (pa_cons (pe_ix ix_tup (pe_ix ix_list (pv 1) (pv 3) (fun _ _ => rfl)) pe_int (fun _ _ => rfl)) pa_nil))))) pa_nil))))
        pss_nil)
        (pss_one (ps_if (pt_cmpR op_ne (pv 7) (pe_ix ix_tup (pe_ix ix_list (pv 1) (pv 3) (fun _ _ => rfl)) pe_int (fun _ _ => rfl)) (nomark _))
        (pss_one (ps_expr (pe_bm PySem.F.plainAttrs_list PySem.F.slot_list_append PySem.F.type_list_append mt_append (pv 2) (pa_cons (pe_tup (pa_cons (pv 5) (pa_cons (pv 4) (pa_cons (pv 7) (pa_cons (pe_ix ix_tup (pe_ix ix_list (pv 1) (pv 3) (fun _ _ => rfl)) pe_int (fun _ _ => rfl)) pa_nil))))) pa_nil))))
        pss_nil)))))
      (pss_one (ps_ret (pv 2)))), ?_⟩
    obtain ⟨op, xs, rfl, hx, hd⟩ := Dp.lst_inv hO
    obtain ⟨np, ys, rfl, hy, he⟩ := Dp.lst_inv hN
    have lx := DpAll.len hd
    rw [List.length_map] at lx
    have ly := DpAll.len he
    rw [List.length_map] at ly
    have lr := congrArg List.length hF.mapP
    rw [List.length_map] at lr
    have lr' := congrArg List.length hF'.mapP
    rw [List.length_map, hL] at lr'
    have lL := pairsL_len ok oo
    generalize ech : chB (wv rows) (wv rows') = ch at q
    generalize echg : chgD (wv rows) (wv rows') = chg at q
    refine q_asgE ⟨Nat.zero_le _, fun O nO => ?_⟩
    have s0 := same_upd (o := .lst []) nO
    refine q_forR (n := (xs.length : Int)) (va_cons (vl_lenL (K := K) (vl_var rfl) (s0.seq hx)) va_nil) (by omega)
      (fun i σ H' => ∃ y3 y4 y5 y6 y7 y8 y9 ts, σ = [some (.ref op), some (.ref np), some (.ref O), y3, y4, y5, y6, y7, y8, y9] ∧ Same H (but H' O) ∧ H' O = some (.lst ts) ∧ ts.length ≤ 2 * i ∧ DpAll K (but H' O) ts (((wysL ((pairsL N.ls os).take i)).filter ch).map chg))
      ⟨_, _, _, _, _, _, _, [], rfl, same_but s0 nO, upd_same, Nat.le_refl _, .nil⟩ (fun i σ H1 hi hP => ?_) (fun σ H1 hP => ?_)
    · obtain ⟨y3, y4, y5, y6, y7, y8, y9, ts, rfl, s1, eO, lt, hT⟩ := hP
      have hg : rows[i]? = some (rows[i]'(by omega)) := List.getElem?_eq_getElem (by omega)
      generalize rows[i]'(by omega) = r at hg
      have hg' : rows'[i]? = some (rows'[i]'(by omega)) := List.getElem?_eq_getElem (by omega)
      generalize rows'[i]'(by omega) = r' at hg'
      obtain ⟨hLi, w1, w2⟩ := row_wv ok oo hF hg
      obtain ⟨hLi', w1', w2'⟩ := row_wv ok' oo' hF' hg'
      rw [hL, hLi] at hLi'
      obtain ⟨eu, ev⟩ := Prod.mk.inj (Option.some.inj hLi')
      have eu : r'.u = r.u := eu.symm
      have ev : r'.v = r.v := ev.symm
      rw [eu, ev] at w1' w2'
      obtain ⟨v0, hv0, dv0⟩ := DpAll.get (i := i) (d := rowD r) hd (by rw [List.getElem?_map, hg]; rfl)
      obtain ⟨t0, rfl, ht0⟩ := Dp.row_inv dv0
      obtain ⟨v1, hv1, dv1⟩ := DpAll.get (i := i) (d := rowD r') he (by rw [List.getElem?_map, hg']; rfl)
      obtain ⟨t1, rfl, ht1⟩ := Dp.row_inv dv1
      have sH := s1.trans but_same
      have e1 : ch (r.u, r.v) = decide (r.up ≠ r'.up) := by
        rw [← ech]
        unfold chB
        rw [w1, w1']
      have e2 : ch (r.v, r.u) = decide (r.dn ≠ r'.dn) := by
        rw [← ech]
        unfold chB
        rw [w2, w2']
      have c1 : chg (r.u, r.v) = .tuple [.int r.u, .int r.v, oD r.up, oD r'.up] := by
        rw [← echg]
        unfold chgD
        rw [w1, w1']
      have c2 : chg (r.v, r.u) = .tuple [.int r.v, .int r.u, oD r.dn, oD r'.dn] := by
        rw [← echg]
        unfold chgD
        rw [w2, w2']
      rw [wtake_snoc9 hLi, wys_snoc]
      show _
      generalize wysL ((pairsL N.ls os).take i) = W0 at hT
      refine q_asgRow (r := r) (vl_ixL (K := K) (vl_var rfl) (vl_var rfl) (sH.seq hx) (atI_nat (j := i) hv0)) (seqT sH ht0) ?_
      refine q_cut (M := fun σ' H' => ∃ ts', σ' = [some (.ref op), some (.ref np), some (.ref O), some (.int i), some (.int r.u), some (.int r.v), some (oV r.up), some (oV r.dn), some (oV r.um), some (oV r.dm)] ∧ Same H (but H' O) ∧ H' O = some (.lst ts') ∧ ts'.length ≤ 2 * i + 1 ∧ DpAll K (but H' O) ts' (((W0 ++ [(r.u, r.v)]).filter ch).map chg)) ?_ (fun σ' H2 hM => ?_)
      · refine g_when (b := ch (r.u, r.v)) (an_test ((vl_ne (vl_var rfl) (vl_ixT (K := K) (vl_ixL (K := K) (vl_var rfl) (vl_var rfl) (sH.seq hy) (atI_nat (j := i) hv1)) vl_c (seqT sH ht1) (atI_nat (j := 2) rfl)) (scal_oo _ _)).is (by rw [e1, dec_oV]))) (fun hc => ?_) (fun hc => ?_)
        · refine g_appE (vl_var rfl) eO ⟨.int r.u, rfl, .int r.v, rfl, oV r.up, rfl, (vl_ixT (K := K) (vl_ixL (K := K) (vl_var rfl) (vl_var rfl) (sH.seq hy) (atI_nat (j := i) hv1)) vl_c (seqT sH ht1) (atI_nat (j := 2) rfl)) _ ⟨by show 4 ≤ sizeLine; decide, fun T nT => ⟨O, ts, .ref T, rfl, rfl, same_upd nT _ _ eO, Nat.lt_of_le_of_lt (m := 3200) (by omega) (by decide), ts ++ [.ref T], rfl, ?_, upd_same, ?_, ?_⟩⟩⟩
          · rw [but_upd]
            exact s1.trans (but_mono (same_upd nT))
          · rw [List.length_append]
            exact Nat.add_le_add_right lt 1
          · have TO : T ≠ O := fun z => by rw [z, eO] at nT; cases nT
            rw [but_upd, List.filter_append, List.map_append, List.filter_cons_of_pos hc]
            refine DpAll.app (DpAll.to hT (but_mono (same_upd nT))) (.cons ?_ .nil)
            rw [c1]
            exact .tup (.of (by rw [but_ne TO]; exact upd_same)) (.cons (.int _) (.cons (.int _) (.cons (Dp.o _) (.cons (Dp.o _) .nil))))
        · refine ⟨ts, rfl, s1, eO, by omega, ?_⟩
          rw [List.filter_append, List.filter_cons_of_neg (by rw [hc]; exact Bool.false_ne_true), List.filter_nil, List.append_nil]
          exact hT
      · obtain ⟨ts', rfl, s2, eO2, lt2, hT2⟩ := hM
        have sH2 := s2.trans but_same
        refine g_when (b := ch (r.v, r.u)) (an_test ((vl_ne (vl_var rfl) (vl_ixT (K := K) (vl_ixL (K := K) (vl_var rfl) (vl_var rfl) (sH2.seq hy) (atI_nat (j := i) hv1)) vl_c (seqT sH2 ht1) (atI_nat (j := 3) rfl)) (scal_oo _ _)).is (by rw [e2, dec_oV]))) (fun hc => ?_) (fun hc => ?_)
        · refine g_appE (vl_var rfl) eO2 ⟨.int r.v, rfl, .int r.u, rfl, oV r.dn, rfl, (vl_ixT (K := K) (vl_ixL (K := K) (vl_var rfl) (vl_var rfl) (sH2.seq hy) (atI_nat (j := i) hv1)) vl_c (seqT sH2 ht1) (atI_nat (j := 3) rfl)) _ ⟨by show 4 ≤ sizeLine; decide, fun T nT => ⟨O, ts', .ref T, rfl, rfl, same_upd nT _ _ eO2, Nat.lt_of_le_of_lt (m := 3300) (by omega) (by decide), _, _, _, _, _, _, _, ts' ++ [.ref T], rfl, ?_, upd_same, ?_, ?_⟩⟩⟩
          · rw [but_upd]
            exact s2.trans (but_mono (same_upd nT))
          · rw [List.length_append]
            exact Nat.add_le_add_right lt2 1
          · have TO : T ≠ O := fun z => by rw [z, eO2] at nT; cases nT
            rw [but_upd, List.filter_append, List.map_append, List.filter_cons_of_pos hc]
            refine DpAll.app (DpAll.to hT2 (but_mono (same_upd nT))) (.cons ?_ .nil)
            rw [c2]
            exact .tup (.of (by rw [but_ne TO]; exact upd_same)) (.cons (.int _) (.cons (.int _) (.cons (Dp.o _) (.cons (Dp.o _) .nil))))
        · refine ⟨_, _, _, _, _, _, _, ts', rfl, s2, eO2, by omega, ?_⟩
          rw [List.filter_append, List.filter_cons_of_neg (by rw [hc]; exact Bool.false_ne_true), List.filter_nil, List.append_nil]
          exact hT2
    · obtain ⟨y3, y4, y5, y6, y7, y8, y9, ts, rfl, s1, eO, lt, hT⟩ := hP
      rw [Int.toNat_natCast, List.take_of_length_le (by omega)] at hT
      exact g_ret (vl_var rfl) (q H1 O ts s1 nO eO hT)
end
/-! ### _law_lower over a dict of pairs -/
abbrev sLowerS : Stmt := topS 38
theorem scLowerS : FnScope ["found", "order", "low", "high", "w"] ["found", "order", "low", "high"] (defScope sLowerS) := ⟨rfl, rfl, rfl, by decide +kernel, rfl, by decide +kernel, by decide +kernel⟩
theorem ax_dinS {σ : L2.St} {H : Hp} {ta tb td : TE} {o : Addr} {kvs : List (List L2.Key × V)} {x y : Int} (h1 : ∀ H', Same H H' → Vl ta σ H' (.int x)) (h2 : ∀ H', Same H H' → Vl tb σ H' (.int y)) (h3 : ∀ H', Same H H' → Vl td σ H' (.ref o)) (hD : H o = some (.dT kvs)) : Ax (tB (tDIn (tTup (tCons ta (tCons tb tNil))) td)) σ H (valV kvs (K2 (x, y))).isSome := fun Q k =>
  h1 H (Same.refl _) _ (h2 H (Same.refl _) _ ⟨by show 2 ≤ sizeLine; decide, fun T nT => h3 _ (same_upd nT) _ ⟨o, _, rfl, DGet.t (k := K2 (x, y)) (same_upd nT _ _ hD) upd_same, _, rfl, k _ (same_upd nT)⟩⟩)
def spLowerS (K : PySem.W.Frag) : Sp := fun vs H Q _ => ∃ (d : Addr) (kvs : List (List L2.Key × V)) (L : List (Int × Int)) (o : Addr) (os : List Int) (u v : Int), vs = [.ref d, .ref o, .int u, .int v] ∧ H d = some (.dT kvs) ∧ (∀ p, (valV kvs (K2 p)).isSome = decide (p ∈ L)) ∧ SqL K H o (os.map V.int) ∧ os.length ≤ 1000 ∧
  ∀ p H', Same H H' → H p = none → H' p = some (.lst ((lowerL L os u v).map V.int)) → Q (.ref p) H'
section
variable {P : Program} {w : World} {K : PySem.W.Frag} {mg : Str → Option Value} {base : Heap}
theorem ok_lowerS {f : Addr} {fd : FuncData} {k : Nat} (F : Fun K "_law_lower" "_law_lower" sLowerS f fd) : FnOk P w K mg base CX0 (k + 1) f fd ["found", "order", "low", "high"] (spLowerS K) := by
  refine F.ok scLowerS (fun vs H Q E h => ?_) (fun cdv A outer s H vs Q E hr h => ?_)
  · obtain ⟨d, kvs, L, o, os, u, v, rfl, _⟩ := h
    rfl
  · obtain ⟨d, kvs, L, o, os, u, v, rfl, hd, hk, hO, hz, q⟩ := h
    have hu := hu_of hr
    refine ⟨_, pss_one (ps_ret (pe_lc (own := [("w", 4)]) (g := gName 4) (tt := (tAnd (tB (tDIn (tTup (tCons (tVar 4) (tCons (tVar 2) tNil))) (tVar 0))) (tB (tDIn (tTup (tCons (tVar 4) (tCons (tVar 3) tNil))) (tVar 0))))) (te := (tVar 4)) (by rfl) scLowerS.nd (pi_list (pv 1)) (blkOk_by (own := [("w", 4)]) (N := ["found", "order", "low", "high", "w"]) (sc := defScope sLowerS) (by decide +kernel)) (fun _ _ _ _ _ => pg_name (i := 4) scLowerS.nd rfl (Or.inl rfl)) (fun _ _ _ _ _ => by exact (pts_one (PW.pt (pw_and (pt_cmp (pc_din hu (pe_tup (pa_cons (pv 4) (pa_cons (pv 2) pa_nil))) (pv 0))) (pw_and1 (pt_cmp (pc_din hu (pe_tup (pa_cons (pv 4) (pa_cons (pv 3) pa_nil))) (pv 0)))))))) (fun _ _ _ _ _ => by exact (pv 4)))), ?_⟩
    refine (vn_lcIX (f := V.int) (pb := fun w => decide ((w, u) ∈ L) && decide ((w, v) ∈ L)) (vx_list (vl_var rfl) hO) (by omega) (fun x _ H1 s1 => ax_and (Ax.is (ax_dinS (x := x) (y := u) (fun _ _ => vl_var rfl) (fun _ _ => vl_var rfl) (fun _ _ => vl_var rfl) (s1 _ _ hd)) (hk _)) (fun _ H2 s2 => Ax.is (ax_dinS (x := x) (y := v) (fun _ _ => vl_var rfl) (fun _ _ => vl_var rfl) (fun _ _ => vl_var rfl) (s2 _ _ (s1 _ _ hd))) (hk _))) (fun x _ H1 _ => vl_var rfl)) _ fun p H' s' np e => q p H' s' np e
end
/-! ### _law_looked: the ways that are looked at -/
abbrev sLLooked : Stmt := topS 41
theorem scLLooked : FnScope ["found", "order", "edits", "changes", "x", "y", "ways", "known", "pair", "moved", "change", "out", "low", "high", "places", "near", "price", "w"] ["found", "order", "edits", "changes"] (defScope sLLooked) := ⟨rfl, rfl, rfl, by decide +kernel, rfl, by decide +kernel, by decide +kernel⟩
noncomputable def nearL (L : List (Int × Int)) (os : List Int) (cs : List (Int × Int)) (p : Int × Int) : List Int := (lowerL L os p.1 p.2).filter fun w => decide ((p.1, w) ∈ cs) || decide ((w, p.2) ∈ cs)
noncomputable def lookF (L : List (Int × Int)) (os : List Int) (ws cs : List (Int × Int)) (p : Int × Int) : Bool := decide (p ∈ ws) || !(nearL L os cs p).isEmpty
def spLLooked (K : PySem.W.Frag) : Sp := fun vs H Q _ => ∃ (fp o : Addr) (ev cv : V) (L : List (Int × Int)) (ts : List V) (os : List Int) (eds : EdL) (cs : List (Int × Int)) (f0 f1 : Int → Int → Option Int × Option Int), vs = [.ref fp, .ref o, ev, cv] ∧ H fp = some (.lst ts) ∧ TupsAt H ts L ∧ SqL K H o (os.map V.int) ∧ os.length ≤ 1000 ∧ Dp K H ev (.list (eds.map edD)) ∧ eds.length ≤ 1000 ∧ Dp K H cv (.list (cs.map (chgD f0 f1))) ∧ cs.length ≤ 4000 ∧ L.length ≤ 1600 ∧
  ∀ H' q ts', Same H (but H' q) → H q = none → H' q = some (.lst ts') → TupsAt (but H' q) ts' ((wysL L).filter (lookF L os (eds.map (·.1)) cs)) → Q (.ref q) H'
theorem eqv_nilS (ns : List Int) : PyData.eqv (.list (ns.map PyData.int)) (.list []) = ns.isEmpty := by
  cases ns <;> rfl
theorem TupsAt.nthS {H : Hp} {ts : List V} {L : List (Int × Int)} (h : TupsAt H ts L) {i : Nat} {x : V} (hx : ts[i]? = some x) : ∃ u v t, L[i]? = some (u, v) ∧ x = .ref t ∧ H t = some (.tup [.int u, .int v]) := by
  have il := (List.getElem?_eq_some_iff.mp hx).1
  rw [h.len] at il
  have hg : L[i]? = some (L[i]'il) := List.getElem?_eq_getElem il
  generalize L[i]'il = z at hg
  obtain ⟨u, v⟩ := z
  obtain ⟨t, h1, h2⟩ := h.at_ i u v hg
  cases hx.symm.trans h1
  exact ⟨u, v, t, hg, rfl, h2⟩
theorem TupsAt.two {H : Hp} {T1 T2 : Addr} {p q : Int × Int} (h1 : H T1 = some (.tup [.int p.1, .int p.2])) (h2 : H T2 = some (.tup [.int q.1, .int q.2])) : TupsAt H [.ref T1, .ref T2] [p, q] := ⟨rfl, fun i u v e => by
  match i, e with
  | 0, e =>
    cases e
    exact ⟨T1, rfl, h1⟩
  | 1, e =>
    cases e
    exact ⟨T2, rfl, h2⟩⟩
theorem g_forP2 {K : PySem.W.Frag} {σ : L2.St} {H : Hp} {D : Ends} {tz : TS} {tl : TE} {i1 i2 : Nat} {a : Addr} {ts : List V} {L : List (Int × Int)} (hl : Vl tl σ H (.ref a)) (hs : SqL K H a ts) (Pv : Nat → L2.St → Hp → Prop) (h0 : Pv 0 σ H) (hI : ∀ i σ' H', Pv i σ' H' → SqL K H' a ts ∧ TupsAt H' ts L)
    (step : ∀ i u v σ' H', L[i]? = some (u, v) → Pv i σ' H' → tz { D with nx := Pv (i + 1), ct := Pv (i + 1), bk := D.nx } ((σ'.set i1 (some (.int u))).set i2 (some (.int v))) H') (hd : ∀ σ' H', Pv L.length σ' H' → D.nx σ' H') :
    tFor (iList K tl) (gTup K 2 (gCons (gName i1) (gCons (gName i2) gNil))) tz D σ H := by
  have ln : ts.length = L.length := (hI 0 _ _ h0).2.len
  refine hl _ ⟨a, rfl, ⟨_, hs⟩, for_list (xs := ts) Pv h0 (fun i σ' H' _ p => (hI i σ' H' p).1) (fun i x σ' H' hi p => ?_) (fun σ' H' p => hd σ' H' (by rw [← ln]; exact p))⟩
  obtain ⟨u, v, t, hg, rfl, ht⟩ := (hI i σ' H' p).2.nthS hi
  exact ⟨t, _, rfl, .of ht, rfl, _, _, rfl, _, _, rfl, rfl, step i u v σ' H' hg p⟩
/-- t[:2] of a tuple of four -/
theorem te_cut2 {K : PySem.W.Frag} {σ : L2.St} {H : Hp} {te : TE} {T : Addr} {l : Lnk} {Q : VK} (h : Vl te σ H (.ref T)) (hT : SqT K H T (lnkV l)) (q : ∀ U, H U = none → Q (.ref U) (upd H U (.tup [.int l.a, .int l.b]))) : tSl (rSlT K) te tNoPart (tPart (tC (.int 2))) σ H Q :=
  h _ ⟨2, rfl, T, lnkV l, rfl, hT, fun z => by
    have := z.2
    rw [show HT.sIx (lnkV l).length (lnkV l).length (some 2) = min 2 4 from HT.sIx_nat 4 4 2] at this
    exact absurd (show (2 : Nat) = 4 from this) (by decide), fun p np => by
    have e : cutV (lnkV l) none (some 2) = [.int l.a, .int l.b] := cut_to (xs := lnkV l) (n := 2) (by show 2 ≤ 4; decide)
    rw [e]
    exact q p np⟩
section
variable {P : Program} {w : World} {K : PySem.W.Frag} {mg : Str → Option Value} {base : Heap}
theorem ok_lLooked {f : Addr} {fd : FuncData} {k k1 : Nat} (l1 : k1 ≤ k) (F : Fun K "_law_looked" "_law_looked" sLLooked f fd) (c_law_lower : Kal P w K mg base k1 "_law_lower" ["found", "order", "low", "high"] (spLowerS K)) : FnOk P w K mg base CX0 (k + 1) f fd ["found", "order", "edits", "changes"] (spLLooked K) := by
  refine F.ok scLLooked (fun vs H Q E h => ?_) (fun cdv A outer s H vs Q E hr h => ?_)
  · obtain ⟨fp, o, ev, cv, L, ts, os, eds, cs, f0, f1, rfl, _⟩ := h
    rfl
  · obtain ⟨fp, o, ev, cv, L, ts, os, eds, cs, f0, f1, rfl, eF, hT, hO, los, hE, leds, hC, lcs, lL, q⟩ := h
    have hu := hu_of hr
    refine ⟨_, pss_cons (ps_setLc (i := 6) (own := [("x", 4), ("y", 5), ("price", 16)]) (g := gTup K 3 (gCons (gName 4) (gCons (gName 5) (gCons (gName 16) (gNil))))) (tt := tYes) (te := (tTup (tCons (tVar 4) (tCons (tVar 5) tNil)))) (by rfl) scLLooked.nd rfl rfl (sw_true rfl rfl rfl (by decide +kernel)) (pi_list (pv 2)) (blkOk_by (own := [("x", 4), ("y", 5), ("price", 16)]) (N := ["found", "order", "edits", "changes", "x", "y", "ways", "known", "pair", "moved", "change", "out", "low", "high", "places", "near", "price", "w"]) (sc := defScope sLLooked) (by decide +kernel)) (fun _ _ _ _ _ => pg_tup rfl (pgs_cons (pg_name (i := 4) scLLooked.nd rfl (Or.inl rfl)) (pgs_cons (pg_name (i := 5) scLLooked.nd rfl (Or.inl rfl)) (pgs_cons (pg_name (i := 16) scLLooked.nd rfl (Or.inl rfl)) pgs_nil)))) (fun _ _ _ _ _ => by exact pts_nil) (fun _ _ _ _ _ => by exact (pe_tup (pa_cons (pv 4) (pa_cons (pv 5) pa_nil)))))
      (pss_cons (ps_set (i := 7) scLLooked.nd rfl (.inl rfl) pe_dnewT)
      (pss_cons (ps_for PassesOwn.never rfl (pi_list (pv 0)) (pg_name (i := 8) scLLooked.nd rfl (.inl rfl))
      (pss_one (ps_dput hu (pv 7) (pv 8) pe_bl rfl)))
      (pss_cons (ps_set (i := 9) scLLooked.nd rfl (.inr rfl) pe_dnewT)
      (pss_cons (ps_for PassesOwn.never rfl (pi_list (pv 3)) (pg_name (i := 10) scLLooked.nd rfl (.inl rfl))
      (pss_one (ps_dput hu (pv 9) (pe_slice sl_tup (pv 10) po_none (po_some pe_int)) pe_bl rfl)))
      (pss_cons (ps_set (i := 11) scLLooked.nd rfl (.inl rfl) (pe_lst pa_nil))
      (pss_cons (ps_for PassesOwn.never rfl (pi_list (pv 0)) (pg_tup rfl (pgs_cons (pg_name (i := 12) scLLooked.nd rfl (.inl rfl)) (pgs_cons (pg_name (i := 13) scLLooked.nd rfl (.inl rfl)) pgs_nil)))
      (pss_cons (ps_set (i := 14) scLLooked.nd rfl (.inl rfl) (pe_k c_law_lower hr (by first | decide | omega) (by rfl) (pa_cons (pv 7) (pa_cons (pv 1) (pa_cons (pv 12) (pa_cons (pv 13) pa_nil))))))
        (pss_one (ps_for PassesOwn.never rfl (pi_list (pe_lst (pa_cons (pe_tup (pa_cons (pv 12) (pa_cons (pv 13) pa_nil))) (pa_cons (pe_tup (pa_cons (pv 13) (pa_cons (pv 12) pa_nil))) pa_nil)))) (pg_tup rfl (pgs_cons (pg_name (i := 4) scLLooked.nd rfl (.inr rfl)) (pgs_cons (pg_name (i := 5) scLLooked.nd rfl (.inr rfl)) pgs_nil)))
        (pss_cons (ps_setLc (i := 15) (own := [("w", 17)]) (g := gName 17) (tt := (tOr (tB (tDIn (tTup (tCons (tVar 4) (tCons (tVar 17) tNil))) (tVar 9))) (tB (tDIn (tTup (tCons (tVar 17) (tCons (tVar 5) tNil))) (tVar 9))))) (te := (tVar 17)) (by rfl) scLLooked.nd rfl rfl (sw_true rfl rfl rfl (by decide +kernel)) (pi_list (pv 14)) (blkOk_by (own := [("w", 17)]) (N := ["found", "order", "edits", "changes", "x", "y", "ways", "known", "pair", "moved", "change", "out", "low", "high", "places", "near", "price", "w"]) (sc := defScope sLLooked) (by decide +kernel)) (fun _ _ _ _ _ => pg_name (i := 17) scLLooked.nd rfl (Or.inl rfl)) (fun _ _ _ _ _ => by exact (pts_one (PW.pt (pw_or (pt_cmp (pc_din hu (pe_tup (pa_cons (pv 4) (pa_cons (pv 17) pa_nil))) (pv 9))) (pw_or1 (pt_cmp (pc_din hu (pe_tup (pa_cons (pv 17) (pa_cons (pv 5) pa_nil))) (pv 9)))))))) (fun _ _ _ _ _ => by exact (pv 17)))
          (pss_one (ps_if (PW.pt (pw_or (pt_cmpR (op_inD (room65 hr)) (pe_tup (pa_cons (pv 4) (pa_cons (pv 5) pa_nil))) (pv 6) (by rfl)) (pw_or1 (pt_cmpR (op_neD hr.units) (pv 15) (pe_lst pa_nil) (nomark _)))))
          (pss_one (ps_expr (pe_bm PySem.F.plainAttrs_list PySem.F.slot_list_append PySem.F.type_list_append mt_append (pv 11) (pa_cons (pe_tup (pa_cons (pv 4) (pa_cons (pv 5) pa_nil))) pa_nil))))
          pss_nil)))))))
      (pss_one (ps_ret (pv 11))))))))), ?_⟩
    obtain ⟨ep, ys, rfl, hy, hd⟩ := Dp.lst_inv hE
    obtain ⟨cp, zs, rfl, hz, he⟩ := Dp.lst_inv hC
    have ly := DpAll.len hd
    rw [List.length_map] at ly
    have lz := DpAll.len he
    rw [List.length_map] at lz
    have lt := hT.len
    -- ways
    refine q_asgE (lc_inS (K := K) (xs := ys) (vl_var rfl) hy (fun D i H' => ∃ tw, H' D = some (.lst tw) ∧ Same H H' ∧ TupsAt H' tw ((eds.take i).map (·.1))) (fun D nD => ⟨[], upd_same, same_upd nD, TupsAt.nil⟩) (fun D i H' hI => hI.choose_spec.2.1.seq hy) (fun D i x H1 nD hi hP => ?_) (fun wd H1 nwd hP => ?_))
    · obtain ⟨tw, eD, s1, hW⟩ := hP
      have il := (List.getElem?_eq_some_iff.mp hi).1
      have hg : eds[i]? = some (eds[i]'(by omega)) := List.getElem?_eq_getElem (by omega)
      generalize eds[i]'(by omega) = e at hg
      obtain ⟨⟨a, b⟩, op⟩ := e
      obtain ⟨v', ev', dv⟩ := DpAll.get (i := i) (d := edD ((a, b), op)) hd (by rw [List.getElem?_map, hg]; rfl)
      cases hi.symm.trans ev'
      obtain ⟨t, rfl, ht⟩ := Dp.ed_inv dv
      refine ⟨t, _, rfl, seqT s1 ht, rfl, _, _, rfl, _, _, rfl, _, _, rfl, rfl, rfl, ?_⟩
      refine yes_nowS ?_
      rw [if_pos rfl]
      refine ⟨.int a, rfl, .int b, rfl, by show 2 ≤ sizeLine; decide, fun T nT => ⟨tw, same_upd nT _ _ eD, ?_, tw ++ [.ref T], upd_same, same_upd' (s1.trans (same_upd nT)) nD, ?_⟩⟩
      · rw [hW.len, List.length_map, List.length_take]
        exact Nat.lt_of_le_of_lt (m := 100000) (by omega) (by decide)
      · rw [wtake_snoc9 hg, List.map_append]
        exact ((hW.to (same_upd nT)).app (TupsAt.one upd_same)).upd (same_upd nT _ _ eD)
    · obtain ⟨tw, ewd, s1, hW⟩ := hP
      rw [ly, List.take_length] at hW
      -- known
      refine q_asgE fun kd nkd => ?_
      have sk := same_upd (o := .dT []) nkd
      have s2 := s1.trans sk
      refine q_forL (K := K) (a := fp) (xs := ts) (vl_var rfl) (.of (s2 _ _ eF))
        (fun i σ H' => ∃ y8 kv, σ = [some (.ref fp), some (.ref o), some (.ref ep), some (.ref cp), none, none, some (.ref wd), some (.ref kd), y8, none, none, none, none, none, none, none, none, none] ∧ Same H1 (but H' kd) ∧ H' kd = some (.dT kv) ∧ kv.length ≤ i ∧ ∀ p, (valV kv (K2 p)).isSome = decide (p ∈ L.take i))
        ⟨_, [], rfl, same_but sk nkd, upd_same, Nat.le_refl _, fun p => rfl⟩ (fun i σ H' hP => ?_) (fun i x σ H2 hi hP => ?_) (fun σ H2 hP => ?_)
      · obtain ⟨_, _, _, s', _⟩ := hP
        exact .of (but_same _ _ (s' _ _ (s1 _ _ eF)))
      · obtain ⟨y8, kv, rfl, s3, ekv, lkv, hk⟩ := hP
        obtain ⟨u, v, t, hg, rfl, ht⟩ := hT.nthS hi
        have il := (List.getElem?_eq_some_iff.mp hg).1
        refine ⟨.ref kd, rfl, .ref t, rfl, kd, _, rfl, DPut.t (k := K2 (u, v)) ekv (but_same _ _ (s3 _ _ (s1 _ _ ht))) (Nat.lt_of_le_of_lt (m := 1600) (by omega) (by decide)), _, _, rfl, ?_, upd_same, ?_, fun p => ?_⟩
        · rw [but_upd]
          exact s3
        · have := putK_lenG9 (kvs := kv) (k := K2 (u, v)) (v := .bl true)
          omega
        · rw [valV_put, wtake_snoc9 hg]
          by_cases c : K2 p = K2 (u, v)
          · rw [if_pos c, K2_inj c, decide_eq_true (List.mem_append.mpr (.inr List.mem_cons_self))]
            rfl
          · rw [if_neg c, hk p]
            congr 1
            rw [List.mem_append, List.mem_singleton, eq_iff_iff]
            exact ⟨.inl, fun h => h.elim id fun h => absurd (congrArg K2 h) c⟩
      · obtain ⟨y8, kv, rfl, s3, ekv, lkv, hk⟩ := hP
        rw [lt, List.take_length] at hk
        have s3' := s3.trans but_same
        have s03 := s1.trans s3'
        -- moved
        refine q_asgE fun md nmd => ?_
        have sm := same_upd (o := .dT []) nmd
        refine q_forL (K := K) (a := cp) (xs := zs) (vl_var rfl) ((s03.trans sm).seq hz)
          (fun i σ H' => ∃ y10 mv, σ = [some (.ref fp), some (.ref o), some (.ref ep), some (.ref cp), none, none, some (.ref wd), some (.ref kd), y8, some (.ref md), y10, none, none, none, none, none, none, none] ∧ Same H2 (but H' md) ∧ H' md = some (.dT mv) ∧ mv.length ≤ i ∧ ∀ p, (valV mv (K2 p)).isSome = decide (p ∈ cs.take i))
          ⟨_, [], rfl, same_but sm nmd, upd_same, Nat.le_refl _, fun p => rfl⟩ (fun i σ H' hP => ?_) (fun i x σ H3 hi hP => ?_) (fun σ H3 hP => ?_)
        · obtain ⟨_, _, _, s', _⟩ := hP
          exact ((s03.trans s').trans but_same).seq hz
        · obtain ⟨y10, mv, rfl, s4, emv, lmv, hm⟩ := hP
          have il := (List.getElem?_eq_some_iff.mp hi).1
          have hg : cs[i]? = some (cs[i]'(by omega)) := List.getElem?_eq_getElem (by omega)
          generalize cs[i]'(by omega) = c0 at hg
          obtain ⟨v', ev', dv⟩ := DpAll.get (i := i) (d := chgD f0 f1 c0) he (by rw [List.getElem?_map, hg]; rfl)
          cases hi.symm.trans ev'
          obtain ⟨t, rfl, ht⟩ := Dp.lnk_inv (l := ⟨c0.1, c0.2, (f0 c0.1 c0.2).1, (f1 c0.1 c0.2).1⟩) dv
          have s34 := (s03.trans s4).trans but_same
          refine ⟨.ref md, rfl, te_cut2 (K := K) (vl_var rfl) (seqT s34 ht) fun U nU => ⟨md, _, rfl, DPut.t (k := K2 c0) (same_upd nU _ _ emv) upd_same (Nat.lt_of_le_of_lt (m := 4000) (by omega) (by decide)), _, _, rfl, ?_, upd_same, ?_, fun p => ?_⟩⟩
          · rw [but_upd]
            exact s4.trans (but_mono (same_upd nU))
          · have := putK_lenG9 (kvs := mv) (k := K2 c0) (v := .bl true)
            omega
          · rw [valV_put, wtake_snoc9 hg]
            by_cases c : K2 p = K2 c0
            · rw [if_pos c, K2_inj c, decide_eq_true (List.mem_append.mpr (.inr List.mem_cons_self))]
              rfl
            · rw [if_neg c, hm p]
              congr 1
              rw [List.mem_append, List.mem_singleton, eq_iff_iff]
              exact ⟨.inl, fun h => h.elim id fun h => absurd (congrArg K2 h) c⟩
        · obtain ⟨y10, mv, rfl, s4, emv, lmv, hm⟩ := hP
          rw [lz, List.take_length] at hm
          have s23 := s4.trans but_same
          have s03' := s03.trans s23
          have ekv3 := s23 _ _ ekv
          have ewd3 := (s3'.trans s23) _ _ ewd
          have hW3 := hW.to (s3'.trans s23)
          -- out
          refine q_asgE ⟨Nat.zero_le _, fun O nO => ?_⟩
          have sO := same_upd (o := .lst []) nO
          have hF4 : TupsAt H3 ts L := hT.to s03'
          generalize eW : eds.map (·.1) = ws at hW3 q
          have lws : ws.length ≤ 1000 := by
            rw [← eW, List.length_map]
            exact leds
          refine q_forP2 (K := K) (a := fp) (ts := ts) (L := L) (vl_var rfl) (.of (sO _ _ (s03' _ _ eF)))
            (fun i σ H' => ∃ y4 y5 y12 y13 y14 y15 tl, σ = [some (.ref fp), some (.ref o), some (.ref ep), some (.ref cp), y4, y5, some (.ref wd), some (.ref kd), y8, some (.ref md), y10, some (.ref O), y12, y13, y14, y15, none, none] ∧ Same H3 (but H' O) ∧ H' O = some (.lst tl) ∧ TupsAt (but H' O) tl ((wysL (L.take i)).filter (lookF L os ws cs)))
            ⟨_, _, _, _, _, _, [], rfl, same_but sO nO, upd_same, TupsAt.nil⟩ (fun i σ H' hP => ?_) (fun i u v σ H4 hi hP => ?_) (fun σ H4 hP => ?_)
          · obtain ⟨_, _, _, _, _, _, _, _, s', _⟩ := hP
            exact ⟨.of (but_same _ _ (s' _ _ (s03' _ _ eF))), hF4.to (s'.trans but_same)⟩
          · obtain ⟨y4, y5, y12, y13, y14, y15, tl, rfl, s5, eO, hX⟩ := hP
            have il := (List.getElem?_eq_some_iff.mp hi).1
            have s5' := s5.trans but_same
            refine q_asgE ⟨.ref kd, rfl, .ref o, rfl, .int u, rfl, .int v, rfl, kd, kv, L, o, os, u, v, rfl, s5' _ _ ekv3, hk, (s03'.trans s5').seq hO, los, fun pl H5 s6 npl epl => ?_⟩
            refine g_forE ⟨.int u, rfl, .int v, rfl, by show 2 ≤ sizeLine; decide, fun T1 n1 => ⟨.int v, rfl, .int u, rfl, by show 2 ≤ sizeLine; decide, fun T2 n2 => ⟨by show 2 ≤ sizeLine; decide, fun M nM => ?_⟩⟩⟩
            have t1 := same_upd (o := .tup [.int u, .int v]) n1
            have t2 := same_upd (o := .tup [.int v, .int u]) n2
            have t3 := same_upd (o := .lst [.ref T1, .ref T2]) nM
            have eT1 := (t2.trans t3) _ _ (upd_same (H := H5) (a := T1) (o := .tup [.int u, .int v]))
            have eT2 := t3 _ _ (upd_same (H := upd H5 T1 (.tup [.int u, .int v])) (a := T2) (o := .tup [.int v, .int u]))
            have eM := upd_same (H := upd (upd H5 T1 (.tup [.int u, .int v])) T2 (.tup [.int v, .int u])) (a := M) (o := .lst [.ref T1, .ref T2])
            have nMO : M ≠ O := fun z => by
              have := (t1.trans t2) _ _ (s6 _ _ eO)
              rw [z, this] at nM
              cases nM
            have nT1 : T1 ≠ O := fun z => by rw [z, s6 _ _ eO] at n1; cases n1
            have nT2 : T2 ≠ O := fun z => by rw [z, t1 _ _ (s6 _ _ eO)] at n2; cases n2
            have npO : pl ≠ O := fun z => by rw [z, eO] at npl; cases npl
            have t6 := s6.trans (t1.trans (t2.trans t3))
            have epl6 := (t1.trans (t2.trans t3)) _ _ epl
            have eO6 := t6 _ _ eO
            have s7 := s5.trans (but_mono (o := O) t6)
            have hX6 := hX.to (but_mono (o := O) t6)
            generalize upd (upd (upd H5 T1 (.tup [.int u, .int v])) T2 (.tup [.int v, .int u])) M (.lst [.ref T1, .ref T2]) = H6 at eT1 eT2 eM epl6 eO6 s7 hX6
            rw [wtake_snoc9 hi, wys_snoc, List.append_assoc]
            have lW0 : (wysL (L.take i)).length ≤ 3200 := by
              rw [wys_len, List.length_take]
              omega
            generalize wysL (L.take i) = W0 at hX6 lW0
            refine g_forP2 (K := K) (a := M) (ts := [.ref T1, .ref T2]) (L := [(u, v), (v, u)]) (fun Q q => q) (.of eM)
              (fun k σ H' => ∃ y4 y5 y15 tl, σ = [some (.ref fp), some (.ref o), some (.ref ep), some (.ref cp), y4, y5, some (.ref wd), some (.ref kd), y8, some (.ref md), y10, some (.ref O), some (.int u), some (.int v), some (.ref pl), y15, none, none] ∧ Same (but H6 O) (but H' O) ∧ H' O = some (.lst tl) ∧ TupsAt (but H' O) tl ((W0 ++ [(u, v), (v, u)].take k).filter (lookF L os ws cs)))
              ⟨_, _, _, tl, rfl, Same.refl _, eO6, by rw [List.take_zero, List.append_nil]; exact hX6⟩ (fun k σ H' hP => ?_) (fun k x y σ H7 hk2 hP => ?_) (fun σ H7 hP => ?_)
            · obtain ⟨_, _, _, _, _, s', _⟩ := hP
              exact ⟨.of (but_same _ _ (s' _ _ (by rw [but_ne nMO]; exact eM))), TupsAt.two (p := (u, v)) (q := (v, u)) (but_same _ _ (s' _ _ (by rw [but_ne nT1]; exact eT1))) (but_same _ _ (s' _ _ (by rw [but_ne nT2]; exact eT2)))⟩
            · obtain ⟨y4, y5, y15, tl, rfl, s8, eO7, hX7⟩ := hP
              have s37 := (s7.trans s8).trans but_same
              have epl7 := but_same _ _ (s8 _ _ (by rw [but_ne npO]; exact epl6))
              have emv7 := s37 _ _ emv
              have exy : lowerL L os u v = lowerL L os x y := by
                match k, hk2 with
                | 0, hk2 =>
                  cases hk2
                  rfl
                | 1, hk2 =>
                  cases hk2
                  exact lowerL_sym
              rw [exy] at epl7
              refine q_asgN (vn_lcIX (f := V.int) (ns := lowerL L os x y) (pb := fun w => decide ((x, w) ∈ cs) || decide ((w, y) ∈ cs)) (vx_list (vl_var rfl) (.of epl7)) (Nat.le_trans (List.length_filter_le _ _) (by omega)) (fun z _ H1 s1 => ax_or (Ax.is (ax_dinS (x := x) (y := z) (fun _ _ => vl_var rfl) (fun _ _ => vl_var rfl) (fun _ _ => vl_var rfl) (s1 _ _ emv7)) (hm _)) (fun _ H2 s2 => Ax.is (ax_dinS (x := z) (y := y) (fun _ _ => vl_var rfl) (fun _ _ => vl_var rfl) (fun _ _ => vl_var rfl) (s2 _ _ (s1 _ _ emv7))) (hm _))) (fun z _ H1 _ => vl_var rfl)) fun nr H8 s9 nnr enr => ?_
              have eO8 := s9 _ _ eO7
              have s38 := s37.trans s9
              have s88 := s8.trans (but_mono (o := O) s9)
              have hX8 := hX7.to (but_mono (o := O) s9)
              rw [wtake_snoc9 hk2, ← List.append_assoc]
              have lW1 : (W0 ++ [(u, v), (v, u)].take k).length ≤ 3300 := by
                rw [List.length_append, List.length_take]
                show _ + min k 2 ≤ _
                omega
              generalize W0 ++ [(u, v), (v, u)].take k = W1 at hX8 lW1
              have hws : Dp K H8 (.ref wd) (.list (ws.map pairD2)) := .lst (.of (s38 _ _ ewd3)) (TupsAt.dp (hW3.to s38))
              refine g_whenx (b := lookF L os ws cs (x, y)) (ax_or (ax_inP (fun _ _ => vl_var rfl) (fun _ _ => vl_var rfl) (fun _ _ => vl_var rfl) hws) fun _ H9 s99 => ?_) (fun hb H9 s99 => ?_) (fun hb H9 s99 => ?_)
              · refine fun Q kk => ⟨.ref nr, rfl, Nat.zero_le _, fun b nb => ⟨.list ((nearL L os cs (x, y)).map PyData.int), .list [], Dp.ints (.of (same_upd nb _ _ (s99 _ _ enr))), .lst (.of upd_same) .nil, shaped_ints _, by rfl, _, rfl, ?_⟩⟩
                rw [eqv_nilS]
                exact kk _ (same_upd nb)
              · refine g_appE (vl_var rfl) (s99 _ _ eO8) ⟨.int x, rfl, .int y, rfl, by show 2 ≤ sizeLine; decide, fun T nT => ⟨O, tl, .ref T, rfl, rfl, same_upd nT _ _ (s99 _ _ eO8), ?_, _, _, _, tl ++ [.ref T], rfl, ?_, upd_same, ?_⟩⟩
                · have := hX8.len
                  have h2 := List.length_filter_le (lookF L os ws cs) W1
                  exact Nat.lt_of_le_of_lt (m := 3300) (by omega) (by decide)
                · rw [but_upd]
                  exact s88.trans (but_mono (s99.trans (same_upd nT)))
                · have TO : T ≠ O := fun z => by rw [z, s99 _ _ eO8] at nT; cases nT
                  rw [but_upd, List.filter_append, List.filter_cons_of_pos hb]
                  exact (hX8.to (but_mono (s99.trans (same_upd nT)))).app (TupsAt.one (by rw [but_ne TO]; exact upd_same))
              · refine ⟨_, _, _, tl, rfl, s88.trans (but_mono s99), s99 _ _ eO8, ?_⟩
                rw [List.filter_append, List.filter_cons_of_neg (by rw [hb]; exact Bool.false_ne_true), List.filter_nil, List.append_nil]
                exact hX8.to (but_mono s99)
            · obtain ⟨y4, y5, y15, tl, rfl, s8, eO7, hX7⟩ := hP
              exact ⟨_, _, _, _, _, _, tl, rfl, s7.trans s8, eO7, hX7⟩
          · obtain ⟨y4, y5, y12, y13, y14, y15, tl, rfl, s5, eO, hX⟩ := hP
            rw [List.take_length] at hX
            exact g_ret (vl_var rfl) (q H4 O tl (s03'.trans s5) (Same.free s03' nO) eO hX)
end
/-! ### _law_edits -/
abbrev sLEdits : Stmt := topS 42
theorem scLEdits : FnScope ["draws", "first", "net", "many", "out", "k", "a", "b", "there", "back", "cell", "price"] ["draws", "first", "net", "many"] (defScope sLEdits) := ⟨rfl, rfl, rfl, by decide +kernel, rfl, by decide +kernel, by decide +kernel⟩
def spLEdits (K : PySem.W.Frag) : Sp := fun vs H Q _ => ∃ (a : Addr) (ds : List Int) (k m : Int) (v : V) (N : Net), vs = [.ref a, .int k, v, .int m] ∧ SqL K H a (ds.map V.int) ∧ 0 ≤ k ∧ 0 ≤ m ∧ m ≤ 100 ∧ Dp K H v (netD N) ∧ NetOk N ∧
  ∀ H' q ts (eds : EdL), Same H (but H' q) → H q = none → H' q = some (.lst ts) → DpAll K (but H' q) ts (eds.map edD) → eds.length ≤ m.toNat → (∀ e ∈ eds, okE (endsL N.ls) e = true) → Q (.ref q) H'
theorem lay_lnkS (l : Lnk) : (lnkD l).canLay0 = true ∧ (lnkD l).depth = 1 := by
  have h1 := lay_o l.t
  have h2 := lay_o l.k
  constructor
  · show (true && (true && ((oD l.t).canLay0 && ((oD l.k).canLay0 && true)))) = true
    rw [h1.1, h2.1]
    rfl
  · show max 0 (max 0 (max (oD l.t).depth (max (oD l.k).depth 0))) + 1 = 1
    rw [h1.2, h2.2]
    rfl
theorem shaped_lnksS (ls : List Lnk) : SeqAt.shaped (.list (ls.map lnkD)) = true := by
  have h : ∀ ls : List Lnk, PyData.canLayAll0 (ls.map lnkD) = true ∧ PyData.depthAll (ls.map lnkD) ≤ 1 := fun ls => by
    induction ls with
    | nil => exact ⟨rfl, Nat.zero_le _⟩
    | cons l ls ih =>
      have h2 := lay_lnkS l
      constructor
      · show ((lnkD l).canLay0 && PyData.canLayAll0 (ls.map lnkD)) = true
        rw [h2.1, ih.1]
        rfl
      · show max (lnkD l).depth (PyData.depthAll (ls.map lnkD)) ≤ 1
        rw [h2.2]
        have := ih.2
        omega
  have h1 := h ls
  show (PyData.canLayAll0 (ls.map lnkD) && decide (PyData.depthAll (ls.map lnkD) + 1 ≤ 64)) = true
  rw [h1.1]
  refine decide_eq_true ?_
  have := h1.2
  omega
theorem q_asgG {te : TE} {g : TG} {D : Ends} {tw : TS} {σ : L2.St} {H : Hp} (h : te σ H fun x H1 => g x σ H1 fun σ2 H2 => tw D σ2 H2) : tSeq (tAsg te g) tw D σ H := h
theorem two_at {α : Type} {x y : V} {r : Int} (h0 : 0 ≤ r) (h1 : r < 2) : ∃ z, atI [x, y] r = some z ∧ (z = x ∨ z = y) := by
  have : r = 0 ∨ r = 1 := by omega
  rcases this with rfl | rfl
  · exact ⟨x, rfl, .inl rfl⟩
  · exact ⟨y, rfl, .inr rfl⟩
section
variable {P : Program} {w : World} {K : PySem.W.Frag} {mg : Str → Option Value} {base : Heap}
theorem ok_lEdits {f : Addr} {fd : FuncData} {k k1 k2 : Nat} (l1 : k1 ≤ k) (l2 : k2 ≤ k) (F : Fun K "_law_edits" "_law_edits" sLEdits f fd) (c_law_at : Kal P w K mg base k1 "_law_at" ["draws", "k", "many"] (spAt K)) (c_law_price : Kal P w K mg base k2 "_law_price" ["cell"] spPrice2) (mr : mg "range" = none) (mi : mg "int" = none) (ml : mg "len" = none) : FnOk P w K mg base CX0 (k + 1) f fd ["draws", "first", "net", "many"] (spLEdits K) := by
  refine F.ok scLEdits (fun vs H Q E h => ?_) (fun cdv A outer s H vs Q E hr h => ?_)
  · obtain ⟨a, ds, k, m, v, N, rfl, _⟩ := h
    rfl
  · obtain ⟨a, ds, k, m, v, N, rfl, hS, k0, m0, m100, hN, ok, q⟩ := h
    have hu := hu_of hr
    refine ⟨_, pss_cons (ps_set (i := 4) scLEdits.nd rfl (.inl rfl) (pe_lst pa_nil))
      (pss_cons (ps_for PassesOwn.never rfl (pi_range1 (by rfl) mr (pa_cons (pv 3) pa_nil)) (pg_name (i := 5) scLEdits.nd rfl (.inl rfl))
      (pss_one (ps_if (pt_cmpR (op_neD hr.units) (pe_ix ix_tup (pv 2) pe_int (fun _ _ => rfl)) (pe_lst pa_nil) (nomark _))
        (pss_cons (ps_asg (pe_ix ix_list (pe_ix ix_tup (pv 2) pe_int (fun _ _ => rfl)) (pe_k c_law_at hr (by first | decide | omega) (by rfl) (pa_cons (pv 0) (pa_cons (pe_op op_add (pv 1) (pe_op op_mul pe_int (pv 5))) (pa_cons (pe_callB call_len_seq (by rfl) ml PySem.boot_len (pa_cons (pe_ix ix_tup (pv 2) pe_int (fun _ _ => rfl)) pa_nil)) pa_nil)))) (fun _ _ => rfl)) (pg_tup rfl (pgs_cons (pg_name (i := 6) scLEdits.nd rfl (.inl rfl)) (pgs_cons (pg_name (i := 7) scLEdits.nd rfl (.inl rfl)) (pgs_cons (pg_name (i := 8) scLEdits.nd rfl (.inl rfl)) (pgs_cons (pg_name (i := 9) scLEdits.nd rfl (.inl rfl)) pgs_nil))))))
          (pss_cons (ps_set (i := 10) scLEdits.nd rfl (.inl rfl) (pe_k c_law_at hr (by first | decide | omega) (by rfl) (pa_cons (pv 0) (pa_cons (pe_op op_add (pe_op op_add (pv 1) (pe_op op_mul pe_int (pv 5))) pe_int) (pa_cons pe_int pa_nil)))))
          (pss_cons (ps_set (i := 11) scLEdits.nd rfl (.inl rfl) (pe_k c_law_price hr (by first | decide | omega) (by rfl) (pa_cons (pe_callTy call_int1 (by rfl) mi (by decide +kernel) (pa_cons (pe_op op_fdiv (pv 10) pe_int) pa_nil)) pa_nil)))
          (Evl.pss_cut (ps_if (pt_cmpR op_eq (pe_op op_mod (pe_callTy call_int1 (by rfl) mi (by decide +kernel) (pa_cons (pv 10) pa_nil)) pe_int) pe_int (nomark _))
          (pss_one (ps_set (i := 11) scLEdits.nd rfl (.inl rfl) (pe_ix ix_list (pe_lst (pa_cons (pv 8) (pa_cons (pv 9) pa_nil))) (pe_op op_mod (pe_callTy call_int1 (by rfl) mi (by decide +kernel) (pa_cons (pe_op op_fdiv (pv 10) pe_int) pa_nil)) pe_int) (fun _ _ => rfl))))
          (pss_one (ps_if (pt_cmpR op_eq (pe_op op_mod (pe_callTy call_int1 (by rfl) mi (by decide +kernel) (pa_cons (pv 10) pa_nil)) pe_int) pe_int (nomark _))
            (pss_one (ps_set (i := 11) scLEdits.nd rfl (.inl rfl) pe_int))
            pss_nil)))
          (pss_one (ps_expr (pe_bm PySem.F.plainAttrs_list PySem.F.slot_list_append PySem.F.type_list_append mt_append (pv 4) (pa_cons (pe_ix ix_list (pe_lst (pa_cons (pe_tup (pa_cons (pv 6) (pa_cons (pv 7) (pa_cons (pv 11) pa_nil)))) (pa_cons (pe_tup (pa_cons (pv 7) (pa_cons (pv 6) (pa_cons (pv 11) pa_nil)))) pa_nil))) (pe_op op_mod (pe_callTy call_int1 (by rfl) mi (by decide +kernel) (pa_cons (pv 10) pa_nil)) pe_int) (fun _ _ => rfl)) pa_nil))))))))
        pss_nil)))
      (pss_one (ps_ret (pv 4)))), ?_⟩
    obtain ⟨pn, c, xs, rfl, hpn, hc, hx⟩ := Dp.net_inv hN
    have lls := ok.len
    have lx := DpAll.len hx
    rw [List.length_map] at lx
    refine q_asgE ⟨Nat.zero_le _, fun O nO => ?_⟩
    have sO := same_upd (o := .lst []) nO
    refine q_forR (n := m) (va_cons (vl_var rfl) va_nil) (by omega)
      (fun i σ H' => ∃ y5 y6 y7 y8 y9 y10 y11 ts, ∃ eds : EdL, σ = [some (.ref a), some (.int k), some (.ref pn), some (.int m), some (.ref O), y5, y6, y7, y8, y9, y10, y11] ∧ H' O = some (.lst ts) ∧ Same H (but H' O) ∧ DpAll K (but H' O) ts (eds.map edD) ∧ eds.length ≤ i ∧ ∀ e ∈ eds, okE (endsL N.ls) e = true)
      ⟨_, _, _, _, _, _, _, [], [], rfl, upd_same, same_but sO nO, .nil, Nat.le_refl _, fun e h => nomatch h⟩ (fun i σ H1 hi hP => ?_) (fun σ H1 hP => ?_)
    · obtain ⟨y5, y6, y7, y8, y9, y10, y11, ts, eds, rfl, eO, s1, hT, lE, hA⟩ := hP
      have sH := s1.trans but_same
      refine g_whenx (b := !N.ls.isEmpty) (fun Q kk => ?_) (fun hb H2 s2 => ?_) (fun hb H2 s2 => ?_)
      · refine (vl_ixT (K := K) (vl_var rfl) vl_c (seqT sH hpn) (atI_nat (j := 1) rfl)) _ ⟨Nat.zero_le _, fun b nb => ⟨.list (N.ls.map lnkD), .list [], .lst ((sH.trans (same_upd nb)).seq hc) (DpAll.to hx (sH.trans (same_upd nb))), .lst (.of upd_same) .nil, shaped_lnksS _, by rfl, _, rfl, ?_⟩⟩
        have : PyData.eqv (.list (N.ls.map lnkD)) (.list []) = N.ls.isEmpty := by cases N.ls <;> rfl
        rw [this]
        exact kk _ (same_upd nb)
      · have hne : 0 < xs.length := by
          rw [lx]
          cases h : N.ls with
          | nil => rw [h] at hb; cases hb
          | cons _ _ => exact Nat.succ_pos _
        have sH2 := sH.trans s2
        refine q_asgG ((vl_ixT (K := K) (vl_var rfl) vl_c (seqT sH2 hpn) (atI_nat (j := 1) rfl)) _ ((va_cons (vl_var rfl) (va_cons (vl_I0 (vl_var rfl) (vl_I vl_c (vl_var rfl) (.inl ⟨by decide, by decide⟩))) (va_cons (vl_lenL (K := K) (vl_ixT (K := K) (vl_var rfl) vl_c (seqT sH2 hpn) (atI_nat (j := 1) rfl)) (sH2.seq hc)) va_nil))) _ ⟨a, ds, _, _, rfl, sH2.seq hS, by omega, by omega, fun r hr => ?_⟩))
        have hg : N.ls[r.toNat]? = some (N.ls[r.toNat]'(by omega)) := List.getElem?_eq_getElem (by omega)
        generalize N.ls[r.toNat]'(by omega) = l at hg
        obtain ⟨v', ev', dv⟩ := DpAll.get (i := r.toNat) (d := lnkD l) hx (by rw [List.getElem?_map, hg]; rfl)
        obtain ⟨t, rfl, ht⟩ := Dp.lnk_inv dv
        have hl := ok.ok l (List.mem_of_getElem? hg)
        have hml : (l.a, l.b) ∈ endsL N.ls := List.mem_map.mpr ⟨l, List.mem_of_getElem? hg, rfl⟩
        refine ⟨c, xs, r, .ref t, rfl, rfl, sH2.seq hc, by rw [show r = ((r.toNat : Nat) : Int) by omega]; exact atI_nat ev', t, _, rfl, seqT sH2 ht, rfl, _, _, rfl, _, _, rfl, _, _, rfl, _, _, rfl, rfl, ?_⟩
        refine q_asgI (P := fun r => 0 ≤ r ∧ r < 65536) (vi_call (va_cons (vl_var rfl) (va_cons (vl_I0 (vl_I0 (vl_var rfl) (vl_I vl_c (vl_var rfl) (.inl ⟨by decide, by decide⟩))) vl_c) (va_cons vl_c va_nil))) fun Q E q => ⟨a, ds, _, 65536, rfl, sH2.seq hS, by omega, by decide, q⟩) (fun cell hcl => ?_)
        refine q_asgE ⟨.int cell, rfl, cell, 2, rfl, rfl, ⟨by decide, by decide⟩, .inl ⟨cell / 2, rfl, cell / 2, rfl, by omega, by omega, fun H5 o0 s5 ho0 => ?_⟩⟩
        have sH5 := sH2.trans s5
        refine q_cut (M := fun σ' H' => ∃ o, PriceOk o ∧ Same H5 H' ∧ σ' = [some (.ref a), some (.int k), some (.ref pn), some (.int m), some (.ref O), some (.int i), some (.int l.a), some (.int l.b), some (oV l.t), some (oV l.k), some (.int cell), some (oV o)]) ?_ (fun σ' H6 hM => ?_)
        · refine g_if (b := decide (V.int (cell % 7) = V.int 3)) (an_test (vl_eq (vl_I (vl_int1 (vl_var rfl)) vl_c (by decide)) vl_c rfl)) (fun _ => ?_) (fun _ => ?_)
          · obtain ⟨z, hz, hzz⟩ := two_at (α := V) (x := oV l.t) (y := oV l.k) (r := (cell / 7) % 2) (by omega) (by omega)
            refine ⟨oV l.t, rfl, oV l.k, rfl, by show 2 ≤ sizeLine; decide, fun M nM => (vl_I (vl_int1 (vl_I (vl_var rfl) vl_c ⟨by decide, by decide⟩)) vl_c (by decide)) _ ⟨M, _, (cell / 7) % 2, z, rfl, rfl, .of upd_same, hz, ?_⟩⟩
            rcases hzz with rfl | rfl
            · exact ⟨l.t, hl.t, same_upd nM, rfl⟩
            · exact ⟨l.k, hl.k, same_upd nM, rfl⟩
          · refine g_when (b := decide (V.int (cell % 29) = V.int 11)) (an_test (vl_eq (vl_I (vl_int1 (vl_var rfl)) vl_c (by decide)) vl_c rfl)) (fun _ => ?_) (fun _ => ?_)
            · exact ⟨some 1000000, fun x hx => by cases hx; decide, Same.refl _, rfl⟩
            · exact ⟨o0, ho0, Same.refl _, rfl⟩
        · obtain ⟨o, ho, s6, rfl⟩ := hM
          have s16 := s2.trans (s5.trans s6)
          have eO6 := s16 _ _ eO
          refine g_appE (vl_var rfl) eO6 ⟨.int l.a, rfl, .int l.b, rfl, oV o, rfl, by show 3 ≤ sizeLine; decide, fun T1 n1 => ⟨.int l.b, rfl, .int l.a, rfl, oV o, rfl, by show 3 ≤ sizeLine; decide, fun T2 n2 => ⟨by show 2 ≤ sizeLine; decide, fun M nM => ?_⟩⟩⟩
          have t1 := same_upd (o := .tup [.int l.a, .int l.b, oV o]) n1
          have t2 := same_upd (o := .tup [.int l.b, .int l.a, oV o]) n2
          have t3 := same_upd (o := .lst [.ref T1, .ref T2]) nM
          have nT1 : T1 ≠ O := fun z => by rw [z, eO6] at n1; cases n1
          have nT2 : T2 ≠ O := fun z => by rw [z, t1 _ _ eO6] at n2; cases n2
          have eT1 := (t2.trans t3) _ _ (upd_same (H := H6) (a := T1) (o := .tup [.int l.a, .int l.b, oV o]))
          have eT2 := t3 _ _ (upd_same (H := upd H6 T1 (.tup [.int l.a, .int l.b, oV o])) (a := T2) (o := .tup [.int l.b, .int l.a, oV o]))
          have t6 := t1.trans (t2.trans t3)
          obtain ⟨z, hz, hzz⟩ := two_at (α := V) (x := .ref T1) (y := .ref T2) (r := cell % 2) (by omega) (by omega)
          refine (vl_I (vl_int1 (vl_var rfl)) vl_c (by decide)) _ ⟨M, _, cell % 2, z, rfl, rfl, .of upd_same, hz, O, ts, z, rfl, rfl, t6 _ _ eO6, Nat.lt_of_le_of_lt (m := 1000) (by rw [DpAll.len hT, List.length_map]; omega) (by decide), ?_⟩
          generalize upd (upd (upd H6 T1 (.tup [.int l.a, .int l.b, oV o])) T2 (.tup [.int l.b, .int l.a, oV o])) M (.lst [.ref T1, .ref T2]) = H7 at eT1 eT2 t6
          have sb := but_mono (o := O) (s16.trans t6)
          have fin : ∀ e : (Int × Int) × Option Int, okE (endsL N.ls) e = true → Dp K (but H7 O) z (edD e) → ∃ y5 y6 y7 y8 y9 y10 y11 tz, ∃ eds : EdL, [some (.ref a), some (.int k), some (.ref pn), some (.int m), some (.ref O), some (.int i), some (.int l.a), some (.int l.b), some (oV l.t), some (oV l.k), some (.int cell), some (oV o)] = [some (.ref a), some (.int k), some (.ref pn), some (.int m), some (.ref O), y5, y6, y7, y8, y9, y10, y11] ∧ upd H7 O (.lst (ts ++ [z])) O = some (.lst tz) ∧ Same H (but (upd H7 O (.lst (ts ++ [z]))) O) ∧ DpAll K (but (upd H7 O (.lst (ts ++ [z]))) O) tz (eds.map edD) ∧ eds.length ≤ i + 1 ∧ ∀ e ∈ eds, okE (endsL N.ls) e = true := fun e he dz => by
            refine ⟨_, _, _, _, _, _, _, ts ++ [z], eds ++ [e], rfl, upd_same, ?_, ?_, ?_, fun e' he' => ?_⟩
            · rw [but_upd]
              exact s1.trans sb
            · rw [but_upd, List.map_append]
              exact DpAll.app (DpAll.to hT sb) (.cons dz .nil)
            · rw [List.length_append]
              exact Nat.add_le_add_right lE 1
            · rcases List.mem_append.mp he' with he' | he'
              · exact hA e' he'
              · rw [List.mem_singleton.mp he']
                exact he
          have okw : ∀ x y, (x, y) ∈ wysL (endsL N.ls) → okE (endsL N.ls) ((x, y), o) = true := fun x y h => by
            unfold okE
            rw [decide_eq_true h, priceB_iff.mpr ho]
            rfl
          rcases hzz with rfl | rfl
          · exact fin ((l.a, l.b), o) (okw _ _ (mem_wys.mpr (.inl hml))) (.tup (.of (by rw [but_ne nT1]; exact eT1)) (.cons (.int _) (.cons (.int _) (.cons (Dp.o _) .nil))))
          · exact fin ((l.b, l.a), o) (okw _ _ (mem_wys.mpr (.inr hml))) (.tup (.of (by rw [but_ne nT2]; exact eT2)) (.cons (.int _) (.cons (.int _) (.cons (Dp.o _) .nil))))
      · exact ⟨_, _, _, _, _, _, _, ts, eds, rfl, s2 _ _ eO, s1.trans (but_mono s2), DpAll.to hT (but_mono s2), by omega, hA⟩
    · obtain ⟨y5, y6, y7, y8, y9, y10, y11, ts, eds, rfl, eO, s1, hT, lE, hA⟩ := hP
      exact g_ret (vl_var rfl) (q H1 O ts eds s1 nO eO hT lE hA)
end
/-! ### what a session's answer is, beside a filling made anew -/
theorem fill_uniqueS {N : Net} {os : List Int} (ok : NetOk N) (oo : OrdOk N.n os) {r1 r2 : List Row} (h1 : FillOk N os r1) (h2 : FillOk N os r2) : r1 = r2 := by
  have f1 := (fill_iff ok oo).mp h1
  have f2 := (fill_iff ok oo).mp h2
  have hp := f1.1.trans f2.1.symm
  have hl : r1.length = r2.length := by
    have := congrArg List.length hp
    rw [List.length_map, List.length_map] at this
    exact this
  have gen : ∀ k, r1.take k = r2.take k := by
    intro k
    induction k with
    | zero => rw [List.take_zero, List.take_zero]
    | succ k ih =>
      by_cases hk : k < r1.length
      · have g1 : r1[k]? = some r1[k] := List.getElem?_eq_getElem hk
        have g2 : r2[k]? = some (r2[k]'(by omega)) := List.getElem?_eq_getElem (by omega)
        generalize r1[k] = a at g1
        generalize r2[k]'(by omega) = b at g2
        have e1 := f1.2 k a g1
        have e2 := f2.2 k b g2
        have m1 : (r1.map prOf)[k]? = some (prOf a) := by rw [List.getElem?_map, g1] <;> rfl
        have m2 : (r2.map prOf)[k]? = some (prOf b) := by rw [List.getElem?_map, g2] <;> rfl
        have ep : prOf a = prOf b := by
          rw [hp, m2] at m1
          exact (Option.some.inj m1).symm
        have eu : a.u = b.u := congrArg Prod.fst ep
        have ev : a.v = b.v := congrArg Prod.snd ep
        have eab : a = b := e1.trans ((by rw [ih, eu, ev] : mkRow N os (pairsL N.ls os) (r1.take k) a.u a.v = mkRow N os (pairsL N.ls os) (r2.take k) b.u b.v).trans e2.symm)
        rw [take_snoc g1, take_snoc g2, ih, eab]
      · rw [List.take_of_length_le (by omega), List.take_of_length_le (by omega)] at ih
        rw [ih]
  have := gen r1.length
  rw [List.take_length, hl, List.take_length] at this
  exact this
/-- no tuples at these addresses -/
def NT (as : List Addr) (H : Hp) : Prop := ∀ a, a ∈ as → ∃ u, H a = some u ∧ (∀ xs, u ≠ .tup xs) ∧ ∀ o xs, u ≠ .frz o (.tup xs)
theorem NT.to {as : List Addr} {H H' : Hp} (n : NT as H) (s : Same H H') : NT as H' := fun a ha => let ⟨u, e, h⟩ := n a ha; ⟨u, s _ _ e, h⟩
theorem NT.no {as : List Addr} {H : Hp} {a : Addr} (n : NT as H) (e : H a = none) : a ∉ as := fun z => by
  obtain ⟨u, e', _⟩ := n a z
  rw [e] at e'
  cases e'
theorem NT.tup {as : List Addr} {H : Hp} {a : Addr} {xs : List V} (n : NT as H) (e : H a = some (.tup xs)) : a ∉ as := fun z => by
  obtain ⟨u, e', h, _⟩ := n a z
  exact h xs (Option.some.inj (e'.symm.trans e))
theorem NT.sqt {K : PySem.W.Frag} {as : List Addr} {H : Hp} {a : Addr} {xs : List V} (n : NT as H) (h : SqT K H a xs) : SqT K (buts as H) a xs := by
  rcases h with (h | ⟨o, h⟩) | h
  · exact .inl (.inl (by rw [buts_ne (n.tup h)]; exact h))
  · exact .inl (.inr ⟨o, by rw [buts_ne fun z => by
      obtain ⟨u, e', _, h2⟩ := n a z
      exact h2 o xs (Option.some.inj (e'.symm.trans h))]; exact h⟩)
  · exact .inr h
theorem NT.lnks {K : PySem.W.Frag} {as : List Addr} {H : Hp} (n : NT as H) : ∀ {ls : List Lnk} {ts : List V}, DpAll K H ts (ls.map lnkD) → DpAll K (buts as H) ts (ls.map lnkD)
  | [], _, .nil => .nil
  | l :: ls, _ :: _, .cons h1 h2 => .cons (by
    obtain ⟨t, rfl, ht⟩ := Dp.lnk_inv h1
    exact Dp.lnk (n.sqt ht)) (NT.lnks n h2)
theorem NT.rows {K : PySem.W.Frag} {as : List Addr} {H : Hp} (n : NT as H) : ∀ {rs : List Row} {ts : List V}, DpAll K H ts (rs.map rowD) → DpAll K (buts as H) ts (rs.map rowD)
  | [], _, .nil => .nil
  | r :: rs, _ :: _, .cons h1 h2 => .cons (by
    obtain ⟨t, rfl, ht⟩ := Dp.row_inv h1
    exact .tup (n.sqt ht) (.cons (.int _) (.cons (.int _) (.cons (Dp.o _) (.cons (Dp.o _) (.cons (Dp.o _) (.cons (Dp.o _) .nil))))))) (NT.rows n h2)
theorem NT.tups {as : List Addr} {H : Hp} {ts : List V} {L : List (Int × Int)} (n : NT as H) (h : TupsAt H ts L) : TupsAt (buts as H) ts L := ⟨h.len, fun i u v e => by
  obtain ⟨t, h1, h2⟩ := h.at_ i u v e
  exact ⟨t, h1, by rw [buts_ne (n.tup h2)]; exact h2⟩⟩
theorem SesAt.nt {CS : Addr} {H : Hp} {A : SesA} {S : SesS} (h : SesAt CS H A S) : NT A.m H := fun a ha => by
  unfold SesA.m at ha
  simp only [List.mem_cons, List.not_mem_nil, or_false] at ha
  rcases ha with rfl | rfl | rfl | rfl | rfl
  · obtain ⟨_, _, _, _, _, e, _⟩ := h.im
    exact ⟨_, e, (fun xs z => nomatch z), fun o xs z => nomatch z⟩
  · obtain ⟨_, e, _⟩ := h.lk
    exact ⟨_, e, (fun xs z => nomatch z), fun o xs z => nomatch z⟩
  · obtain ⟨_, e, _⟩ := h.pr
    exact ⟨_, e, (fun xs z => nomatch z), fun o xs z => nomatch z⟩
  · obtain ⟨_, e, _⟩ := h.mi
    exact ⟨_, e, (fun xs z => nomatch z), fun o xs z => nomatch z⟩
  · exact ⟨_, h.un, (fun xs z => nomatch z), fun o xs z => nomatch z⟩
theorem NT.cons {as : List Addr} {H : Hp} {q : Addr} {xs : List V} (n : NT as (but H q)) (e : H q = some (.lst xs)) : NT (q :: as) H := fun a ha => by
  rcases List.mem_cons.mp ha with rfl | ha
  · exact ⟨_, e, (fun xs z => nomatch z), fun o xs z => nomatch z⟩
  · obtain ⟨u, e, h⟩ := n a ha
    exact ⟨u, but_same _ _ e, h⟩
theorem shaped_rowsS (rows : List Row) : SeqAt.shaped (.list (rows.map rowD)) = true := by
  have h := lay_rows rows
  show (PyData.canLayAll0 (rows.map rowD) && decide (PyData.depthAll (rows.map rowD) + 1 ≤ 64)) = true
  rw [h.1, decide_eq_true (by
    have := h.2
    omega)]
  rfl
theorem ax_notInPS {K : PySem.W.Frag} {σ : L2.St} {H : Hp} {ta tb : TE} {p q : Int} {f : V} {L : List (Int × Int)} {tf : TE} (ha : ∀ H', Same H H' → Vl ta σ H' (.int p)) (hb : ∀ H', Same H H' → Vl tb σ H' (.int q)) (hf : ∀ H', Same H H' → Vl tf σ H' f) (hd : Dp K H f (.list (L.map pairD2))) :
    Ax (tTest (tOp (rNotInD K) (tTup (tCons ta (tCons tb tNil))) tf)) σ H (!decide ((p, q) ∈ L)) := fun Q k =>
  ha H (Same.refl H) _ (hb H (Same.refl H) _ ⟨by show 2 ≤ sizeLine; decide, fun T nT => by
    have s1 : Same H (upd H T (.tup [.int p, .int q])) := same_upd nT
    refine hf _ s1 _ ⟨.tuple [.int p, .int q], L.map pairD2, .tup (.of upd_same) (.cons (.int _) (.cons (.int _) .nil)), Dp.to hd s1, by rfl, shaped_pairs L, _, rfl, ?_⟩
    rw [any_pairs]
    exact k _ s1⟩)
/-- changes are laid as links are -/
def chgK (f0 f1 : Int → Int → Option Int × Option Int) (p : Int × Int) : Lnk := ⟨p.1, p.2, (f0 p.1 p.2).1, (f1 p.1 p.2).1⟩
theorem chgD_lnk (f0 f1 : Int → Int → Option Int × Option Int) (cs : List (Int × Int)) : cs.map (chgD f0 f1) = (cs.map (chgK f0 f1)).map lnkD := by
  rw [List.map_map]
  rfl
theorem shaped_chg (f0 f1 : Int → Int → Option Int × Option Int) (cs : List (Int × Int)) : SeqAt.shaped (.list (cs.map (chgD f0 f1))) = true := by
  rw [chgD_lnk]
  exact shaped_lnksS _
theorem netL_congr {es : List (Int × Int)} {f g : Int → Int → Option Int} (h : ∀ e, e ∈ es → f e.1 e.2 = g e.1 e.2 ∧ f e.2 e.1 = g e.2 e.1) : netL es f = netL es g := List.map_congr_left fun e he => by
  rw [(h e he).1, (h e he).2]
theorem setW_congr {x y : Int} : ∀ {eds : EdL} {f g : Int → Int → Option Int}, f x y = g x y → setW f eds x y = setW g eds x y
  | [], _, _, h => h
  | z :: eds, f, g, h => setW_congr (eds := eds) (by
    show (if (x, y) = z.1 then z.2 else f x y) = if (x, y) = z.1 then z.2 else g x y
    by_cases c : (x, y) = z.1
    · rw [if_pos c, if_pos c]
    · rw [if_neg c, if_neg c]
      exact h)
/-- the net that _law_changed tells is the session's -/
theorem changed_net {n : Int} {es : List (Int × Int)} {f : Int → Int → Option Int} {eds : EdL} (h : EndsOk n es) : netL (endsL (netL es f)) (setW (linkW (netL es f)) eds) = netL es (setW f eds) := by
  rw [ends_net]
  refine netL_congr fun e he => ⟨setW_congr ?_, setW_congr ?_⟩
  · rw [linkW_net h, if_pos (.inl he)]
  · rw [linkW_net h, if_pos (.inr he)]
theorem domU_map {eds : EdL} {p : Int × Int} : domU eds p = decide (p ∈ eds.map (·.1)) := by
  unfold domU
  rw [Bool.eq_iff_iff, List.any_eq_true, decide_eq_true_eq, List.mem_map]
  constructor
  · rintro ⟨z, hz, e⟩
    exact ⟨z, hz, of_decide_eq_true e⟩
  · rintro ⟨z, hz, e⟩
    exact ⟨z, hz, decide_eq_true e⟩
/-- the law's list of ways looked at, and the session's -/
theorem look_eq {L : List (Int × Int)} {os : List Int} {eds : EdL} {f0 f1 : Int → Int → Option Int × Option Int} : (wysL L).filter (lookF L os (eds.map (·.1)) ((wysL L).filter (chB f0 f1))) = (wysL L).filter (lkB L os (domU eds) f0 f1) := by
  refine List.filter_congr fun p hp => ?_
  unfold lookF lkB
  rw [domU_map]
  congr 1
  unfold nearL
  have e : ∀ w, w ∈ lowerL L os p.1 p.2 → (decide ((p.1, w) ∈ (wysL L).filter (chB f0 f1)) || decide ((w, p.2) ∈ (wysL L).filter (chB f0 f1))) = (chB f0 f1 (p.1, w) || chB f0 f1 (w, p.2)) := fun w hw => by
    obtain ⟨_, h1, h2⟩ := mem_lowerL.mp hw
    have a1 : decide ((p.1, w) ∈ (wysL L).filter (chB f0 f1)) = chB f0 f1 (p.1, w) := by
      rw [Bool.eq_iff_iff, decide_eq_true_eq, List.mem_filter]
      exact ⟨fun h => h.2, fun h => ⟨mem_wys.mpr (.inr h1), h⟩⟩
    have a2 : decide ((w, p.2) ∈ (wysL L).filter (chB f0 f1)) = chB f0 f1 (w, p.2) := by
      rw [Bool.eq_iff_iff, decide_eq_true_eq, List.mem_filter]
      exact ⟨fun h => h.2, fun h => ⟨mem_wys.mpr (.inl h2), h⟩⟩
    rw [a1, a2]
  rw [Bool.eq_iff_iff, Bool.not_eq_true', List.any_eq_true]
  constructor
  · intro h
    cases hf : (lowerL L os p.1 p.2).filter fun w => decide ((p.1, w) ∈ (wysL L).filter (chB f0 f1)) || decide ((w, p.2) ∈ (wysL L).filter (chB f0 f1)) with
    | nil =>
      rw [hf] at h
      cases h
    | cons w r =>
      have hm := List.mem_filter.mp (show w ∈ (lowerL L os p.1 p.2).filter _ by rw [hf]; exact List.mem_cons_self)
      exact ⟨w, hm.1, by rw [← e w hm.1]; exact hm.2⟩
  · rintro ⟨w, hw, h⟩
    have hm : w ∈ (lowerL L os p.1 p.2).filter fun w => decide ((p.1, w) ∈ (wysL L).filter (chB f0 f1)) || decide ((w, p.2) ∈ (wysL L).filter (chB f0 f1)) := List.mem_filter.mpr ⟨hw, by rw [e w hw]; exact h⟩
    cases hf : (lowerL L os p.1 p.2).filter fun w => decide ((p.1, w) ∈ (wysL L).filter (chB f0 f1)) || decide ((w, p.2) ∈ (wysL L).filter (chB f0 f1)) with
    | nil =>
      rw [hf] at hm
      cases hm
    | cons _ _ => rfl
/-! ### edits together: values, shapes -/
theorem setW_mapne {e : (Int × Int) × Option Int} {x y : Int} (h : (x, y) ≠ e.1) : ∀ {vs : EdL} {f g : Int → Int → Option Int}, f x y = g x y → setW f (vs.map fun z => if z.1 = e.1 then (z.1, e.2) else z) x y = setW g vs x y := fun {vs} => by
  induction vs with
  | nil => exact fun h => h
  | cons z vs ih =>
    intro f g hfg
    refine ih (f := fun a b => if (a, b) = (if z.1 = e.1 then (z.1, e.2) else z).1 then (if z.1 = e.1 then (z.1, e.2) else z).2 else f a b) (g := fun a b => if (a, b) = z.1 then z.2 else g a b) ?_
    by_cases c : z.1 = e.1
    · simp only [c, if_true]
      rw [if_neg h, if_neg h]
      exact hfg
    · simp only [c, if_false]
      by_cases d : (x, y) = z.1
      · rw [if_pos d, if_pos d]
      · rw [if_neg d, if_neg d]
        exact hfg
theorem setW_putE {vs : EdL} {e : (Int × Int) × Option Int} {lk : Int → Int → Option Int} (nd : (vs.map (·.1)).Nodup) (x y : Int) : setW lk (putE vs e) x y = if (x, y) = e.1 then e.2 else setW lk vs x y := by
  unfold putE
  by_cases c : (vs.any fun z => decide (z.1 = e.1)) = true
  · rw [if_pos c]
    by_cases d : (x, y) = e.1
    · rw [if_pos d]
      obtain ⟨z, hz, hze⟩ := List.any_eq_true.mp c
      have hze := of_decide_eq_true hze
      refine setW_in (by
        rw [List.map_map]
        have : (vs.map ((fun z : (Int × Int) × Option Int => z.1) ∘ fun z => if z.1 = e.1 then (z.1, e.2) else z)) = vs.map (·.1) := List.map_congr_left fun z _ => by
          show (if z.1 = e.1 then (z.1, e.2) else z).1 = z.1
          split <;> rfl
        rw [this]
        exact nd) (List.mem_map.mpr ⟨z, hz, by rw [if_pos hze, hze, ← d]⟩)
    · rw [if_neg d]
      exact setW_mapne d rfl
  · rw [if_neg c, setW_snoc]
theorem domU_putE {vs : EdL} {e : (Int × Int) × Option Int} (p : Int × Int) : domU (putE vs e) p = (domU vs p || decide (e.1 = p)) := by
  unfold putE
  by_cases c : (vs.any fun z => decide (z.1 = e.1)) = true
  · rw [if_pos c]
    obtain ⟨z, hz, hze⟩ := List.any_eq_true.mp c
    have hze := of_decide_eq_true hze
    have e1 : domU (vs.map fun z => if z.1 = e.1 then (z.1, e.2) else z) p = domU vs p := by
      unfold domU
      rw [List.any_map]
      congr 1
      funext w
      show decide ((if w.1 = e.1 then (w.1, e.2) else w).1 = p) = _
      congr 1
      split <;> rfl
    rw [e1]
    by_cases d : e.1 = p
    · have : domU vs p = true := List.any_eq_true.mpr ⟨z, hz, decide_eq_true (hze.trans d)⟩
      rw [this]
      rfl
    · rw [decide_eq_false d, Bool.or_false]
  · rw [if_neg c]
    unfold domU
    rw [List.any_append]
    congr 1
    show (decide (e.1 = p) || false) = _
    rw [Bool.or_false]
theorem valE_eq {es : List (Int × Int)} {lk : Int → Int → Option Int} : ∀ {n : Nat} {eds : EdL}, eds.length = n → (∀ e ∈ eds, okE es e = true) → (∀ x y, setW lk (valE eds) x y = setW lk eds x y) ∧ ∀ p, domU (valE eds) p = domU eds p
  | 0, eds, h, _ => by
    rw [List.length_eq_zero_iff.mp h]
    exact ⟨fun _ _ => rfl, fun _ => rfl⟩
  | n + 1, eds, h, hk => by
    have hne : eds ≠ [] := fun z => by rw [z] at h; cases h
    have e : eds = eds.dropLast ++ [eds.getLast hne] := (List.dropLast_concat_getLast hne).symm
    have hkd : ∀ e ∈ eds.dropLast, okE es e = true := fun e he => hk e (List.dropLast_subset _ he)
    have hld : eds.dropLast.length = n := by rw [List.length_dropLast, h]; rfl
    have ih := valE_eq (es := es) (lk := lk) hld hkd
    have nd := (valE_ok hld hkd).1.nd
    generalize eds.getLast hne = z at e
    generalize eds.dropLast = fs at e ih nd
    rw [e, valE_snoc]
    refine ⟨fun x y => ?_, fun p => ?_⟩
    · rw [setW_putE nd, setW_snoc, ih.1]
    · rw [domU_putE, ih.2]
      unfold domU
      rw [List.any_append]
      congr 1
      show _ = (decide (z.1 = p) || false)
      rw [Bool.or_false]
theorem layAll {α : Type} (f : α → PyData) (h : ∀ x, (f x).canLay0 = true ∧ (f x).depth = 1) : ∀ xs : List α, PyData.canLayAll0 (xs.map f) = true ∧ PyData.depthAll (xs.map f) ≤ 1
  | [] => ⟨rfl, Nat.zero_le _⟩
  | x :: xs => by
    have ih := layAll f h xs
    constructor
    · show ((f x).canLay0 && PyData.canLayAll0 (xs.map f)) = true
      rw [(h x).1, ih.1]
      rfl
    · show max (f x).depth (PyData.depthAll (xs.map f)) ≤ 1
      rw [(h x).2]
      have := ih.2
      omega
theorem shapedL {α : Type} (f : α → PyData) (h : ∀ x, (f x).canLay0 = true ∧ (f x).depth = 1) (xs : List α) : SeqAt.shaped (.list (xs.map f)) = true := by
  have h1 := layAll f h xs
  show (PyData.canLayAll0 (xs.map f) && decide (PyData.depthAll (xs.map f) + 1 ≤ 64)) = true
  rw [h1.1]
  refine decide_eq_true ?_
  have := h1.2
  omega
theorem shapedW {α : Type} (f : α → PyData) (h : ∀ x, (f x).canLay0 = true ∧ (f x).depth = 1) {w : Str} (hw : (PyData.str w).canLay0 = true) (hd : (PyData.str w).depth = 0) (xs : List α) : SeqAt.shaped (.tuple [.str w, .list (xs.map f)]) = true := by
  have h1 := layAll f h xs
  show (((PyData.str w).canLay0 && (PyData.canLayAll0 (xs.map f) && true)) && decide (max (PyData.str w).depth (max (PyData.depthAll (xs.map f) + 1) 0) + 1 ≤ 64)) = true
  rw [h1.1, hw, hd]
  refine decide_eq_true ?_
  have := h1.2
  omega
theorem lay_ed (e : (Int × Int) × Option Int) : (edD e).canLay0 = true ∧ (edD e).depth = 1 := by
  have h1 := lay_o e.2
  constructor
  · show (true && (true && ((oD e.2).canLay0 && true))) = true
    rw [h1.1]
    rfl
  · show max 0 (max 0 (max (oD e.2).depth 0)) + 1 = 1
    rw [h1.2]
    rfl
theorem lay_chg (f0 f1 : Int → Int → Option Int × Option Int) (p : Int × Int) : (chgD f0 f1 p).canLay0 = true ∧ (chgD f0 f1 p).depth = 1 := lay_lnkS (chgK f0 f1 p)
theorem NT.eds {K : PySem.W.Frag} {as : List Addr} {H : Hp} (n : NT as H) : ∀ {eds : EdL} {ts : List V}, DpAll K H ts (eds.map edD) → DpAll K (buts as H) ts (eds.map edD)
  | [], _, .nil => .nil
  | e :: eds, _ :: _, .cons h1 h2 => .cons (by
    obtain ⟨t, rfl, ht⟩ := Dp.ed_inv h1
    exact .tup (n.sqt ht) (.cons (.int _) (.cons (.int _) (.cons (Dp.o _) .nil)))) (NT.eds n h2)
/-! ### undo -/
abbrev sSUndo : Stmt := inClass (topS 28) 3
theorem scSUndo : FnScope ["self"] ["self"] (defScope sSUndo) := ⟨rfl, rfl, rfl, by decide +kernel, rfl, by decide +kernel, by decide +kernel⟩
def SesA.put (A : SesA) (us : List Addr) : SesA := ⟨A.p, A.dx, A.lk, A.pr, A.mi, A.un, A.lo, us⟩
def SesS.put (S : SesS) (und : List EdL) : SesS := ⟨S.n, S.es, S.os, S.lk, S.rows, S.look, und⟩
/-- what a call that takes edits back promises: the dict of old prices may be locked -/
def UdOut (K : PySem.W.Frag) (CS : Addr) (A A' : SesA) (S S' : SesS) (a : Addr) (u : EdL) (H : Hp) (Q : VK) : Prop := ∀ H' q ts rows', H q = none → H' q = some (.lst ts) → DpAll K (buts (q :: A.m) H') ts ((chgL S rows').map (chgD (wv S.rows) (wv rows'))) → Same (buts (a :: A.m) H) (buts (q :: a :: A.m) H') → Rd H' a (.dT (undK u)) → KeepP CS H H' A S (S'.mend u rows') → SesAt CS (but H' q) A' (S'.mend u rows') → Q (.ref q) H'
def spSUndo (K : PySem.W.Frag) (CS CU : Addr) : Sp := fun vs H Q E => ∃ (A : SesA) (S : SesS), vs = [.ref A.p] ∧ SesAt CS H A S ∧ (∀ u ∈ S.und, u.length ≤ 2000) ∧ (S.und = [] → RaiseTo E H CU 0) ∧
  ∀ us a und u, A.us = us ++ [a] → S.und = und ++ [u] → UdOut K CS A (A.put us) S (S.put und) a u H Q
theorem UnAt.pop {G : Hp} {a : Addr} {u : EdL} : ∀ {as : List Addr} {us : List EdL}, UnAt G (as ++ [a]) (us ++ [u]) → UnAt G as us ∧ Rd G a (.dT (undK u))
  | [], [], .cons h _ => ⟨.nil, h⟩
  | [], _ :: us, .cons _ h => by
    have : ([] : List Addr).length = (us ++ [u]).length := h.len
    simp at this
  | _ :: as, [], .cons _ h => by
    have : (as ++ [a]).length = ([] : List EdL).length := h.len
    simp at this
  | _ :: as, _ :: us, .cons h1 h2 => ⟨.cons h1 (UnAt.pop h2).1, (UnAt.pop h2).2⟩
theorem SesAt.pop {CS : Addr} {H : Hp} {A : SesA} {S : SesS} (h : SesAt CS H A S) {us : List Addr} {a : Addr} {und : List EdL} {u : EdL} (e1 : A.us = us ++ [a]) (e2 : S.und = und ++ [u]) : SesAt CS (upd H A.un (.lst (us.map V.ref))) (A.put us) (S.put und) := by
  obtain ⟨d1, d2, d3, d4, d5, d6, d7, d8, d9, d10⟩ := SesA.dist h.nd
  have am := A.mem
  obtain ⟨ro, en, pa, ab, lkd, i1, i2, ts, i3, i4⟩ := h.im
  have eb : buts A.m (upd H A.un (.lst (us.map V.ref))) = buts A.m H := buts_upd am.2.2.2.2
  refine ⟨h.ok, h.eok, h.pok, h.oo, h.fl, h.nd, fun z => ?_, ⟨ro, en, pa, ab, lkd, by show upd H A.un _ A.p = _; rw [upd_ne d4]; exact i1, ?_, ts, ?_, ?_⟩, let ⟨k, e, d⟩ := h.lk; ⟨k, by show upd H A.un _ A.lk = _; rw [upd_ne d7]; exact e, d⟩, let ⟨k, e, d⟩ := h.pr; ⟨k, by show upd H A.un _ A.pr = _; rw [upd_ne d9]; exact e, d⟩, let ⟨k, e, d⟩ := h.mi; ⟨k, by show upd H A.un _ A.mi = _; rw [upd_ne d10]; exact e, d⟩, upd_same, ?_, fun u' hu' => h.uok u' (by rw [e2]; exact List.mem_append.mpr (.inl hu'))⟩
  · exact h.nlo (by rw [e1]; exact List.mem_append.mpr (.inl z))
  · show SesI (buts A.m (upd H A.un _)) _ _ _ _ _ _ _ _
    rw [eb]
    exact i2
  · show buts A.m (upd H A.un _) lkd = _
    rw [eb]
    exact i3
  · show TupsAt (buts A.m (upd H A.un _)) _ _
    rw [eb]
    exact i4
  · show UnAt (buts A.m (upd H A.un _)) _ _
    rw [eb]
    have := h.ud
    rw [e1, e2] at this
    exact this.pop.1
theorem te_pop {K : PySem.W.Frag} {σ : L2.St} {H : Hp} {ta : TE} {l : Addr} {xs : List V} {y : V} {Q : VK} (ho : Vl ta σ H (.ref l)) (hl : H l = some (.lst xs)) (hy : xs[xs.length - 1]? = some y) (q : Q y (upd H l (.lst xs.dropLast))) : tBM0 K "list" rPop ta σ H Q := ho _ ⟨.inl ⟨rfl, _, .inl (.inl hl)⟩, l, xs, y, rfl, rfl, hl, hy, q⟩
theorem tru_lst {K : PySem.W.Frag} {H : Hp} {a : Addr} {xs : List V} {k : Bool} (h : H a = some (.lst xs)) (e : k = !xs.isEmpty) : TruV K (.ref a) H k := .inl ⟨xs, .of h, e⟩
section
variable {P : Program} {w : World} {K : PySem.W.Frag} {mg : Str → Option Value} {base : Heap} {CS CU fI : Addr}
theorem ok_sUndo {f : Addr} {fd : FuncData} {k k1 : Nat} (l1 : k1 ≤ k) (F : Fun K "undo" "Session.undo" sSUndo f fd) (T : SesT K CS) (hN : PySem.LowX.LowTxt K mg "NothingToUndo" CU fI) (cs_mend : KalM P w K mg base k1 CS "_mend" ["self", "values"] (spSMend K CS)) : FnOk P w K mg base (L2.CX P w) (k + 1) f fd ["self"] (spSUndo K CS CU) := by
  refine F.okX scSUndo (fun vs H Q E h => ?_) (fun cdv A outer s H vs Q E hr h => ?_)
  · obtain ⟨A, S, rfl, _⟩ := h
    rfl
  · obtain ⟨A, S, rfl, hS, hul, q1, q2⟩ := h
    have hu := hu_of hr
    refine ⟨_, pss_cons (ps_if (pt_not (pt_truth (pe_fld (pv 0) rfl) (by intro _; rfl)))
      (pss_one (ps_raiseLow rfl hN hr (takes_of rfl rfl rfl rfl) (by exact (pa_cons pe_int pa_nil))))
      pss_nil)
      (pss_one (ps_ret (pe_m cs_mend hr (by first | decide | omega) (pv 0) (pa_cons (pe_bm0 PySem.F.plainAttrs_list PySem.F.slot_list_pop PySem.F.type_list_pop mt_pop (pe_fld (pv 0) rfl)) pa_nil)))), ?_⟩
    obtain ⟨ro, en, pa, ab, lkd, e1, e2, ts, e3, e4⟩ := hS.im
    have hun := hS.un
    have lus := hS.ud.len
    refine q_when (b := decide (A.us = [])) (fun Q q => (vl_ses T 10 e1 (vl_var rfl) rfl (by decide +kernel) (by decide +kernel)) _ ⟨!decide (A.us = []), ?_, by show Q (!!decide (A.us = [])) H; rw [Bool.not_not]; exact q⟩) (fun c => ?_) (fun c => ?_)
    · refine tru_lst hun ?_
      cases A.us <;> rfl
    · have c := of_decide_eq_true c
      have : S.und = [] := List.length_eq_zero_iff.mp (by rw [← lus, c]; rfl)
      exact raise_now (va_cons vl_c va_nil) (q1 this)
    · have c : A.us ≠ [] := of_decide_eq_false c
      have cu : S.und ≠ [] := fun z => c (List.length_eq_zero_iff.mp (by rw [lus, z]; rfl))
      have eus : A.us = A.us.dropLast ++ [A.us.getLast c] := (List.dropLast_concat_getLast c).symm
      have eun : S.und = S.und.dropLast ++ [S.und.getLast cu] := (List.dropLast_concat_getLast cu).symm
      generalize A.us.getLast c = a at eus
      generalize S.und.getLast cu = u at eun
      have q2 := q2 _ a _ u eus eun
      have hp := hS.pop eus eun
      have hud := hS.ud
      rw [eus, eun] at hud
      obtain ⟨hu1, hra⟩ := hud.pop
      have hUo : UOk S.es u := hS.uok u (by rw [eun]; exact List.mem_append.mpr (.inr List.mem_cons_self))
      have hul' : u.length ≤ 2000 := hul u (by rw [eun]; exact List.mem_append.mpr (.inr List.mem_cons_self))
      have alo : a ≠ A.lo := fun z => hS.nlo (by rw [eus, z]; exact List.mem_append.mpr (.inr List.mem_cons_self))
      have am := A.mem
      have eb : buts A.m (upd H A.un (.lst (A.us.dropLast.map V.ref))) = buts A.m H := buts_upd am.2.2.2.2
      have hlast : (A.us.map V.ref)[(A.us.map V.ref).length - 1]? = some (.ref a) := by
        rw [eus, List.map_append, List.length_append, List.getElem?_append_right (by simp)]
        simp
      have hdl : (A.us.map V.ref).dropLast = A.us.dropLast.map V.ref := by rw [List.map_dropLast]
      obtain ⟨ro2, en2, pa2, ab2, lkd2, e12, _⟩ := hp.im
      have nun : ∀ x, upd H A.un (.lst (A.us.dropLast.map V.ref)) x = none → H x = none := fun x e => by
        by_cases z : x = A.un
        · rw [z, upd_same] at e
          cases e
        · rwa [upd_ne z] at e
      refine ⟨.ref A.p, rfl, A.p, _, _, rfl, e1, fldZ_no (by decide +kernel), ?_⟩
      refine te_pop (vl_ses T 10 e1 (vl_var rfl) rfl (by decide +kernel) (by decide +kernel)) hun hlast ?_
      rw [hdl]
      have hra2 : Rd (buts A.m (upd H A.un (.lst (A.us.dropLast.map V.ref)))) a (.dT (undK u)) := by
        rw [eb]
        exact hra
      have sbb : ∀ x u', buts (a :: A.m) H x = some u' → buts (a :: A.m) (upd H A.un (.lst (A.us.dropLast.map V.ref))) x = some u' := fun x u' e => by
        rw [buts_upd (List.mem_cons_of_mem _ am.2.2.2.2)]
        exact e
      have hp3 : ∀ u, H A.p = some u → upd H A.un (.lst (A.us.dropLast.map V.ref)) A.p = some u := fun u e => by
        rw [upd_ne (SesA.dist hS.nd).2.2.2.1]
        exact e
      generalize upd H A.un (.lst (A.us.dropLast.map V.ref)) = H2 at hp e12 nun hra2 sbb hp3
      exact ⟨A.put A.us.dropLast, S.put S.und.dropLast, a, u, rfl, hp, hra2, hUo, alo, hul', fun H' q ts' rows' nq eq hd fr rda kp hS' => q2 H' q ts' rows' (nun q nq) eq hd (fun x u' e => fr x u' (sbb x u' e)) rda (fun ro en pa ab lkd e => let ⟨ld, n, e'⟩ := kp ro en pa ab lkd (hp3 _ e); ⟨ld, nun _ n, e'⟩) hS'⟩
end
/-! ### copy -/
abbrev sSCopy : Stmt := inClass (topS 28) 9
theorem scSCopy : FnScope ["self", "other"] ["self"] (defScope sSCopy) := ⟨rfl, rfl, rfl, by decide +kernel, rfl, by decide +kernel, by decide +kernel⟩
/-- a copy: what it is made of, its prices told by the net's links -/
def SesS.twin (S : SesS) : SesS := ⟨S.n, S.es, S.os, linkW S.N.ls, S.rows, S.look, S.und⟩
def spSCopy (CS : Addr) : Sp := fun vs H Q _ => ∃ (A : SesA) (S : SesS), vs = [.ref A.p] ∧ SesAt CS H A S ∧ S.und.length ≤ 1000 ∧
  ∀ H' A', Same H (buts A'.m H') → (∀ a, a ∈ A'.m → H a = none) → H A'.lo = none → A'.us = A.us → SesAt CS (unl H H') A' S.twin → Q (.ref A'.p) H'
theorem SesS.twin_N {S : SesS} (ok : NetOk S.N) : S.twin.N = S.N := by
  show (⟨S.n, netL S.es (linkW S.N.ls)⟩ : Net) = S.N
  have h := net_self ok
  have e : endsL S.N.ls = S.es := ends_net
  rw [e] at h
  rw [h]
  rfl
/-- lists anew for the ways looked at and the old prices -/
theorem SesAt.setTwo {CS : Addr} {H H2 : Hp} {A : SesA} {S : SesS} (h : SesAt CS H A S) {ro en pa ab lkd nl nu : Addr} (hp : H A.p = some (.ins CS A.dx (fldZ sesN (sesV S A ro en pa ab lkd)))) (hI : SesI (buts A.m H) S.N.ls S.es S.os ro en pa ab A.lo) {tl : List V} {L : List (Int × Int)} {us : List Addr} {und : List EdL}
    (s : ∀ a u, a ≠ A.p → H a = some u → H2 a = some u) (ep : H2 A.p = some (.ins CS A.dx (fldZ sesN (sesV S ⟨A.p, A.dx, A.lk, A.pr, A.mi, nu, A.lo, us⟩ ro en pa ab nl)))) (nl0 : H nl = none) (nu0 : H nu = none) (hnn : nl ≠ nu) (el : H2 nl = some (.lst tl)) (eu : H2 nu = some (.lst (us.map V.ref)))
    (hT : TupsAt (buts [A.p, A.lk, A.pr, A.mi, nu] H2) tl L) (hU : UnAt (buts [A.p, A.lk, A.pr, A.mi, nu] H2) us und) (uo : ∀ u, u ∈ und → UOk S.es u) (nlo : A.lo ∉ us) :
    SesAt CS H2 ⟨A.p, A.dx, A.lk, A.pr, A.mi, nu, A.lo, us⟩ ⟨S.n, S.es, S.os, S.lk, S.rows, L, und⟩ := by
  obtain ⟨d1, d2, d3, d4, d5, d6, d7, d8, d9, d10⟩ := SesA.dist h.nd
  obtain ⟨k1, f1, g1⟩ := h.lk
  obtain ⟨k2, f2, g2⟩ := h.pr
  obtain ⟨k3, f3, g3⟩ := h.mi
  have nup : nu ≠ A.p := fun z => by rw [z, hp] at nu0; cases nu0
  have nul : nu ≠ A.lk := fun z => by rw [z, f1] at nu0; cases nu0
  have nur : nu ≠ A.pr := fun z => by rw [z, f2] at nu0; cases nu0
  have num : nu ≠ A.mi := fun z => by rw [z, f3] at nu0; cases nu0
  have nlm : nl ∉ [A.p, A.lk, A.pr, A.mi, nu] := fun z => by
    simp only [List.mem_cons, List.not_mem_nil, or_false] at z
    rcases z with z | z | z | z | z
    · rw [z, hp] at nl0; cases nl0
    · rw [z, f1] at nl0; cases nl0
    · rw [z, f2] at nl0; cases nl0
    · rw [z, f3] at nl0; cases nl0
    · exact hnn z
  have sI : Same (buts A.m H) (buts [A.p, A.lk, A.pr, A.mi, nu] H2) := fun a u e => by
    obtain ⟨n, e'⟩ := buts_no e
    unfold SesA.m at n
    simp only [List.mem_cons, List.not_mem_nil, or_false, not_or] at n
    rw [buts_ne fun z => by
      simp only [List.mem_cons, List.not_mem_nil, or_false] at z
      rcases z with z | z | z | z | z
      · exact n.1 z
      · exact n.2.1 z
      · exact n.2.2.1 z
      · exact n.2.2.2.1 z
      · rw [z, nu0] at e'; cases e']
    exact s a u n.1 e'
  refine ⟨h.ok, h.eok, h.pok, h.oo, h.fl, ?_, nlo, ⟨ro, en, pa, ab, nl, ep, hI.to sI, tl, ?_, hT⟩, ⟨k1, s _ _ (fun z => d1 z.symm) f1, g1⟩, ⟨k2, s _ _ (fun z => d2 z.symm) f2, g2⟩, ⟨k3, s _ _ (fun z => d3 z.symm) f3, g3⟩, eu, hU, uo⟩
  · show ([A.p, A.lk, A.pr, A.mi, nu] : List Addr).Nodup
    simp [d1, d2, d3, d5, d6, d8]
    exact ⟨fun z => nup z.symm, fun z => nul z.symm, fun z => nur z.symm, fun z => num z.symm⟩
  · show buts [A.p, A.lk, A.pr, A.mi, nu] H2 nl = _
    rw [buts_ne nlm]
    exact el
theorem UnAt.usd {G : Hp} {a : Addr} : ∀ {as : List Addr} {us : List EdL}, UnAt G as us → a ∈ as → ∃ u, Rd G a (.dT (undK u))
  | _ :: _, u :: _, .cons h1 h2, ha => by
    rcases List.mem_cons.mp ha with rfl | ha
    · exact ⟨u, h1⟩
    · exact UnAt.usd h2 ha
section
variable {P : Program} {w : World} {K : PySem.W.Frag} {mg : Str → Option Value} {base : Heap} {CS : Addr}
theorem ok_sCopy {f : Addr} {fd : FuncData} {k k1 k2 : Nat} (l1 : k1 + 1 ≤ k) (l2 : k2 ≤ k) (F : Fun K "copy" "Session.copy" sSCopy f fd) (T : SesT K CS) (c_Session : KalC P w K mg base k1 CS "Session" ["self", "net", "order"] (spSInit K CS)) (cs_net : KalM P w K mg base k2 CS "net" ["self"] (spSNet K CS)) (mL : mg "list" = none) : FnOk P w K mg base CX0 (k + 1) f fd ["self"] (spSCopy CS) := by
  refine F.ok scSCopy (fun vs H Q E h => ?_) (fun cdv A outer s H vs Q E hr h => ?_)
  · obtain ⟨A, S, rfl, _⟩ := h
    rfl
  · obtain ⟨A, S, rfl, hS, lund, q⟩ := h
    have hu := hu_of hr
    refine ⟨_, pss_cons (ps_set (i := 1) scSCopy.nd rfl (.inl rfl) (pe_mk c_Session hr (by first | decide | omega) (by rfl) (pa_cons (pe_m0 cs_net hr (by first | decide | omega) (pv 0)) (pa_cons (pe_fld (pv 0) rfl) pa_nil))))
      (pss_cons (ps_fld (pv 1) (pe_callTy call_list_of (by rfl) mL (by decide +kernel) (pa_cons (pe_fld (pv 0) rfl) pa_nil)) rfl)
      (pss_cons (ps_fld (pv 1) (pe_callTy call_list_of (by rfl) mL (by decide +kernel) (pa_cons (pe_fld (pv 0) rfl) pa_nil)) rfl)
      (pss_one (ps_ret (pv 1))))), ?_⟩
    obtain ⟨ro, en, pa, ab, lkd, e1, e2, ts, e3, e4⟩ := hS.im
    have hro := buts_same _ _ e2.ro
    refine q_asgE ⟨.ref A.p, rfl, A.p, _, _, rfl, e1, fldZ_no (by decide +kernel), A, S, rfl, hS, fun H1 p1 q1 ts1 s1 np nq ep eq hd1 => (vl_ses T 1 (s1 _ _ e1) (vl_var rfl) rfl (by decide +kernel) (by decide +kernel)) _ fun px dx npx ndx nexp => ?_⟩
    have ep6 := upd_same (H := upd H1 dx (.own px)) (a := px) (o := .ins CS dx [])
    have sb : Same H1 (but (upd (upd H1 dx (.own px)) px (.ins CS dx [])) px) := by
      rw [but_upd]
      exact same_but (same_upd ndx) npx
    generalize upd (upd H1 dx (.own px)) px (.ins CS dx []) = H6 at ep6 sb
    refine ⟨px, dx, ro, .ref p1, S.N, S.os, rfl, ep6, .tup (.of (sb _ _ ep)) (.cons (.int _) (.cons (.lst (.of (sb _ _ eq)) (DpAll.to hd1 (but_same.trans sb))) .nil)), hS.ok, sb _ _ (s1 _ _ hro), hS.oo, fun H7 B rows pB dB uB fr7 new7 hS7 => ⟨rfl, ?_⟩⟩
    subst pB
    subst dB
    have hB := hS7.to (fun x u e => (unl_at e).2 : Same _ H7)
    have s17 : Same H (buts B.m H7) := s1.trans (sb.trans fr7)
    have s17' := s17.trans buts_same
    have s16 : Same H H6 := s1.trans (sb.trans but_same)
    have hes : endsL S.N.ls = S.es := ends_net
    have hrow : rows = S.rows := by
      have h1 : FillOk ⟨S.n, netL (endsL S.N.ls) (linkW S.N.ls)⟩ S.os rows := hB.fl
      rw [net_self hS.ok] at h1
      exact fill_uniqueS hS.ok hS.oo h1 hS.fl
    have hnp : H B.p = none := Same.free s1 npx
    have hlo0 : B.lo ≠ B.p := fun z => by
      obtain ⟨_, _, _, _, _, _, g2, _⟩ := hB.im
      obtain ⟨kvs, g3, _⟩ := g2.lo
      exact (buts_no g3).1 (by rw [z]; exact B.mem.1)
    have fr0 : ∀ a, a ∈ B.lo :: B.m → H a = none := fun a ha => by
      by_cases c : a = B.p
      · rw [c]
        exact hnp
      · exact Same.free s16 (new7 a ha c)
    have hlo : H B.lo = none := fr0 _ List.mem_cons_self
    have nlo : B.lo ∉ A.us := fun z => by
      obtain ⟨u, hr9⟩ := hS.ud.usd z
      rcases hr9 with e | ⟨o, e⟩ <;> rw [buts_same _ _ e] at hlo <;> cases hlo
    have hB' : SesAt CS (unl H H7) B ⟨S.N.n, endsL S.N.ls, S.os, linkW S.N.ls, rows, [], []⟩ := hS7.to fun x u e => by
      obtain ⟨n, e7⟩ := unl_at e
      exact unl_not (fun xs z => n xs (sb _ _ (s1 _ _ z))) e7
    obtain ⟨ro', en', pa', ab', lkd', f1u, f2, _⟩ := hB'.im
    have f1 := (unl_at f1u).2
    have eA7 := s17' _ _ e1
    have hAB : A.p ≠ B.p := fun z => by rw [← z, e1] at hnp; cases hnp
    refine q_fldS ((vl_ses T 9 eA7 (vl_var rfl) rfl (by decide +kernel) (by decide +kernel)) _ ⟨lkd, ts, rfl, .inl (.of (s17' _ _ (buts_same _ _ e3))), fun nl nnl => ⟨.ref B.p, rfl, B.p, CS, B.dx, _, rfl, same_upd nnl _ _ f1, T.cl, T.no _ (by decide +kernel), by show 11 < 1000; decide, ?_⟩⟩)
    rw [fldZ_put (i := 9) (by decide +kernel) (by show 9 < 11; decide)]
    have k8 : ∀ {x u}, x ≠ B.p → H7 x = some u → upd (upd H7 nl (.lst ts)) B.p (.ins CS B.dx (fldZ sesN ((sesV ⟨S.N.n, endsL S.N.ls, S.os, linkW S.N.ls, rows, [], []⟩ B ro' en' pa' ab' lkd').set 9 (.ref nl)))) x = some u := fun {x u} n e => by
      rw [upd_ne n]
      exact same_upd nnl _ _ e
    have nlp : nl ≠ B.p := fun z => by rw [z, f1] at nnl; cases nnl
    have el8 : upd (upd H7 nl (.lst ts)) B.p (.ins CS B.dx (fldZ sesN ((sesV ⟨S.N.n, endsL S.N.ls, S.os, linkW S.N.ls, rows, [], []⟩ B ro' en' pa' ab' lkd').set 9 (.ref nl)))) nl = some (.lst ts) := by
      rw [upd_ne nlp]
      exact upd_same
    have ep8 : upd (upd H7 nl (.lst ts)) B.p (.ins CS B.dx (fldZ sesN ((sesV ⟨S.N.n, endsL S.N.ls, S.os, linkW S.N.ls, rows, [], []⟩ B ro' en' pa' ab' lkd').set 9 (.ref nl)))) B.p = some (.ins CS B.dx (fldZ sesN ((sesV ⟨S.N.n, endsL S.N.ls, S.os, linkW S.N.ls, rows, [], []⟩ B ro' en' pa' ab' lkd').set 9 (.ref nl)))) := upd_same
    have n8 : ∀ {x}, upd (upd H7 nl (.lst ts)) B.p (.ins CS B.dx (fldZ sesN ((sesV ⟨S.N.n, endsL S.N.ls, S.os, linkW S.N.ls, rows, [], []⟩ B ro' en' pa' ab' lkd').set 9 (.ref nl)))) x = none → H7 x = none := fun {x} e => by
      by_cases c : x = B.p
      · rw [c, upd_same] at e
        cases e
      · rw [upd_ne c] at e
        exact Same.free (same_upd nnl) e
    generalize upd (upd H7 nl (.lst ts)) B.p (.ins CS B.dx (fldZ sesN ((sesV ⟨S.N.n, endsL S.N.ls, S.os, linkW S.N.ls, rows, [], []⟩ B ro' en' pa' ab' lkd').set 9 (.ref nl)))) = H8 at k8 el8 ep8 n8
    have lus := hS.ud.len
    refine q_fldS ((vl_ses T 10 (k8 hAB eA7) (vl_var rfl) rfl (by decide +kernel) (by decide +kernel)) _ ⟨A.un, A.us.map V.ref, rfl, .inl (.of (k8 (fun z => by have := s17' _ _ hS.un; rw [z, f1] at this; cases this) (s17' _ _ hS.un))), fun nu nnu => ⟨.ref B.p, rfl, B.p, CS, B.dx, _, rfl, same_upd nnu _ _ ep8, T.cl, T.no _ (by decide +kernel), by show 11 < 1000; decide, ?_⟩⟩)
    rw [fldZ_put (i := 10) (by decide +kernel) (by show 10 < 11; decide)]
    have nup : nu ≠ B.p := fun z => by rw [z, ep8] at nnu; cases nnu
    have nuu : nl ≠ nu := fun z => by rw [← z, el8] at nnu; cases nnu
    have nu7 := n8 nnu
    have k9 : ∀ {x u}, x ≠ B.p → H8 x = some u → upd (upd H8 nu (.lst (A.us.map V.ref))) B.p (.ins CS B.dx (fldZ sesN (((sesV ⟨S.N.n, endsL S.N.ls, S.os, linkW S.N.ls, rows, [], []⟩ B ro' en' pa' ab' lkd').set 9 (.ref nl)).set 10 (.ref nu)))) x = some u := fun {x u} n e => by
      rw [upd_ne n]
      exact same_upd nnu _ _ e
    have eu9 : upd (upd H8 nu (.lst (A.us.map V.ref))) B.p (.ins CS B.dx (fldZ sesN (((sesV ⟨S.N.n, endsL S.N.ls, S.os, linkW S.N.ls, rows, [], []⟩ B ro' en' pa' ab' lkd').set 9 (.ref nl)).set 10 (.ref nu)))) nu = some (.lst (A.us.map V.ref)) := by
      rw [upd_ne nup]
      exact upd_same
    have ep9 : upd (upd H8 nu (.lst (A.us.map V.ref))) B.p (.ins CS B.dx (fldZ sesN (((sesV ⟨S.N.n, endsL S.N.ls, S.os, linkW S.N.ls, rows, [], []⟩ B ro' en' pa' ab' lkd').set 9 (.ref nl)).set 10 (.ref nu)))) B.p = some (.ins CS B.dx (fldZ sesN (((sesV ⟨S.N.n, endsL S.N.ls, S.os, linkW S.N.ls, rows, [], []⟩ B ro' en' pa' ab' lkd').set 9 (.ref nl)).set 10 (.ref nu)))) := upd_same
    generalize upd (upd H8 nu (.lst (A.us.map V.ref))) B.p (.ins CS B.dx (fldZ sesN (((sesV ⟨S.N.n, endsL S.N.ls, S.os, linkW S.N.ls, rows, [], []⟩ B ro' en' pa' ab' lkd').set 9 (.ref nl)).set 10 (.ref nu)))) = H9 at k9 eu9 ep9
    have frm : Same H (buts [B.p, B.lk, B.pr, B.mi, nu] H9) := fun x u e => by
      obtain ⟨n, e7⟩ := buts_no (s17 _ _ e)
      unfold SesA.m at n
      simp only [List.mem_cons, List.not_mem_nil, or_false, not_or] at n
      rw [buts_ne fun z => by
        simp only [List.mem_cons, List.not_mem_nil, or_false] at z
        rcases z with z | z | z | z | z
        · exact n.1 z
        · exact n.2.1 z
        · exact n.2.2.1 z
        · exact n.2.2.2.1 z
        · rw [z, nu7] at e7; cases e7]
      exact k9 n.1 (k8 n.1 e7)
    have un0 : ∀ {x : Addr}, H7 x = none → unl H H7 x = none := fun {x} e => by
      cases h : unl H H7 x with
      | none => rfl
      | some u => rw [(unl_at h).2] at e; cases e
    have hnl : H nl = none := Same.free s17' nnl
    have hnu : H nu = none := Same.free s17' nu7
    have keepN : ∀ {x u}, H x = some u → (∀ xs, u ≠ HO.lst xs) → x ∉ [B.p, B.lk, B.pr, B.mi, nu] ∧ unl H H9 x = some u := fun {x u} e n => by
      obtain ⟨h1, h2⟩ := buts_no (frm _ _ e)
      exact ⟨h1, unl_not (fun xs z => n xs (Option.some.inj (e.symm.trans z))) h2⟩
    have hTt : TupsAt (buts [B.p, B.lk, B.pr, B.mi, nu] (unl H H9)) ts S.look := ⟨e4.len, fun i u v e => by
      obtain ⟨t, h1, h2⟩ := e4.at_ i u v e
      obtain ⟨h3, h4⟩ := keepN (buts_same _ _ h2) (fun xs z => nomatch z)
      exact ⟨t, h1, by rw [buts_ne h3]; exact h4⟩⟩
    have hUu : ∀ {as : List Addr} {us : List EdL}, UnAt (buts A.m H) as us → UnAt (buts [B.p, B.lk, B.pr, B.mi, nu] (unl H H9)) as us := fun {as us} hh => by
      induction hh with
      | nil => exact .nil
      | @cons a as u us hr _ ih =>
        refine .cons (hr.imp (fun e => ?_) fun ⟨o, e⟩ => ⟨o, ?_⟩) ih
        · obtain ⟨h3, h4⟩ := keepN (buts_same _ _ e) (fun xs z => nomatch z)
          rw [buts_ne h3]
          exact h4
        · obtain ⟨h3, h4⟩ := keepN (buts_same _ _ e) (fun xs z => nomatch z)
          rw [buts_ne h3]
          exact h4
    have hfin := SesAt.setTwo (us := A.us) (und := S.und) (L := S.look) hB' f1u f2 (H2 := unl H H9) (nl := nl) (nu := nu) (tl := ts) (fun a u n e => by
      obtain ⟨n7, e7⟩ := unl_at e
      exact unl_not n7 (k9 n (k8 n e7))) (unl_new hnp ep9) (un0 nnl) (un0 nu7) nuu (unl_new hnl (k9 nlp el8)) (unl_new hnu eu9) hTt (hUu hS.ud) (fun u hu9 => by
      show UOk (endsL S.N.ls) u
      rw [hes]
      exact hS.uok u hu9) nlo
    have etw : (⟨S.n, endsL S.N.ls, S.os, linkW S.N.ls, rows, S.look, S.und⟩ : SesS) = S.twin := by
      rw [hes, hrow]
      rfl
    refine g_ret (vl_var rfl) (q H9 ⟨B.p, B.dx, B.lk, B.pr, B.mi, nu, B.lo, A.us⟩ frm (fun a ha => ?_) hlo rfl (etw ▸ hfin))
    have ha : a ∈ [B.p, B.lk, B.pr, B.mi, nu] := ha
    simp only [List.mem_cons, List.not_mem_nil, or_false] at ha
    have bm := B.mem
    rcases ha with z | z | z | z | z
    · rw [z]; exact fr0 _ (List.mem_cons_of_mem _ bm.1)
    · rw [z]; exact fr0 _ (List.mem_cons_of_mem _ bm.2.1)
    · rw [z]; exact fr0 _ (List.mem_cons_of_mem _ bm.2.2.1)
    · rw [z]; exact fr0 _ (List.mem_cons_of_mem _ bm.2.2.2.1)
    · rw [z]
      exact Same.free s17' nu7
end
/-! ### _law_empty, _law_refused, _law_is_at -/
abbrev sLEmpty : Stmt := topS 43
abbrev sLRefusedS : Stmt := topS 44
abbrev sLIsAt : Stmt := topS 45
theorem scLEmpty : FnScope ["session", "e"] ["session"] (defScope sLEmpty) := ⟨rfl, rfl, rfl, by decide +kernel, rfl, by decide +kernel, by decide +kernel⟩
theorem scLRefusedS : FnScope ["session", "net"] ["session", "net"] (defScope sLRefusedS) := ⟨rfl, rfl, rfl, by decide +kernel, rfl, by decide +kernel, by decide +kernel⟩
theorem scLIsAt : FnScope ["session", "net", "order", "looked"] ["session", "net", "order", "looked"] (defScope sLIsAt) := ⟨rfl, rfl, rfl, by decide +kernel, rfl, by decide +kernel, by decide +kernel⟩
def spLEmpty (K : PySem.W.Frag) (CS : Addr) : Sp := fun vs H Q _ => ∃ (A : SesA) (S : SesS), vs = [.ref A.p] ∧ SesAt CS H A S ∧ S.und = [] ∧ ∀ H', Same H H' → Q (.bl true) H'
def spLIsAt (K : PySem.W.Frag) (CS : Addr) : Sp := fun vs H Q _ => ∃ (A : SesA) (S : SesS) (nv : V) (po lk : Addr) (tl : List V), vs = [.ref A.p, nv, .ref po, .ref lk] ∧ SesAt CS H A S ∧ Dp K H nv (netD S.N) ∧ SqL K H po (S.os.map V.int) ∧ H lk = some (.lst tl) ∧ TupsAt H tl S.look ∧ ∀ H', Same H H' → Q (.bl true) H'
section
variable {P : Program} {w : World} {K : PySem.W.Frag} {mg : Str → Option Value} {base : Heap} {CS CU CL CB fI : Addr}
theorem ok_lEmpty {f : Addr} {fd : FuncData} {k k1 : Nat} (l1 : k1 ≤ k) (F : Fun K "_law_empty" "_law_empty" sLEmpty f fd) (hN : PySem.LowX.LowTxt K mg "NothingToUndo" CU fI) (cs_undo : KalMX P w K mg base k1 CS "undo" ["self"] (spSUndo K CS CU)) : FnOk P w K mg base CX0 (k + 1) f fd ["session"] (spLEmpty K CS) := by
  refine F.ok scLEmpty (fun vs H Q E h => ?_) (fun cdv A outer s H vs Q E hr h => ?_)
  · obtain ⟨A, S, rfl, _⟩ := h
    rfl
  · obtain ⟨A, S, rfl, hS, hund, q⟩ := h
    refine ⟨_, pss_cons (ps_try_cl (tb := fun W => tDrop (tMethT CS "undo" (spSUndo K CS CU) (WE W) (tVar 0) tNil)) (Wout := fun _ _ _ _ => False) rfl rfl takes0 (fun W pn xe tk _ => (pss_one (ps_expr (pe_ms0 cs_undo hr (by first | decide | omega) tk (pv 0))))) (.named (i := 1) (ts := fun a cls d => tRet (tOp rEq (tByLow CU a cls d (tVar 1)) (tC (.int 0)))) scLEmpty.nd rfl rfl ⟨rfl, by decide, .inl hN.gC⟩ (fun a oe cls d pn hz hf => (pss_one (ps_ret (pe_cmpR op_eq (pe_byLow hN hz hf (pv 1)) pe_int (nomark _))))) .nil))
      (pss_one (ps_ret pe_bl)), ?_⟩
    obtain ⟨ro, en, pa, ab, lkd, e1, _⟩ := hS.im
    refine ⟨.ref A.p, rfl, A.p, _, _, rfl, e1, fldZ_no (by decide +kernel), A, S, rfl, hS, (fun u hu => by rw [hund] at hu; cases hu), fun _ => ?_, fun us a und u _ e => ?_⟩
    · exact fun H' d s' hd => ⟨true, hN.te, fun _ a0 _ => g_ret ((vl_eq (vl_byLow (vl_var rfl) hd) vl_c rfl).is (by rfl)) (q H' s'), fun z => nomatch z⟩
    · rw [hund] at e
      exact absurd (congrArg List.length e) (by simp)
theorem ok_lIsAt {f : Addr} {fd : FuncData} {k k1 k2 k3 k4 : Nat} (l1 : k1 ≤ k) (l2 : k2 ≤ k) (l3 : k3 ≤ k) (l4 : k4 ≤ k) (F : Fun K "_law_is_at" "_law_is_at" sLIsAt f fd) (cs_net : KalM P w K mg base k1 CS "net" ["self"] (spSNet K CS)) (cs_filling : KalM P w K mg base k2 CS "filling" ["self"] (spSFilling K CS)) (cs_looked : KalM P w K mg base k3 CS "looked" ["self"] (spSLooked K CS)) (c_fill : Kal P w K mg base k4 "fill" ["net", "order"] (spFill K)) : FnOk P w K mg base CX0 (k + 1) f fd ["session", "net", "order", "looked"] (spLIsAt K CS) := by
  refine F.ok scLIsAt (fun vs H Q E h => ?_) (fun cdv A outer s H vs Q E hr h => ?_)
  · obtain ⟨A, S, nv, po, lk, tl, rfl, _⟩ := h
    rfl
  · obtain ⟨A, S, nv, po, lk, tl, rfl, hS, hN, hO, elk, hT, q⟩ := h
    have hu := hu_of hr
    refine ⟨_, pss_one (ps_ret (pe_and (pe_cmpR (op_eqD hr.units) (pe_m0 cs_net hr (by first | decide | omega) (pv 0)) (pv 1) (nomark _)) (pe_and (pe_cmpR (op_eqD hr.units) (pe_m0 cs_filling hr (by first | decide | omega) (pv 0)) (pe_k c_fill hr (by first | decide | omega) (by rfl) (pa_cons (pv 1) (pa_cons (pv 2) pa_nil))) (nomark _)) (pe_one (pe_cmpR (op_eqD hr.units) (pe_m0 cs_looked hr (by first | decide | omega) (pv 0)) (pv 3) (nomark _)))))), ?_⟩
    obtain ⟨ro, en, pa, ab, lkd, e1, _⟩ := hS.im
    refine g_retE ⟨.ref A.p, rfl, A.p, _, _, rfl, e1, fldZ_no (by decide +kernel), A, S, rfl, hS, fun H1 p q1 ts s1 _ _ ep eq hd1 => ⟨nv, rfl, netD S.N, netD S.N, .tup (.of ep) (.cons (.int _) (.cons (.lst (.of eq) (DpAll.to hd1 but_same)) .nil)), Dp.to hN s1, shaped_net _, shaped_net _, ?_⟩⟩
    rw [eqv_net]
    refine ⟨true, rfl, iteT ⟨.ref A.p, rfl, A.p, _, _, rfl, s1 _ _ e1, fldZ_no (by decide +kernel), A, S, rfl, hS.to s1, fun H2 q2 ts2 s2 _ eq2 hd2 => ⟨nv, rfl, .ref po, rfl, nv, S.N, po, S.os, rfl, Dp.to hN (s1.trans s2), hS.ok, (s1.trans s2).seq hO, hS.oo, fun H3 q3 ts3 rows3 s3 _ eq3 hd3 hF3 => ?_⟩⟩⟩
    have er := fill_uniqueS hS.ok hS.oo hF3 hS.fl
    rw [er] at hd3
    refine ⟨.list (S.rows.map rowD), .list (S.rows.map rowD), .lst (.of (s3 _ _ eq2)) (DpAll.to hd2 (but_same.trans s3)), .lst (.of eq3) hd3, shaped_rowsS _, shaped_rowsS _, ?_⟩
    rw [refl_of (shaped_rowsS _)]
    have s13 := s1.trans (s2.trans s3)
    refine ⟨true, rfl, iteT ⟨.ref A.p, rfl, A.p, _, _, rfl, s13 _ _ e1, fldZ_no (by decide +kernel), A, S, rfl, hS.to s13, fun H4 q4 ts4 s4 _ eq4 hd4 => ⟨.ref lk, rfl, .list (S.look.map pairD2), .list (S.look.map pairD2), .lst (.of eq4) (TupsAt.dp (hd4.to but_same)), .lst (.of ((s13.trans s4) _ _ elk)) (TupsAt.dp (hT.to (s13.trans s4))), shaped_prs _, shaped_prs _, ?_⟩⟩⟩
    rw [refl_of (shaped_prs _)]
    exact q _ (s13.trans s4)
def spLRefE (K : PySem.W.Frag) (CS : Addr) : Sp := fun vs H Q _ => ∃ (A : SesA) (S : SesS) (nv : V), vs = [.ref A.p, nv] ∧ SesAt CS H A S ∧ S.und.length ≤ 1000 ∧ Dp K H nv (netD S.N) ∧ ∀ H', Same H H' → Q (.bl true) H'
theorem ok_lRefE {f : Addr} {fd : FuncData} {k k1 : Nat} (l1 : k1 ≤ k) (F : Fun K "_law_refused" "_law_refused" sLRefusedS f fd) (hL : PySem.LowX.LowTxt K mg "NoLink" CL fI) (hB : PySem.LowX.LowTxt K mg "BadPrice" CB fI) (cs_edit : KalMX P w K mg base k1 CS "edit" ["self", "a", "b", "price"] (spSEdit K CS CL CB)) : FnOk P w K mg base CX0 (k + 1) f fd ["session", "net"] (spLRefE K CS) := by
  refine F.ok scLRefusedS (fun vs H Q E h => ?_) (fun cdv A outer s H vs Q E hr h => ?_)
  · obtain ⟨A, S, nv, rfl, _⟩ := h
    rfl
  · obtain ⟨A, S, nv, rfl, hS, lund, hN, q⟩ := h
    have hu := hu_of hr
    refine ⟨_, pss_cons (ps_try_cl (tb := fun W => tDrop (tMethT CS "edit" (spSEdit K CS CL CB) (WE W) (tVar 0) (tCons (tC (.int 0)) (tCons (tC (.int 0)) (tCons (tC (.int 1)) tNil))))) (Wout := fun _ _ _ _ => False) rfl rfl takes0 (fun W pn xe tk _ => (pss_one (ps_expr (pe_ms cs_edit hr (by first | decide | omega) tk (pv 0) (pa_cons pe_int (pa_cons pe_int (pa_cons pe_int pa_nil))))))) (.bare (ts := fun a cls d => tIfS (tTest (tOp (rEqD K) (tOp (rIxT K) (tVar 1) (tC (.int 1))) (tLst tNil))) (tRet (tC (.bl true))) tNext) ⟨rfl, by decide, .inl hL.gC⟩ (fun a oe cls d pn hz hf => (pss_one (ps_if (pt_cmpR (op_eqD hr.units) (pe_ix ix_tup (pv 1) pe_int (fun _ _ => rfl)) (pe_lst pa_nil) (nomark _))
        (pss_one (ps_ret pe_bl))
        pss_nil))) .nil))
      (pss_cons (ps_try_cl (tb := fun W => tDrop (tMethT CS "edit" (spSEdit K CS CL CB) (WE W) (tVar 0) (tCons (tOp (rIxT K) (tOp (rIxL K) (tOp (rIxT K) (tVar 1) (tC (.int 1))) (tC (.int 0))) (tC (.int 0))) (tCons (tOp (rIxT K) (tOp (rIxL K) (tOp (rIxT K) (tVar 1) (tC (.int 1))) (tC (.int 0))) (tC (.int 1))) (tCons (tC (.int 0)) tNil))))) (Wout := fun _ _ _ _ => False) rfl rfl takes0 (fun W pn xe tk _ => (pss_one (ps_expr (pe_ms cs_edit hr (by first | decide | omega) tk (pv 0) (pa_cons (pe_ix ix_tup (pe_ix ix_list (pe_ix ix_tup (pv 1) pe_int (fun _ _ => rfl)) pe_int (fun _ _ => rfl)) pe_int (fun _ _ => rfl)) (pa_cons (pe_ix ix_tup (pe_ix ix_list (pe_ix ix_tup (pv 1) pe_int (fun _ _ => rfl)) pe_int (fun _ _ => rfl)) pe_int (fun _ _ => rfl)) (pa_cons pe_int pa_nil))))))) (.bare (ts := fun a cls d => tRet (tC (.bl true))) ⟨rfl, by decide, .inl hB.gC⟩ (fun a oe cls d pn hz hf => (pss_one (ps_ret pe_bl))) .nil))
      (pss_one (ps_ret pe_bl))), ?_⟩
    obtain ⟨ro, en, pa, ab, lkd, e1, _⟩ := hS.im
    obtain ⟨pn, c, xs, rfl, hpn, hc, hx⟩ := Dp.net_inv hN
    have h00 : ((0 : Int), (0 : Int)) ∉ wysL S.es := fun z => by
      rcases mem_wys.mp z with z | z
      · have := (hS.eok.lt _ z).2.1
        exact absurd this (by decide)
      · have := (hS.eok.lt _ z).2.1
        exact absurd this (by decide)
    refine ⟨.ref A.p, rfl, A.p, _, _, rfl, e1, fldZ_no (by decide +kernel), A, S, 0, 0, some 1, rfl, hS, lund, ⟨fun l e' h1 _ h3 => ?_, fun l e' h1 _ h3 h4 => ?_⟩, fun okk => ?_⟩
    · match l, h1 with
      | 0, h1 =>
        refine fun H' d s' hd => ⟨true, hL.te, fun _ a0 _ => ?_, fun z => nomatch z⟩
        have sb9 := hS.to s'
        have lls := hS.ok.len
        have lx := DpAll.len hx
        rw [List.length_map] at lx
        unfold runClause
        dsimp only
        refine g_ifx (b := S.N.ls.isEmpty) ?_ ?_ ?_
        · intro Q kk
          refine (vl_ixT (K := K) (vl_var rfl) vl_c (seqT s' hpn) (atI_nat (j := 1) rfl)) _ ⟨Nat.zero_le _, fun b nb => ⟨.list (S.N.ls.map lnkD), .list [], .lst ((s'.trans (same_upd nb)).seq hc) (DpAll.to hx (s'.trans (same_upd nb))), .lst (.of upd_same) .nil, shaped_lnksS _, by rfl, _, rfl, ?_⟩⟩
          have : PyData.eqv (.list (S.N.ls.map lnkD)) (.list []) = S.N.ls.isEmpty := by cases S.N.ls <;> rfl
          rw [this]
          exact kk _ (same_upd nb)
        · intro hb H2 s2
          exact g_ret vl_c (q _ (s'.trans s2))
        · intro hb H2 s2
          have s02 := s'.trans s2
          have hg : S.N.ls[0]? = some (S.N.ls[0]'(by
            cases h : S.N.ls with
            | nil => rw [h] at hb; cases hb
            | cons _ _ => exact Nat.succ_pos _)) := List.getElem?_eq_getElem _
          generalize S.N.ls[0]'_ = l at hg
          obtain ⟨v', ev', dv⟩ := DpAll.get (i := 0) (d := lnkD l) hx (by rw [List.getElem?_map, hg]; rfl)
          obtain ⟨t, rfl, ht⟩ := Dp.lnk_inv dv
          have hml : (l.a, l.b) ∈ wysL S.es := by
            have : (l.a, l.b) ∈ endsL S.N.ls := List.mem_map.mpr ⟨l, List.mem_of_getElem? hg, rfl⟩
            rw [show endsL S.N.ls = S.es from ends_net] at this
            exact mem_wys.mpr (.inl this)
          have gx : ∀ {j : Nat} {z : V}, (lnkV l)[j]? = some z → Vl (tOp (rIxT K) (tOp (rIxL K) (tOp (rIxT K) (tVar 1) (tC (.int 1))) (tC (.int 0))) (tC (.int (j : Nat)))) (L2.start ["session", "net"] [.ref A.p, .ref pn]) H2 z := fun {j z} hz => vl_ixT (K := K) (vl_ixL (K := K) (vl_ixT (K := K) (vl_var rfl) vl_c (seqT s02 hpn) (atI_nat (j := 1) rfl)) vl_c (s02.seq hc) (atI_nat (j := 0) ev')) vl_c (seqT s02 ht) (atI_nat hz)
          refine nx_of ?_
          refine ⟨.ref A.p, rfl, A.p, _, _, rfl, s02 _ _ e1, fldZ_no (by decide +kernel), gx (j := 0) rfl _ (gx (j := 1) rfl _ ⟨A, S, l.a, l.b, some 0, rfl, hS.to s02, lund, ⟨fun l' e2 h2 _ h3 => ?_, fun l' e2 h2 _ h3 h4 => ?_⟩, fun okk => ?_⟩)⟩
          · match l', h2 with
            | 0, h2 =>
              cases h2
              exact absurd hml h3
          · match l', h2 with
            | 0, h2 =>
              refine fun H3 d3 s3 hd3 => ⟨true, hB.te, fun _ a0 _ => ?_, fun z => nomatch z⟩
              unfold runClause
              dsimp only
              exact g_ret vl_c (q _ (s02.trans s3))
          · unfold okE at okk
            rw [Bool.and_eq_true] at okk
            have h0 : priceB (some 0) = true := okk.2
            exact absurd (priceB_iff.mp h0 0 rfl).1 (by decide)
    · match l, h1 with
      | 0, h1 =>
        cases h1
        exact absurd h3 h00
    · unfold okE at okk
      rw [decide_eq_false h00] at okk
      cases okk
end
/-! ### two sessions that share dicts of old prices -/
/-- a dict that isn't a session's own is locked: the session stands -/
theorem SesAt.lockd {CS : Addr} {H H' : Hp} {A : SesA} {S : SesS} {d : Addr} {kvs : List (List L2.Key × V)} (h : SesAt CS H A S) (dm : d ∉ A.m) (dl : d ≠ A.lo) (r : Rd H d (.dT kvs)) (r' : Rd H' d (.dT kvs)) (s : Same (buts [d] H) H') : SesAt CS H' A S := by
  have am := A.mem
  have up : ∀ {a u}, a ∈ A.m → H a = some u → H' a = some u := fun {a u} ha e => s _ _ (by rw [buts_ne fun z => dm (by rw [← List.mem_singleton.mp z]; exact ha)]; exact e)
  have rb : Rd (buts A.m H) d (.dT kvs) := r.imp (fun e => by rw [buts_ne dm]; exact e) fun ⟨o, e⟩ => ⟨o, by rw [buts_ne dm]; exact e⟩
  have rb' : Rd (buts A.m H') d (.dT kvs) := r'.imp (fun e => by rw [buts_ne dm]; exact e) fun ⟨o, e⟩ => ⟨o, by rw [buts_ne dm]; exact e⟩
  have sb : Same (buts [d] (buts A.m H)) (buts A.m H') := fun a u e => by
    obtain ⟨n1, e1⟩ := buts_no e
    obtain ⟨n2, e2⟩ := buts_no e1
    rw [buts_ne n2]
    exact s _ _ (by rw [buts_ne n1]; exact e2)
  obtain ⟨ro, en, pa, ab, lkd, e1, e2, ts, e3, e4⟩ := h.im
  exact ⟨h.ok, h.eok, h.pok, h.oo, h.fl, h.nd, h.nlo, ⟨ro, en, pa, ab, lkd, up am.1 e1, (e2.noD rb dl).to sb, ts, sb _ _ (by rw [buts_ne fun z => rd_ne rb e3 notL (List.mem_singleton.mp z)]; exact e3), (e4.noD rb).to sb⟩, let ⟨k, e, g⟩ := h.lk; ⟨k, up am.2.1 e, g⟩, let ⟨k, e, g⟩ := h.pr; ⟨k, up am.2.2.1 e, g⟩, let ⟨k, e, g⟩ := h.mi; ⟨k, up am.2.2.2.1 e, g⟩, up am.2.2.2.2 h.un, h.ud.noD sb rb rb', h.uok⟩
/-- a session that stands beside the addresses of another -/
theorem SesAt.beside {CS : Addr} {H : Hp} {B : SesA} {S : SesS} {m : List Addr} (h : SesAt CS H B S) (hm : ∀ a, a ∈ B.m → a ∉ m) (hl : B.lo ∉ m) (ht : ∀ a, a ∈ m → ∀ u, H a = some u → (∃ C dx fs, u = .ins C dx fs) ∨ (∃ kvs, u = .dT kvs)) (hu : ∀ a, a ∈ B.us → a ∉ m) : SesAt CS (buts m H) B S := by
  have bm := B.mem
  have up : ∀ {a u}, a ∈ B.m → H a = some u → buts m H a = some u := fun {a u} ha e => by rw [buts_ne (hm _ ha)]; exact e
  have keep : ∀ {a u}, (∀ C dx fs, u ≠ HO.ins C dx fs) → (∀ kvs, u ≠ HO.dT kvs) → buts B.m H a = some u → buts B.m (buts m H) a = some u := fun {a u} n1 n2 e => by
    obtain ⟨n, e'⟩ := buts_no e
    rw [buts_ne n, buts_ne fun z => by
      rcases ht a z u e' with ⟨C, dx, fs, rfl⟩ | ⟨kvs, rfl⟩
      · exact n1 C dx fs rfl
      · exact n2 kvs rfl]
    exact e'
  have kT : ∀ {ts L}, TupsAt (buts B.m H) ts L → TupsAt (buts B.m (buts m H)) ts L := fun {ts L} h => ⟨h.len, fun i u v e => let ⟨t, h1, h2⟩ := h.at_ i u v e; ⟨t, h1, keep (fun _ _ _ z => nomatch z) (fun _ z => nomatch z) h2⟩⟩
  have kL : ∀ {a xs}, buts B.m H a = some (.lst xs) → buts B.m (buts m H) a = some (.lst xs) := fun e => keep (fun _ _ _ z => nomatch z) (fun _ z => nomatch z) e
  obtain ⟨ro, en, pa, ab, lkd, e1, e2, ts, e3, e4⟩ := h.im
  refine ⟨h.ok, h.eok, h.pok, h.oo, h.fl, h.nd, h.nlo, ⟨ro, en, pa, ab, lkd, up bm.1 e1, ⟨kL e2.ro, let ⟨t, a, b⟩ := e2.en; ⟨t, kL a, kT b⟩, let ⟨t, a, b⟩ := e2.pa; ⟨t, kL a, kT b⟩, let ⟨k, a, b⟩ := e2.ab; ⟨k, keep (fun _ _ _ z => nomatch z) (fun _ z => nomatch z) a, fun w hw => let ⟨x, c, d⟩ := b w hw; ⟨x, c, kL d⟩⟩, ?_⟩, ts, kL e3, kT e4⟩, let ⟨k, e, g⟩ := h.lk; ⟨k, up bm.2.1 e, g⟩, let ⟨k, e, g⟩ := h.pr; ⟨k, up bm.2.2.1 e, g⟩, let ⟨k, e, g⟩ := h.mi; ⟨k, up bm.2.2.2.1 e, g⟩, up bm.2.2.2.2 h.un, ?_, h.uok⟩
  · obtain ⟨k, a, b⟩ := e2.lo
    refine ⟨k, ?_, fun u v hm => let ⟨x, c, d⟩ := b u v hm; ⟨x, c, kL d⟩⟩
    obtain ⟨n, a'⟩ := buts_no a
    rw [buts_ne n, buts_ne hl]
    exact a'
  · have gen : ∀ {as : List Addr} {us : List EdL}, (∀ a, a ∈ as → a ∉ m) → UnAt (buts B.m H) as us → UnAt (buts B.m (buts m H)) as us := fun {as us} hn hh => by
      induction hh with
      | nil => exact .nil
      | @cons a as u us hr _ ih =>
        have n := hn a List.mem_cons_self
        refine .cons (hr.imp (fun e => ?_) fun ⟨o, e⟩ => ⟨o, ?_⟩) (ih fun b hb => hn b (List.mem_cons_of_mem _ hb))
        · obtain ⟨n2, e'⟩ := buts_no e
          rw [buts_ne n2, buts_ne n]
          exact e'
        · obtain ⟨n2, e'⟩ := buts_no e
          rw [buts_ne n2, buts_ne n]
          exact e'
    exact gen hu h.ud
/-! ### edits taken back -/
theorem domU_old {vals : EdL} {g : (Int × Int) → Option Int} (p : Int × Int) : domU (vals.map fun z => (z.1, g z.1)) p = domU vals p := by
  unfold domU
  rw [List.any_map]
  rfl
/-- the old prices set again: what was before -/
theorem setW_back {f f0 : Int → Int → Option Int} {vals : EdL} {x y : Int} (nd : (vals.map (·.1)).Nodup) (hf : f x y = setW f0 vals x y) : setW f (vals.map fun z => (z.1, f0 z.1.1 z.1.2)) x y = f0 x y := by
  by_cases c : domU vals (x, y) = true
  · obtain ⟨z, hz, hze⟩ := List.any_eq_true.mp c
    have hze := of_decide_eq_true hze
    refine setW_in ?_ (List.mem_map.mpr ⟨z, hz, by rw [hze]⟩)
    rw [List.map_map]
    exact nd
  · have c := Bool.eq_false_iff.mpr c
    rw [setW_out ((domU_old (g := fun w : Int × Int => f0 w.1 w.2) (x, y)).trans c), hf, setW_out c]
/-- the calls that may be taken back, the newest last: what the links' prices were before each, and its edits -/
inductive Past (es : List (Int × Int)) : (Int → Int → Option Int) → List ((Int → Int → Option Int) × EdL) → List EdL → Prop
  | nil {f : Int → Int → Option Int} : Past es f [] []
  | snoc {f f0 : Int → Int → Option Int} {hs : List ((Int → Int → Option Int) × EdL)} {us : List EdL} {eds u : EdL} : Past es f0 hs us → (∀ e ∈ eds, okE es e = true) → (∀ x y, (x, y) ∈ wysL es → f x y = setW f0 eds x y) → (u.map (·.1) = (valE eds).map (·.1)) → (∀ z ∈ u, z.2 = f0 z.1.1 z.1.2) → Past es f (hs ++ [(f0, eds)]) (us ++ [u])
theorem Past.len {es : List (Int × Int)} {f : Int → Int → Option Int} {hs : List ((Int → Int → Option Int) × EdL)} {us : List EdL} (h : Past es f hs us) : us.length = hs.length := by
  induction h with
  | nil => rfl
  | snoc _ _ _ _ _ ih => rw [List.length_append, List.length_append, ih]; rfl
theorem Past.to {es : List (Int × Int)} {f g : Int → Int → Option Int} {hs : List ((Int → Int → Option Int) × EdL)} {us : List EdL} (h : Past es f hs us) (e : ∀ x y, (x, y) ∈ wysL es → g x y = f x y) : Past es g hs us := by
  cases h with
  | nil => exact .nil
  | snoc h1 h2 h3 h4 h5 => exact .snoc h1 h2 (fun x y hm => (e x y hm).trans (h3 x y hm)) h4 h5
/-! ### a list beside a session -/
/-- a list that is none of the session's own: the session stands without it -/
theorem SesAt.noL {CS : Addr} {G : Hp} {A : SesA} {S : SesS} {h : Addr} {xs : List V} (hS : SesAt CS G A S) (eh : G h = some (.lst xs)) (hm : h ∉ A.m) {ro en pa ab ld : Addr} (ep : G A.p = some (.ins CS A.dx (fldZ sesN (sesV S A ro en pa ab ld)))) (hI : SesI (buts A.m (but G h)) S.N.ls S.es S.os ro en pa ab A.lo) (hld : ld ≠ h) : SesAt CS (but G h) A S := by
  have am := A.mem
  have up : ∀ {a u}, a ∈ A.m → G a = some u → but G h a = some u := fun {a u} ha e => by rw [but_ne fun z => hm (by rw [← z]; exact ha)]; exact e
  have kN : ∀ {a u}, (∀ ys, u ≠ HO.lst ys) → buts A.m G a = some u → buts A.m (but G h) a = some u := fun {a u} n e => by
    obtain ⟨n1, e1⟩ := buts_no e
    rw [buts_ne n1, but_ne fun z => by rw [z, eh] at e1; exact n _ (Option.some.inj e1).symm]
    exact e1
  obtain ⟨ro2, en2, pa2, ab2, ld2, e1, _, ts, e3, e4⟩ := hS.im
  have e5 := Option.some.inj (e1.symm.trans ep)
  have e6 := (HO.ins.inj e5).2.2
  have e7 : ld2 = ld := by
    simp [fldZ, sesN, sesV] at e6
    exact e6.2.2.2.2
  subst e7
  have e3' : buts A.m (but G h) ld2 = some (.lst ts) := by
    obtain ⟨n1, e⟩ := buts_no e3
    rw [buts_ne n1, but_ne hld]
    exact e
  refine ⟨hS.ok, hS.eok, hS.pok, hS.oo, hS.fl, hS.nd, hS.nlo, ⟨ro, en, pa, ab, ld2, up am.1 ep, hI, ts, e3', ⟨e4.len, fun i u v e => let ⟨t, h1, h2⟩ := e4.at_ i u v e; ⟨t, h1, kN (fun _ z => nomatch z) h2⟩⟩⟩, let ⟨k, e, g⟩ := hS.lk; ⟨k, up am.2.1 e, g⟩, let ⟨k, e, g⟩ := hS.pr; ⟨k, up am.2.2.1 e, g⟩, let ⟨k, e, g⟩ := hS.mi; ⟨k, up am.2.2.2.1 e, g⟩, up am.2.2.2.2 hS.un, ?_, hS.uok⟩
  have gen : ∀ {as : List Addr} {us : List EdL}, UnAt (buts A.m G) as us → UnAt (buts A.m (but G h)) as us := fun {as us} hh => by
    induction hh with
    | nil => exact .nil
    | @cons a as u us hr _ ih => exact .cons (hr.imp (fun e => kN (fun _ z => nomatch z) e) fun ⟨o, e⟩ => ⟨o, kN (fun _ z => nomatch z) e⟩) ih
  exact gen hS.ud
/-- over a call -/
theorem SesAt.over {CS : Addr} {H H' : Hp} {A : SesA} {S S' : SesS} {us : List Addr} {h q : Addr} {xs : List V} (h0 : SesAt CS (but H h) A S) (eh : H h = some (.lst xs)) (fr : Same (buts A.m H) (buts (q :: A.m) H')) (kp : KeepP CS H H' A S S') (h1 : SesAt CS (but H' q) ⟨A.p, A.dx, A.lk, A.pr, A.mi, A.un, A.lo, us⟩ S') (es : S'.es = S.es) (eo : S'.os = S.os) (nq : H q = none) : SesAt CS (but (but H' q) h) ⟨A.p, A.dx, A.lk, A.pr, A.mi, A.un, A.lo, us⟩ S' := by
  obtain ⟨ro, en, pa, ab, lkd, e1, e2, _⟩ := h0.im
  have hm : h ∉ A.m := fun z => h0.usd z but_at
  obtain ⟨ld, nl, ep⟩ := kp ro en pa ab lkd (but_same _ _ e1)
  have hq : h ≠ q := fun z => by rw [z, nq] at eh; cases eh
  have eh1 : H' h = some (.lst xs) := buts_same _ _ (fr _ _ (by rw [buts_ne hm]; exact eh))
  have pq : A.p ≠ q := fun z => by
    have := but_same _ _ e1
    rw [z, nq] at this
    cases this
  refine h1.noL (xs := xs) (ro := ro) (en := en) (pa := pa) (ab := ab) (ld := ld) (by rw [but_ne hq]; exact eh1) hm (by rw [but_ne pq]; exact ep) ?_ (fun z => by rw [z, eh] at nl; cases nl)
  have hI := e2.to (G' := buts A.m (but (but H' q) h)) fun a u e => by
    obtain ⟨n1, e3⟩ := buts_no e
    have n2 : a ≠ h := fun z => by rw [z, but_at] at e3; cases e3
    rw [but_ne n2] at e3
    obtain ⟨n3, e4⟩ := buts_no (fr _ _ (by rw [buts_ne n1]; exact e3))
    rw [buts_ne n1, but_ne n2, but_ne fun z => n3 (by rw [z]; exact List.mem_cons_self)]
    exact e4
  have := hI.ends (ls' := S'.N.ls) (by
    show endsL (netL S'.es S'.lk) = endsL (netL S.es S.lk)
    rw [ends_net, ends_net, es])
  rw [es, eo]
  exact this
/-! ### what stands beside a session -/
theorem notFL {o} {xs : List V} : ¬ isDT (.frz o (.lst xs)) := by rintro (⟨_, h⟩ | ⟨_, _, h⟩) <;> cases h
theorem notFT {o} {xs : List V} : ¬ isDT (.frz o (.tup xs)) := by rintro (⟨_, h⟩ | ⟨_, _, h⟩) <;> cases h
section
variable {K : PySem.W.Frag} {G G' : Hp} {a : Addr} {kvs : List (List L2.Key × V)}
theorem ne_noD {x : Addr} {u : HO} (hd : Rd G a (.dT kvs)) (e : G x = some u) (h : ¬ isDT u) : buts [a] G x = some u := by
  rw [buts_ne fun c => rd_ne hd e h (List.mem_singleton.mp c)]
  exact e
theorem sql_noD {x : Addr} {xs : List V} (hd : Rd G a (.dT kvs)) (h : SqL K G x xs) : SqL K (buts [a] G) x xs := by
  rcases h with (h | ⟨o, h⟩) | h
  · exact .inl (.inl (ne_noD hd h notL))
  · exact .inl (.inr ⟨o, ne_noD hd h notFL⟩)
  · exact .inr h
theorem sqt_noD {x : Addr} {xs : List V} (hd : Rd G a (.dT kvs)) (h : SqT K G x xs) : SqT K (buts [a] G) x xs := by
  rcases h with (h | ⟨o, h⟩) | h
  · exact .inl (.inl (ne_noD hd h notT))
  · exact .inl (.inr ⟨o, ne_noD hd h notFT⟩)
  · exact .inr h
theorem dp_noD {v : V} {d : PyData} (hd : Rd G a (.dT kvs)) (h : Dp K G v d) : Dp K (buts [a] G) v d := dpF (fun _ _ => sql_noD hd) (fun _ _ => sqt_noD hd) d v h
theorem dpAll_noD {vs : List V} {ds : List PyData} (hd : Rd G a (.dT kvs)) (h : DpAll K G vs ds) : DpAll K (buts [a] G) vs ds := dpFAll (fun _ _ => sql_noD hd) (fun _ _ => sqt_noD hd) ds vs h
end
/-- a call that may be taken back: the net before it, its edits -/
abbrev HsE := (Int → Int → Option Int) × EdL
def hisD (n : Int) (es : List (Int × Int)) (x : HsE) : PyData := .tuple [netD ⟨n, netL es x.1⟩, .list (x.2.map edD)]
structure Bsd (K : PySem.W.Frag) (d po fp : Addr) (ds : List Int) (ts : List V) (os : List Int) (P : List (Int × Int)) (G : Hp) (nv : V) (N : Net) (lk : Addr) (L : List (Int × Int)) (vs : List V) (hd : List PyData) : Prop where
  d : SqL K G d (ds.map V.int)
  po : G po = some (.lst (os.map V.int))
  fp : G fp = some (.lst ts)
  tp : TupsAt G ts P
  net : Dp K G nv (netD N)
  lk : ∃ tl, G lk = some (.lst tl) ∧ TupsAt G tl L
  his : DpAll K G vs hd
section
variable {K : PySem.W.Frag} {d po fp : Addr} {ds : List Int} {ts : List V} {os : List Int} {P : List (Int × Int)} {nv : V} {N : Net} {lk : Addr} {L : List (Int × Int)} {vs : List V} {hd : List PyData}
theorem Bsd.to {G G' : Hp} (b : Bsd K d po fp ds ts os P G nv N lk L vs hd) (s : Same G G') : Bsd K d po fp ds ts os P G' nv N lk L vs hd :=
  ⟨s.seq b.d, s _ _ b.po, s _ _ b.fp, b.tp.to s, Dp.to b.net s, let ⟨tl, e, t⟩ := b.lk; ⟨tl, s _ _ e, t.to s⟩, DpAll.to b.his s⟩
theorem Bsd.noD {G : Hp} {a : Addr} {kvs : List (List L2.Key × V)} (b : Bsd K d po fp ds ts os P G nv N lk L vs hd) (h : Rd G a (.dT kvs)) : Bsd K d po fp ds ts os P (buts [a] G) nv N lk L vs hd :=
  ⟨sql_noD h b.d, ne_noD h b.po notL, ne_noD h b.fp notL, b.tp.noD h, dp_noD h b.net, let ⟨tl, e, t⟩ := b.lk; ⟨tl, ne_noD h e notL, t.noD h⟩, dpAll_noD h b.his⟩
/-- over a call that edits -/
theorem Bsd.frE {H H' : Hp} {h q : Addr} {m : List Addr} (b : Bsd K d po fp ds ts os P (buts (h :: m) H) nv N lk L vs hd) (fr : Same (buts m H) (buts (q :: m) H')) : Bsd K d po fp ds ts os P (buts (h :: m) H') nv N lk L vs hd := b.to fun x u e => by
  obtain ⟨n, e'⟩ := buts_no e
  rw [buts_ne n]
  exact buts_same _ _ (fr x u (by rw [buts_ne fun z => n (List.mem_cons_of_mem _ z)]; exact e'))
/-- over a call that takes edits back -/
theorem Bsd.frU {H H' : Hp} {h q a : Addr} {m : List Addr} {kvs : List (List L2.Key × V)} (b : Bsd K d po fp ds ts os P (buts (h :: m) H) nv N lk L vs hd) (ra : Rd (buts (h :: m) H) a (.dT kvs)) (fr : Same (buts (a :: m) H) (buts (q :: a :: m) H')) : Bsd K d po fp ds ts os P (buts (h :: m) H') nv N lk L vs hd := (b.noD ra).to fun x u e => by
  obtain ⟨n0, e0⟩ := buts_no e
  obtain ⟨n, e'⟩ := buts_no e0
  rw [buts_ne n]
  exact buts_same _ _ (fr x u (by rw [buts_ne fun z => (List.mem_cons.mp z).elim (fun z => n0 (List.mem_singleton.mpr z)) fun z => n (List.mem_cons_of_mem _ z)]; exact e'))
/-- beside a copy -/
theorem Bsd.frC {H H' : Hp} {h : Addr} {m m' : List Addr} (b : Bsd K d po fp ds ts os P (buts (h :: m) H) nv N lk L vs hd) (fr : Same H (buts m' H')) : Bsd K d po fp ds ts os P (buts (h :: m') H') nv N lk L vs hd := b.to fun x u e => by
  obtain ⟨n, e'⟩ := buts_no e
  obtain ⟨n2, e2⟩ := buts_no (fr _ _ e')
  rw [buts_ne fun z => (List.mem_cons.mp z).elim (fun z => n (by rw [z]; exact List.mem_cons_self)) n2]
  exact e2
/-- beside a copy, the old one taken back -/
theorem Bsd.frCU {H H' H2 : Hp} {h a q : Addr} {m m' : List Addr} {kvs : List (List L2.Key × V)} (b : Bsd K d po fp ds ts os P (buts (h :: m) H) nv N lk L vs hd) (ra : Rd (buts (h :: m) H) a (.dT kvs)) (fr : Same H (buts m' H')) (fr2 : Same (buts (a :: m) H') (buts (q :: a :: m) H2)) : Bsd K d po fp ds ts os P (buts (h :: m') H2) nv N lk L vs hd := (b.noD ra).to fun x u e => by
  obtain ⟨n0, e0⟩ := buts_no e
  obtain ⟨n, e'⟩ := buts_no e0
  obtain ⟨n2, e2⟩ := buts_no (fr _ _ e')
  rw [buts_ne fun z => (List.mem_cons.mp z).elim (fun z => n (by rw [z]; exact List.mem_cons_self)) n2]
  exact buts_same _ _ (fr2 x u (by rw [buts_ne fun z => (List.mem_cons.mp z).elim (fun z => n0 (List.mem_singleton.mpr z)) fun z => n (List.mem_cons_of_mem _ z)]; exact e2))
end
/-! ### the session over a call -/
theorem SesAt.over2 {CS : Addr} {H H' : Hp} {A : SesA} {S S' : SesS} {us : List Addr} {h q a : Addr} {xs : List V} {kvs : List (List L2.Key × V)} (h0 : SesAt CS (but H h) A S) (eh : H h = some (.lst xs)) (ra : Rd (buts A.m H) a (.dT kvs)) (al : a ≠ A.lo) (fr : Same (buts (a :: A.m) H) (buts (q :: a :: A.m) H')) (kp : KeepP CS H H' A S S') (h1 : SesAt CS (but H' q) ⟨A.p, A.dx, A.lk, A.pr, A.mi, A.un, A.lo, us⟩ S') (es : S'.es = S.es) (eo : S'.os = S.os) (nq : H q = none) : SesAt CS (but (but H' q) h) ⟨A.p, A.dx, A.lk, A.pr, A.mi, A.un, A.lo, us⟩ S' := by
  obtain ⟨ro, en, pa, ab, lkd, e1, e2, _⟩ := h0.im
  have hm : h ∉ A.m := fun z => h0.usd z but_at
  have ha : h ≠ a := rd_ne ra (by rw [buts_ne hm]; exact eh) notL
  obtain ⟨ld, nl, ep⟩ := kp ro en pa ab lkd (but_same _ _ e1)
  have hq : h ≠ q := fun z => by rw [z, nq] at eh; cases eh
  have eh1 : H' h = some (.lst xs) := buts_same _ _ (fr _ _ (by rw [buts_ne fun z => (List.mem_cons.mp z).elim ha hm]; exact eh))
  have pq : A.p ≠ q := fun z => by
    have := but_same _ _ e1
    rw [z, nq] at this
    cases this
  refine h1.noL (xs := xs) (ro := ro) (en := en) (pa := pa) (ab := ab) (ld := ld) (by rw [but_ne hq]; exact eh1) hm (by rw [but_ne pq]; exact ep) ?_ (fun z => by rw [z, eh] at nl; cases nl)
  have keep : ∀ {u}, buts A.m H a = some u → buts A.m (but H h) a = some u := fun {u} e => by
    obtain ⟨n, e'⟩ := buts_no e
    rw [buts_ne n, but_ne fun z => ha z.symm]
    exact e'
  have ra2 : Rd (buts A.m (but H h)) a (.dT kvs) := ra.imp keep fun ⟨o, e⟩ => ⟨o, keep e⟩
  have hI := (e2.noD ra2 al).to (G' := buts A.m (but (but H' q) h)) fun x u e => by
    obtain ⟨n0, e0⟩ := buts_no e
    obtain ⟨n1, e3⟩ := buts_no e0
    have n2 : x ≠ h := fun z => by rw [z, but_at] at e3; cases e3
    rw [but_ne n2] at e3
    obtain ⟨n3, e4⟩ := buts_no (fr _ _ (by rw [buts_ne fun z => (List.mem_cons.mp z).elim (fun z => n0 (List.mem_singleton.mpr z)) n1]; exact e3))
    rw [buts_ne n1, but_ne n2, but_ne fun z => n3 (by rw [z]; exact List.mem_cons_self)]
    exact e4
  have := hI.ends (ls' := S'.N.ls) (by
    show endsL (netL S'.es S'.lk) = endsL (netL S.es S.lk)
    rw [ends_net, ends_net, es])
  rw [es, eo]
  exact this
/-- a copy, the old one taken back -/
theorem SesAt.overC {CS : Addr} {H H' H2 : Hp} {A A' : SesA} {S S' : SesS} {h a q : Addr} {xs : List V} {kvs : List (List L2.Key × V)} (h0 : SesAt CS H A S) (eh : H h = some (.lst xs)) (ra : Rd (buts A.m H) a (.dT kvs)) (ha : a ∈ A.us) (fr : Same H (buts A'.m H')) (new : ∀ x, x ∈ A'.m → H x = none) (newl : H A'.lo = none) (eu : A'.us = A.us) (hC : SesAt CS (unl H H') A' S') (fr2 : Same (buts (a :: A.m) H') (buts (q :: a :: A.m) H2)) (ra2 : Rd H2 a (.dT kvs)) : SesAt CS (but H2 h) A' S' := by
  have s1 : Same H H' := fr.trans buts_same
  have am := A.mem
  obtain ⟨_, _, _, _, _, p1, _⟩ := h0.im
  obtain ⟨k1, f1, _⟩ := h0.lk
  obtain ⟨k2, f2, _⟩ := h0.pr
  obtain ⟨k3, f3, _⟩ := h0.mi
  have hu := h0.un
  have rdA : ∀ x, x ∈ A.us → ∃ u, Rd (buts A.m H) x (.dT (undK u)) := fun x hx => h0.ud.usd hx
  have nm : ∀ {x kv}, Rd (buts A.m H) x (.dT kv) → x ∉ A.m := fun {x kv} r => by
    rcases r with e | ⟨o, e⟩ <;> exact (buts_no e).1
  have hb := hC.beside (m := A.m) (fun x hx z => h0.usd z (new x hx)) (fun z => h0.usd z newl) (fun x hx u e => by
    obtain ⟨n, e'⟩ := unl_at e
    unfold SesA.m at hx
    simp only [List.mem_cons, List.not_mem_nil, or_false] at hx
    rcases hx with z | z | z | z | z <;> rw [z] at e' n
    · exact .inl ⟨_, _, _, Option.some.inj (e'.symm.trans (s1 _ _ p1))⟩
    · exact .inr ⟨_, Option.some.inj (e'.symm.trans (s1 _ _ f1))⟩
    · exact .inr ⟨_, Option.some.inj (e'.symm.trans (s1 _ _ f2))⟩
    · exact .inr ⟨_, Option.some.inj (e'.symm.trans (s1 _ _ f3))⟩
    · exact absurd hu (n _)) (fun x hx => by
    rw [eu] at hx
    obtain ⟨u, r⟩ := rdA x hx
    exact nm r)
  have an := nm ra
  have ah : a ≠ h := fun z => by
    rcases ra with e | ⟨o, e⟩ <;> (rw [z] at e; have := buts_same _ _ e; rw [eh] at this; cases this)
  have up : ∀ {u}, (∀ xs, u ≠ HO.lst xs) → buts A.m H a = some u → buts A.m (unl H H') a = some u := fun {u} n e => by
    obtain ⟨n1, e1⟩ := buts_no e
    rw [buts_ne n1]
    exact unl_not (fun xs z => n xs (Option.some.inj (e1.symm.trans z))) (s1 _ _ e1)
  refine hb.lockd (d := a) (kvs := kvs) (fun z => ?_) (fun z => ?_) (ra.imp (up fun _ z => nomatch z) fun ⟨o, e⟩ => ⟨o, up (fun _ z => nomatch z) e⟩) (ra2.imp (fun e => by rw [but_ne ah]; exact e) fun ⟨o, e⟩ => ⟨o, by rw [but_ne ah]; exact e⟩) fun x u e => ?_
  · have := new a z
    rcases ra with e | ⟨o, e⟩ <;> (rw [buts_same _ _ e] at this; cases this)
  · rw [← z] at newl
    rcases ra with e | ⟨o, e⟩ <;> (rw [buts_same _ _ e] at newl; cases newl)
  · obtain ⟨n0, e0⟩ := buts_no e
    obtain ⟨n1, e1⟩ := buts_no e0
    obtain ⟨n2, e2⟩ := unl_at e1
    rw [but_ne fun z => n2 xs (by rw [z]; exact eh)]
    exact buts_same _ _ (fr2 x u (by rw [buts_ne fun z => (List.mem_cons.mp z).elim (fun z => n0 (List.mem_singleton.mpr z)) n1]; exact e2))
/-! ### the law's own word -/
structure LwU (K : PySem.W.Frag) (CS : Addr) (d po fp : Addr) (ds : List Int) (ts : List V) (n : Int) (es : List (Int × Int)) (os : List Int) (P : List (Int × Int)) (H : Hp) (A : SesA) (S : SesS) (nv : V) (h lk : Addr) (vs : List V) (hs : List HsE) : Prop where
  ses : SesAt CS (but H h) A S
  hn : S.n = n
  hes : S.es = es
  hos : S.os = os
  bs : Bsd K d po fp ds ts os P (buts (h :: A.m) H) nv S.N lk S.look vs (hs.map (hisD n es))
  hh : H h = some (.lst vs)
  past : Past es S.lk hs S.und
  hok : ∀ x ∈ hs, NetOk ⟨n, netL es x.1⟩ ∧ x.2.length ≤ 3 ∧ ∀ x' y', PriceOk (x.1 x' y')
  uls : ∀ u ∈ S.und, u.length ≤ 2000
section
variable {K : PySem.W.Frag} {CS d po fp : Addr} {ds : List Int} {ts : List V} {n : Int} {es : List (Int × Int)} {os : List Int} {P : List (Int × Int)} {A A' : SesA} {S S' : SesS} {nv : V} {h lk : Addr} {vs : List V} {hs : List HsE} {H H' : Hp}
theorem LwU.to (w : LwU K CS d po fp ds ts n es os P H A S nv h lk vs hs) (s : Same H H') : LwU K CS d po fp ds ts n es os P H' A S nv h lk vs hs :=
  ⟨w.ses.to (but_mono s), w.hn, w.hes, w.hos, w.bs.to (buts_mono s), s _ _ w.hh, w.past, w.hok, w.uls⟩
theorem LwU.hm (w : LwU K CS d po fp ds ts n es os P H A S nv h lk vs hs) : h ∉ A.m := fun z => w.ses.usd z but_at
theorem LwU.sesH (w : LwU K CS d po fp ds ts n es os P H A S nv h lk vs hs) : SesAt CS H A S := w.ses.to but_same
theorem LwU.len (w : LwU K CS d po fp ds ts n es os P H A S nv h lk vs hs) : S.und.length = hs.length := w.past.len
/-- the list of calls grows -/
theorem LwU.app (w : LwU K CS d po fp ds ts n es os P H A S nv h lk vs hs) {S' : SesS} {A' : SesA} {nv' : V} {lk' : Addr} {x : HsE} {y : V} (em : A'.m = A.m) (ses : SesAt CS (but H' h) A' S') (hn : S'.n = n) (hes : S'.es = es) (hos : S'.os = os) (bs : Bsd K d po fp ds ts os P (buts (h :: A.m) H') nv' S'.N lk' S'.look vs (hs.map (hisD n es))) (hy : Dp K (buts (h :: A.m) H') y (hisD n es x)) (past : Past es S'.lk (hs ++ [x]) S'.und) (hx : NetOk ⟨n, netL es x.1⟩ ∧ x.2.length ≤ 3 ∧ ∀ x' y', PriceOk (x.1 x' y')) (uls : ∀ u ∈ S'.und, u.length ≤ 2000) : LwU K CS d po fp ds ts n es os P (upd H' h (.lst (vs ++ [y]))) A' S' nv' h lk' (vs ++ [y]) (hs ++ [x]) := by
  have e1 : buts (h :: A'.m) (upd H' h (.lst (vs ++ [y]))) = buts (h :: A.m) H' := by
    rw [em]
    exact buts_upd List.mem_cons_self
  refine ⟨by rw [but_upd]; exact ses, hn, hes, hos, ?_, upd_same, past, fun z hz => ?_, uls⟩
  · rw [e1, List.map_append]
    exact ⟨bs.d, bs.po, bs.fp, bs.tp, bs.net, bs.lk, DpAll.app bs.his (.cons hy .nil)⟩
  · rcases List.mem_append.mp hz with hz | hz
    · exact w.hok z hz
    · rw [List.mem_singleton.mp hz]
      exact hx
/-- the list of calls, cut -/
theorem LwU.cut {x : HsE} {y : V} (w : LwU K CS d po fp ds ts n es os P H A S nv h lk (vs ++ [y]) (hs ++ [x])) : DpAll K (buts (h :: A.m) H) vs (hs.map (hisD n es)) ∧ Dp K (buts (h :: A.m) H) y (hisD n es x) := by
  have hb := w.bs.his
  rw [List.map_append] at hb
  have gen : ∀ {vs : List V} {ds : List PyData} {y : V} {e : PyData}, DpAll K (buts (h :: A.m) H) (vs ++ [y]) (ds ++ [e]) → DpAll K (buts (h :: A.m) H) vs ds ∧ Dp K (buts (h :: A.m) H) y e := fun {vs} => by
    induction vs with
    | nil =>
      intro ds y e hh
      cases ds with
      | nil =>
        cases hh with
        | cons h1 h2 => exact ⟨.nil, h1⟩
      | cons a ds =>
        cases hh with
        | cons h1 h2 =>
          have := DpAll.len h2
          simp at this
    | cons v vs ih =>
      intro ds y e hh
      cases ds with
      | nil =>
        cases hh with
        | cons h1 h2 =>
          have := DpAll.len h2
          simp at this
      | cons a ds =>
        cases hh with
        | cons h1 h2 => exact ⟨.cons h1 (ih h2).1, (ih h2).2⟩
  exact gen hb
theorem his_shaped (hs : List HsE) : SeqAt.shaped (.list (hs.map (hisD n es))) = true := by
  have one : ∀ x : HsE, (hisD n es x).canLay0 = true ∧ (hisD n es x).depth ≤ 4 := fun x => by
    have h1 := shaped_net ⟨n, netL es x.1⟩
    have h2 := layAll edD lay_ed x.2
    have h3 := lay_net ⟨n, netL es x.1⟩
    constructor
    · show ((netD ⟨n, netL es x.1⟩).canLay0 && (PyData.canLayAll0 (x.2.map edD) && true)) = true
      rw [h3.1, h2.1]
      rfl
    · show max (netD ⟨n, netL es x.1⟩).depth (max (PyData.depthAll (x.2.map edD) + 1) 0) + 1 ≤ 4
      have := h3.2
      have := h2.2
      omega
  have all : ∀ hs : List HsE, PyData.canLayAll0 (hs.map (hisD n es)) = true ∧ PyData.depthAll (hs.map (hisD n es)) ≤ 4 := fun hs => by
    induction hs with
    | nil => exact ⟨rfl, Nat.zero_le _⟩
    | cons x xs ih =>
      constructor
      · show ((hisD n es x).canLay0 && PyData.canLayAll0 (xs.map (hisD n es))) = true
        rw [(one x).1, ih.1]
        rfl
      · show max (hisD n es x).depth (PyData.depthAll (xs.map (hisD n es))) ≤ 4
        have := (one x).2
        have := ih.2
        omega
  show (PyData.canLayAll0 (hs.map (hisD n es)) && decide (PyData.depthAll (hs.map (hisD n es)) + 1 ≤ 64)) = true
  rw [(all hs).1]
  refine decide_eq_true ?_
  have := (all hs).2
  omega
end
/-! ### small things -/
theorem at_last8 {xs : List V} {x : V} : atI (xs ++ [x]) (-1) = some x := by
  have e : ixN (xs ++ [x]).length (-1) = some xs.length := by
    rw [List.length_append]
    show ixN (xs.length + 1) (-1) = _
    unfold ixN
    rw [if_neg (by omega), if_pos (by omega)]
    congr 1
    omega
  unfold atI
  rw [e]
  show (xs ++ [x])[xs.length]? = some x
  rw [List.getElem?_append_right (Nat.le_refl _), Nat.sub_self]
  rfl
theorem cut_last8 {xs : List V} {x : V} : cutV (xs ++ [x]) none (some (-1)) = xs := by
  unfold cutV
  rw [HT.sIx_none]
  have e : HT.sIx (xs ++ [x]).length (xs ++ [x]).length (some (-1)) = xs.length := by
    rw [List.length_append]
    show HT.sIx (xs.length + 1) (xs.length + 1) (some (-1)) = xs.length
    unfold HT.sIx
    simp
    omega
  rw [e, Nat.sub_zero, List.drop_zero, List.take_left']
  rfl
theorem Past.inv {es : List (Int × Int)} {f : Int → Int → Option Int} {hs : List HsE} {us : List EdL} (h : Past es f hs us) (n : hs ≠ []) : ∃ hs' f0 eds us' u, hs = hs' ++ [(f0, eds)] ∧ us = us' ++ [u] ∧ Past es f0 hs' us' ∧ (∀ e ∈ eds, okE es e = true) ∧ (∀ x y, (x, y) ∈ wysL es → f x y = setW f0 eds x y) ∧ u = (valE eds).map (fun z => (z.1, f0 z.1.1 z.1.2)) := by
  cases h with
  | nil => exact absurd rfl n
  | @snoc _ f0 hs' us' eds u h1 h2 h3 h4 h5 =>
    refine ⟨hs', f0, eds, us', u, rfl, rfl, h1, h2, h3, ?_⟩
    have e1 : u = u.map (fun z => (z.1, f0 z.1.1 z.1.2)) := by
      have : u.map id = u.map (fun z => (z.1, f0 z.1.1 z.1.2)) := List.map_congr_left fun z hz => by
        show z = (z.1, f0 z.1.1 z.1.2)
        rw [← h5 z hz]
      rwa [List.map_id] at this
    have e2 : u.map (fun z => (z.1, f0 z.1.1 z.1.2)) = (u.map (·.1)).map (fun p => (p, f0 p.1 p.2)) := by
      rw [List.map_map]
      rfl
    have e3 : (valE eds).map (fun z => (z.1, f0 z.1.1 z.1.2)) = ((valE eds).map (·.1)).map (fun p => (p, f0 p.1 p.2)) := by
      rw [List.map_map]
      rfl
    rw [e3, ← h4, ← e2]
    exact e1
/-- the number of edits -/
theorem te_idx18 {K : PySem.W.Frag} {σ : L2.St} {H : Hp} {tc : TE} {r : Int} {Q : VK} (hr : 0 ≤ r ∧ r < 3) (h9 : σ[9]? = some (some (.int r))) (hc : ∀ Q : VK, (∀ x : Int, Q (.int x) H) → tc σ H Q) (q : ∀ x : Int, 0 ≤ x ∧ x ≤ 3 → Q (.int x) H) :
    tOp (rI0 fun i j => .int (i + j)) (tVar 9) (tCB (fun xs H Q => (∃ i, xs = [V.int i] ∧ Q (V.int i) H) ∨ ∃ k, xs = [V.bl k] ∧ Q (V.int (if k then 1 else 0)) H) (tCons (tAndV (tOp rEq (tVar 9) (tC (.int 2))) (tOp rEq tc (tC (.int 4)))) tNil)) σ H Q := by
  refine ⟨.int r, h9, (vl_eq (vl_var h9) vl_c rfl) _ ⟨_, rfl, ?_⟩⟩
  by_cases c : decide (V.int r = V.int 2) = true
  · rw [c]
    have e : r = 2 := V.int.inj (of_decide_eq_true c)
    refine iteT (hc _ fun x => ⟨rfl, .inr ⟨decide (V.int x = V.int 4), rfl, r, _, rfl, rfl, q _ ?_⟩⟩)
    split <;> omega
  · rw [Bool.eq_false_iff.mpr c]
    exact iteF (.inr ⟨false, rfl, r, 0, rfl, rfl, q _ (by omega)⟩)
theorem idx18 {x : Int} (h : 0 ≤ x ∧ x ≤ 3) : ∃ m : Int, 0 ≤ m ∧ m ≤ 3 ∧ atI [V.int 1, V.int 1, V.int 3, V.int 0] x = some (.int m) := by
  rcases (by omega : x = 0 ∨ x = 1 ∨ x = 2 ∨ x = 3) with rfl | rfl | rfl | rfl
  · exact ⟨1, by decide, by decide, rfl⟩
  · exact ⟨1, by decide, by decide, rfl⟩
  · exact ⟨3, by decide, by decide, rfl⟩
  · exact ⟨0, by decide, by decide, rfl⟩
theorem same_frE {H H' : Hp} {h q : Addr} {m : List Addr} (fr : Same (buts m H) (buts (q :: m) H')) : Same (buts (h :: m) H) (buts (h :: m) H') := fun x u e => by
  obtain ⟨n, e'⟩ := buts_no e
  rw [buts_ne n]
  exact buts_same _ _ (fr x u (by rw [buts_ne fun z => n (List.mem_cons_of_mem _ z)]; exact e'))
theorem same_frU {H H' : Hp} {h q a : Addr} {m : List Addr} (fr : Same (buts (a :: m) H) (buts (q :: a :: m) H')) : Same (buts [a] (buts (h :: m) H)) (buts (h :: m) H') := fun x u e => by
  obtain ⟨n0, e0⟩ := buts_no e
  obtain ⟨n, e'⟩ := buts_no e0
  rw [buts_ne n]
  exact buts_same _ _ (fr x u (by rw [buts_ne fun z => (List.mem_cons.mp z).elim (fun z => n0 (List.mem_singleton.mpr z)) fun z => n (List.mem_cons_of_mem _ z)]; exact e'))
/-! the word of a copy -/
section
variable {K : PySem.W.Frag} {CS d po fp : Addr} {ds : List Int} {ts : List V} {n : Int} {es : List (Int × Int)} {os : List Int} {P : List (Int × Int)} {A A' : SesA} {S : SesS} {nv : V} {h lk : Addr} {vs : List V} {hs : List HsE} {H H' H2 : Hp}
theorem twin_past (w : LwU K CS d po fp ds ts n es os P H A S nv h lk vs hs) : Past es S.twin.lk hs S.twin.und := w.past.to fun x y hm => by
  show linkW (netL S.es S.lk) x y = S.lk x y
  rw [linkW_net w.ses.eok, if_pos (by rw [w.hes]; exact mem_wys.mp hm)]
theorem LwU.copy (w : LwU K CS d po fp ds ts n es os P H A S nv h lk vs hs) (fr : Same H (buts A'.m H')) (hC : SesAt CS (unl H H') A' S.twin) : LwU K CS d po fp ds ts n es os P H' A' S.twin nv h lk vs hs :=
  ⟨hC.to fun x u e => by
    obtain ⟨n1, e'⟩ := unl_at e
    rw [but_ne fun z => n1 vs (by rw [z]; exact w.hh)]
    exact e', w.hn, w.hes, w.hos, by rw [SesS.twin_N w.ses.ok]; exact w.bs.frC fr, buts_same _ _ (fr _ _ w.hh), twin_past w, w.hok, w.uls⟩
theorem LwU.copyU {a q : Addr} {u : EdL} (w : LwU K CS d po fp ds ts n es os P H A S nv h lk vs hs) (ra : Rd (buts A.m H) a (.dT (undK u))) (ha : a ∈ A.us) (fr : Same H (buts A'.m H')) (new : ∀ x, x ∈ A'.m → H x = none) (newl : H A'.lo = none) (eu : A'.us = A.us) (hC : SesAt CS (unl H H') A' S.twin) (fr2 : Same (buts (a :: A.m) H') (buts (q :: a :: A.m) H2)) (ra2 : Rd H2 a (.dT (undK u))) : LwU K CS d po fp ds ts n es os P H2 A' S.twin nv h lk vs hs := by
  have hm := w.hm
  have ah : h ≠ a := rd_ne ra (by rw [buts_ne hm]; exact w.hh) notL
  have ra' : Rd (buts (h :: A.m) H) a (.dT (undK u)) := by
    have k : ∀ {v}, buts A.m H a = some v → buts (h :: A.m) H a = some v := fun {v} e => by
      obtain ⟨n, e'⟩ := buts_no e
      rw [buts_ne fun z => (List.mem_cons.mp z).elim (fun z => ah z.symm) n]
      exact e'
    exact ra.imp k fun ⟨o, e⟩ => ⟨o, k e⟩
  exact ⟨w.sesH.overC w.hh ra ha fr new newl eu hC fr2 ra2, w.hn, w.hes, w.hos, by rw [SesS.twin_N w.ses.ok]; exact w.bs.frCU ra' fr fr2, buts_same _ _ (fr2 _ _ (by rw [buts_ne fun z => (List.mem_cons.mp z).elim ah hm]; exact buts_same _ _ (fr _ _ w.hh))), twin_past w, w.hok, w.uls⟩
end
/-! ### the law of edits taken back -/
abbrev sLaw : Stmt := topS 46
theorem scLaw : FnScope ["script", "draws", "net", "order", "session", "found", "history", "looked", "turn", "deed", "edits", "after", "due", "before", "other", "edit"] ["script"] (defScope sLaw) := ⟨rfl, rfl, rfl, by decide +kernel, rfl, by decide +kernel, by decide +kernel⟩
def spLaw (K : PySem.W.Frag) : Sp := fun vs H Q _ => ∃ (a : Addr) (ns : List Int), vs = [.ref a] ∧ SqL K H a (ns.map V.int) ∧ ns.length ≤ 63 ∧ ∀ H', Q (.bl true) H'
theorem q_forRA {tr : TA} {g : TG} {tz tw : TS} {D : Ends} {σ : L2.St} {H : Hp} {m : Int} (h : ∀ Q : List V → Hp → Prop, (∀ n : Int, 0 ≤ n → n < m → Q [.int n] H) → tr σ H Q) (k : ∀ n : Int, 0 ≤ n → n < m → tSeq (tFor (iRng1 fun _ H Q => Q [.int n] H) g tz) tw D σ H) : tSeq (tFor (iRng1 tr) g tz) tw D σ H := h _ fun n h0 h1 => k n h0 h1
theorem noBad {es : List (Int × Int)} {eds : EdL} {CL CB : Addr} {E : XK} {H : Hp} (h : ∀ e ∈ eds, okE es e = true) : EdBad es eds CL CB E H := by
  refine ⟨fun i e h1 _ h3 => ?_, fun i e h1 _ h3 h4 => ?_⟩
  · have := h e (List.mem_of_getElem? h1)
    unfold okE at this
    rw [decide_eq_false h3] at this
    cases this
  · have := h e (List.mem_of_getElem? h1)
    unfold okE at this
    rw [h4, Bool.and_false] at this
    cases this
theorem isE_nil {ds : List PyData} : PyData.eqv (.list ds) (.list []) = decide (ds = []) := by
  cases ds with
  | nil => rfl
  | cons d ds =>
    rw [decide_eq_false (fun z : d :: ds = [] => by cases z)]
    rfl
theorem q_whenE {t : TT} {tz tw : TS} {D : Ends} {σ : L2.St} {H : Hp} (h : t σ H fun b H' => if b = true then tz { D with nx := tw D } σ H' else tw D σ H') : tSeq (tIfS t tz tNext) tw D σ H := h
theorem isE_his {n : Int} {es : List (Int × Int)} {hs : List HsE} : PyData.eqv (.list (hs.map (hisD n es))) (.list []) = decide (hs = []) := by
  rw [isE_nil]
  cases hs with
  | nil => rfl
  | cons x xs =>
    rw [decide_eq_false (fun z : x :: xs = [] => by cases z), decide_eq_false (fun z : (x :: xs).map (hisD n es) = [] => by cases z)]
theorem is_at18 {K : PySem.W.Frag} {CS d po fp : Addr} {ds : List Int} {ts : List V} {n : Int} {es : List (Int × Int)} {os : List Int} {P : List (Int × Int)} {A : SesA} {S : SesS} {nv : V} {h lk : Addr} {vs : List V} {hs : List HsE} {H : Hp} {σ : L2.St} {i4 i2 i3 i7 : Nat} (W : LwU K CS d po fp ds ts n es os P H A S nv h lk vs hs) (v4 : σ[i4]? = some (some (.ref A.p))) (v2 : σ[i2]? = some (some nv)) (v3 : σ[i3]? = some (some (.ref po))) (v7 : σ[i7]? = some (some (.ref lk))) : Ax (tNot (tTest (tCall (spLIsAt K CS) [] E0 (tCons (tVar i4) (tCons (tVar i2) (tCons (tVar i3) (tCons (tVar i7) tNil))))))) σ H false := fun Q kk => by
  obtain ⟨tl, elk, hT⟩ := W.bs.lk
  exact ⟨.ref A.p, v4, nv, v2, .ref po, v3, .ref lk, v7, A, S, nv, po, lk, tl, rfl, W.sesH, Dp.to W.bs.net buts_same, .of (by rw [W.hos]; exact buts_same _ _ W.bs.po), buts_same _ _ elk, hT.to buts_same, fun H2 s2 => ⟨true, rfl, kk _ s2⟩⟩
section
variable {P : Program} {w : World} {K : PySem.W.Frag} {mg : Str → Option Value} {base : Heap} {CS CL CB CU fI : Addr}
theorem ok_law {f : Addr} {fd : FuncData} {ks k1 k2 k3 k4 k5 k6 k7 k8 k9 : Nat} (l0 : ks + 1 ≤ 60) (l1 : k1 ≤ 60) (l2 : k2 ≤ 60) (l3 : k3 ≤ 60) (l4 : k4 ≤ 60) (l5 : k5 ≤ 60) (l6 : k6 ≤ 60) (l7 : k7 ≤ 60) (l8 : k8 ≤ 60) (l9 : k9 ≤ 60) {la lb lc ld le lf lg lh : Nat} (la1 : la ≤ 60) (lb1 : lb ≤ 60) (lc1 : lc ≤ 60) (ld1 : ld ≤ 60) (le1 : le ≤ 60) (lf1 : lf ≤ 60) (lg1 : lg ≤ 60) (lh1 : lh ≤ 60)
    (F : Fun K "law" "law" sLaw f fd) (c_law_draws : Kal P w K mg base la "_law_draws" ["script"] (spDraws K)) (c_law_at : Kal P w K mg base lb "_law_at" ["draws", "k", "many"] (spAt K)) (c_law_net : Kal P w K mg base lc "_law_net" ["draws", "first", "most"] (spNet K)) (c_law_order : Kal P w K mg base ld "_law_order" ["draws", "first", "count"] (spOrder K))
    (c_law_pairs : Kal P w K mg base le "_law_pairs" ["net", "order"] (spLPairs K)) (c_fill : Kal P w K mg base k1 "fill" ["net", "order"] (spFill K)) (c_Session : KalC P w K mg base ks CS "Session" ["self", "net", "order"] (spSInit K CS)) (cs_edit : KalMX P w K mg base k2 CS "edit" ["self", "a", "b", "price"] (spSEdit K CS CL CB)) (cs_edit_all : KalMX P w K mg base k3 CS "edit_all" ["self", "edits"] (spSEditAll K CS CL CB)) (cs_undo : KalMX P w K mg base k4 CS "undo" ["self"] (spSUndo K CS CU)) (cs_copy : KalM P w K mg base k9 CS "copy" ["self"] (spSCopy CS))
    (c_law_changed : Kal P w K mg base k5 "_law_changed" ["net", "edits"] (spLChanged K)) (c_law_changes : Kal P w K mg base k6 "_law_changes" ["old", "new"] (spLChanges K)) (c_law_looked : Kal P w K mg base k7 "_law_looked" ["found", "order", "edits", "changes"] (spLLooked K)) (c_law_edits : Kal P w K mg base k8 "_law_edits" ["draws", "first", "net", "many"] (spLEdits K)) (c_law_empty : Kal P w K mg base lf "_law_empty" ["session"] (spLEmpty K CS)) (c_law_refused : Kal P w K mg base lg "_law_refused" ["session", "net"] (spLRefE K CS)) (c_law_is_at : Kal P w K mg base lh "_law_is_at" ["session", "net", "order", "looked"] (spLIsAt K CS))
    (mi : mg "int" = none) (mL : mg "list" = none) (mr : mg "range" = none) : FnG P w K mg base f fd ["script"] (spLaw K) := by
  refine okG (k := 60) F scLaw ⟨rfl, by decide, by decide⟩ (fun vs H Q E h => ?_) (fun cdv s H vs Q E hr h => ?_)
  · obtain ⟨a, ns, rfl, _⟩ := h
    rfl
  · obtain ⟨a, ns, rfl, hS, hlen, q⟩ := h
    have hu := hu_of hr
    refine ⟨_, pss_cons (ps_set (i := 1) scLaw.nd rfl (.inl rfl) (pe_k c_law_draws hr (by first | decide | omega) (by rfl) (pa_cons (pv 0) pa_nil)))
      (pss_cons (ps_set (i := 2) scLaw.nd rfl (.inl rfl) (pe_k c_law_net hr (by first | decide | omega) (by rfl) (pa_cons (pv 1) (pa_cons pe_int (pa_cons (pe_ix ix_list (pe_lst (pa_cons pe_int (pa_cons pe_int pa_nil))) (pe_callTy call_int1 (by rfl) mi (by decide +kernel) (pa_cons (pe_cmpR op_eq (pe_k c_law_at hr (by first | decide | omega) (by rfl) (pa_cons (pv 1) (pa_cons pe_int (pa_cons pe_int pa_nil)))) pe_int (nomark _)) pa_nil)) (fun _ _ => rfl)) pa_nil)))))
      (pss_cons (ps_set (i := 3) scLaw.nd rfl (.inl rfl) (pe_k c_law_order hr (by first | decide | omega) (by rfl) (pa_cons (pv 1) (pa_cons pe_int (pa_cons (pe_ix ix_tup (pv 2) pe_int (fun _ _ => rfl)) pa_nil)))))
      (pss_cons (ps_set (i := 4) scLaw.nd rfl (.inl rfl) (pe_mk c_Session hr (by first | decide | omega) (by rfl) (pa_cons (pv 2) (pa_cons (pv 3) pa_nil))))
      (pss_cons (ps_set (i := 5) scLaw.nd rfl (.inl rfl) (pe_k c_law_pairs hr (by first | decide | omega) (by rfl) (pa_cons (pv 2) (pa_cons (pv 3) pa_nil))))
      (pss_cons (ps_set (i := 6) scLaw.nd rfl (.inl rfl) (pe_lst pa_nil))
      (pss_cons (ps_set (i := 7) scLaw.nd rfl (.inl rfl) (pe_lst pa_nil))
      (pss_cons (ps_for PassesOwn.never rfl (pi_range1 (by rfl) mr (pa_cons (pe_k c_law_at hr (by first | decide | omega) (by rfl) (pa_cons (pv 1) (pa_cons pe_int (pa_cons pe_int pa_nil)))) pa_nil)) (pg_name (i := 8) scLaw.nd rfl (.inl rfl))
      (pss_cons (ps_set (i := 9) scLaw.nd rfl (.inl rfl) (pe_k c_law_at hr (by first | decide | omega) (by rfl) (pa_cons (pv 1) (pa_cons (pe_op op_add pe_int (pv 8)) (pa_cons pe_int pa_nil)))))
        (Evl.pss_cut (ps_if (pt_cmpR op_lt (pv 9) pe_int (nomark _))
        (pss_cons (ps_set (i := 10) scLaw.nd rfl (.inl rfl) (pe_k c_law_edits hr (by first | decide | omega) (by rfl) (pa_cons (pv 1) (pa_cons (pe_op op_add pe_int (pv 8)) (pa_cons (pv 2) (pa_cons (pe_ix ix_list (pe_lst (pa_cons pe_int (pa_cons pe_int (pa_cons pe_int (pa_cons pe_int pa_nil))))) (pe_op op_add (pv 9) (pe_callTy call_int1 (by rfl) mi (by decide +kernel) (pa_cons (pe_and (pe_cmpR op_eq (pv 9) pe_int (nomark _)) (pe_one (pe_cmpR op_eq (pe_k c_law_at hr (by first | decide | omega) (by rfl) (pa_cons (pv 1) (pa_cons (pe_op op_add pe_int (pv 8)) (pa_cons pe_int pa_nil)))) pe_int (nomark _)))) pa_nil))) (fun _ _ => rfl)) pa_nil))))))
          (pss_cons (ps_set (i := 11) scLaw.nd rfl (.inl rfl) (pe_k c_law_changed hr (by first | decide | omega) (by rfl) (pa_cons (pv 2) (pa_cons (pv 10) pa_nil))))
          (pss_cons (ps_set (i := 12) scLaw.nd rfl (.inl rfl) (pe_k c_law_changes hr (by first | decide | omega) (by rfl) (pa_cons (pe_k c_fill hr (by first | decide | omega) (by rfl) (pa_cons (pv 2) (pa_cons (pv 3) pa_nil))) (pa_cons (pe_k c_fill hr (by first | decide | omega) (by rfl) (pa_cons (pv 11) (pa_cons (pv 3) pa_nil))) pa_nil))))
          (pss_cons (ps_if (pt_cmpR (op_neD hr.units) (pe_mx (E := fun _ _ _ => False) cs_edit_all hr (by first | decide | omega) takes0 (pv 4) (pa_cons (pv 10) pa_nil)) (pv 12) (nomark _))
          (pss_one (ps_ret pe_bl))
          pss_nil)
          (pss_cons (ps_set (i := 7) scLaw.nd rfl (.inl rfl) (pe_k c_law_looked hr (by first | decide | omega) (by rfl) (pa_cons (pv 5) (pa_cons (pv 3) (pa_cons (pv 10) (pa_cons (pv 12) pa_nil))))))
          (pss_cons (ps_expr (pe_bm PySem.F.plainAttrs_list PySem.F.slot_list_append PySem.F.type_list_append mt_append (pv 6) (pa_cons (pe_tup (pa_cons (pv 2) (pa_cons (pv 10) pa_nil))) pa_nil)))
          (pss_one (ps_set (i := 2) scLaw.nd rfl (.inl rfl) (pv 11)))))))))
        (pss_one (ps_if (pt_cmpR (op_eqD hr.units) (pv 6) (pe_lst pa_nil) (nomark _))
          (pss_one (ps_if (pt_not (pt_val (pe_k c_law_empty hr (by first | decide | omega) (by rfl) (pa_cons (pv 4) pa_nil))))
            (pss_one (ps_ret pe_bl))
            pss_nil))
          (pss_cons (ps_asg (pe_ix ix_list (pv 6) (pe_un un_neg pe_int) (fun _ _ => rfl)) (pg_tup rfl (pgs_cons (pg_name (i := 13) scLaw.nd rfl (.inl rfl)) (pgs_cons (pg_name (i := 10) scLaw.nd rfl (.inl rfl)) pgs_nil))))
            (pss_cons (ps_set (i := 12) scLaw.nd rfl (.inl rfl) (pe_k c_law_changes hr (by first | decide | omega) (by rfl) (pa_cons (pe_k c_fill hr (by first | decide | omega) (by rfl) (pa_cons (pv 2) (pa_cons (pv 3) pa_nil))) (pa_cons (pe_k c_fill hr (by first | decide | omega) (by rfl) (pa_cons (pv 13) (pa_cons (pv 3) pa_nil))) pa_nil))))
            (pss_cons (ps_if (pt_cmpR (op_neD hr.units) (pe_mx0 (E := fun _ _ _ => False) cs_undo hr (by first | decide | omega) takes0 (pv 4)) (pv 12) (nomark _))
            (pss_one (ps_ret pe_bl))
            pss_nil)
            (pss_cons (ps_set (i := 7) scLaw.nd rfl (.inl rfl) (pe_k c_law_looked hr (by first | decide | omega) (by rfl) (pa_cons (pv 5) (pa_cons (pv 3) (pa_cons (pv 10) (pa_cons (pv 12) pa_nil))))))
            (pss_cons (ps_set (i := 2) scLaw.nd rfl (.inl rfl) (pv 13))
            (pss_one (ps_set (i := 6) scLaw.nd rfl (.inl rfl) (pe_slice sl_list (pv 6) po_none (po_some (pe_un un_neg pe_int)))))))))))))
        (pss_cons (ps_if (PW.pt (pw_or (pt_not (pt_val (pe_k c_law_refused hr (by first | decide | omega) (by rfl) (pa_cons (pv 4) (pa_cons (pv 2) pa_nil))))) (pw_or1 (pt_not (pt_val (pe_k c_law_is_at hr (by first | decide | omega) (by rfl) (pa_cons (pv 4) (pa_cons (pv 2) (pa_cons (pv 3) (pa_cons (pv 7) pa_nil))))))))))
        (pss_one (ps_ret pe_bl))
        pss_nil)
        (pss_one (ps_if (pt_cmpR op_eq (pe_k c_law_at hr (by first | decide | omega) (by rfl) (pa_cons (pv 1) (pa_cons (pe_op op_add pe_int (pv 8)) (pa_cons pe_int pa_nil)))) pe_int (nomark _))
        (pss_cons (ps_set (i := 14) scLaw.nd rfl (.inl rfl) (pe_m0 cs_copy hr (by first | decide | omega) (pv 4)))
          (pss_cons (ps_for PassesOwn.never rfl (pi_list (pe_k c_law_edits hr (by first | decide | omega) (by rfl) (pa_cons (pv 1) (pa_cons pe_int (pa_cons (pv 2) (pa_cons pe_int pa_nil)))))) (pg_name (i := 15) scLaw.nd rfl (.inl rfl))
          (pss_one (ps_expr (pe_mx (E := fun _ _ _ => False) cs_edit hr (by first | decide | omega) takes0 (pv 14) (pa_cons (pe_ix ix_tup (pv 15) pe_int (fun _ _ => rfl)) (pa_cons (pe_ix ix_tup (pv 15) pe_int (fun _ _ => rfl)) (pa_cons (pe_ix ix_tup (pv 15) pe_int (fun _ _ => rfl)) pa_nil)))))))
          (pss_cons (ps_if (pt_not (pt_val (pe_k c_law_is_at hr (by first | decide | omega) (by rfl) (pa_cons (pv 4) (pa_cons (pv 2) (pa_cons (pv 3) (pa_cons (pv 7) pa_nil)))))))
          (pss_one (ps_ret pe_bl))
          pss_nil)
          (pss_cons (ps_set (i := 14) scLaw.nd rfl (.inl rfl) (pv 4))
          (pss_cons (ps_set (i := 4) scLaw.nd rfl (.inl rfl) (pe_m0 cs_copy hr (by first | decide | omega) (pv 4)))
          (pss_one (ps_if (pt_cmpR (op_neD hr.units) (pv 6) (pe_lst pa_nil) (nomark _))
          (pss_one (ps_expr (pe_mx0 (E := fun _ _ _ => False) cs_undo hr (by first | decide | omega) takes0 (pv 14))))
          pss_nil)))))))
        pss_nil))))))
      (pss_one (ps_ret (pe_k c_law_is_at hr (by first | decide | omega) (by rfl) (pa_cons (pv 4) (pa_cons (pv 2) (pa_cons (pv 3) (pa_cons (pv 7) pa_nil)))))))))))))), ?_⟩
    -- draws
    refine q_asgE ⟨.ref a, rfl, a, ns, rfl, hS, hlen, fun H1 d ds s1 nd hd hok => ?_⟩
    have hD1 : SqL K H1 d (ds.map V.int) := .of hd
    -- net
    refine q_asgE ⟨.ref d, rfl, by show 2 ≤ sizeLine; decide, fun M nM => ?_⟩
    have sM := same_upd (o := .lst [.int 7, .int 20]) nM
    refine ⟨.ref d, rfl, d, ds, 29, 16, rfl, sM.seq hD1, by decide, by decide, fun r hr' => ⟨rfl, .inr ⟨decide (V.int r = V.int 5), rfl, ?_⟩⟩⟩
    obtain ⟨m, hm1, hm2, hm⟩ : ∃ m : Int, 1 ≤ m ∧ m ≤ 40 ∧ atI [V.int 7, V.int 20] (if decide (V.int r = V.int 5) = true then 1 else 0) = some (.int m) := by
      by_cases c : decide (V.int r = V.int 5) = true
      · rw [if_pos c]
        exact ⟨20, by decide, by decide, rfl⟩
      · rw [if_neg c]
        exact ⟨7, by decide, by decide, rfl⟩
    refine ⟨M, _, _, .int m, rfl, rfl, .of upd_same, hm, d, ds, 0, m, rfl, sM.seq hD1, by decide, hm1, hm2, fun H2 v N s2 hN ok hn => ?_⟩
    obtain ⟨pn, c, xs, rfl, hp, hc, hx⟩ := id hN
    have n1 := ok.n1
    have n40 := ok.n40
    have s12 := sM.trans s2
    -- order
    refine q_asgE ⟨.ref d, rfl, (vl_ixT (K := K) (vl_var rfl) vl_c (.of hp) (atI_nat (j := 0) rfl)) _ ⟨d, ds, 30, N.n, rfl, s12.seq hD1, by decide, by omega, by omega, fun H3 po os s3 npo epo oo => ?_⟩⟩
    have ol := oo.len
    have hN3 := hN.to s3
    -- session
    refine q_asgE ⟨.ref pn, rfl, .ref po, rfl, fun px dx npx ndx nexp => ?_⟩
    have ep6 := upd_same (H := upd H3 dx (.own px)) (a := px) (o := .ins CS dx [])
    have sb : Same H3 (but (upd (upd H3 dx (.own px)) px (.ins CS dx [])) px) := by
      rw [but_upd]
      exact same_but (same_upd ndx) npx
    generalize upd (upd H3 dx (.own px)) px (.ins CS dx []) = H6 at ep6 sb
    refine ⟨px, dx, po, .ref pn, N, os, rfl, ep6, Dp.to hN3.dp sb, ok, sb _ _ epo, oo, fun H9 A rows pA dA uA fr7 new7 hS7 => ⟨rfl, ?_⟩⟩
    subst pA
    have sG : Same H3 (buts A.m H9) := sb.trans fr7
    have hS9 : SesAt CS H9 A ⟨N.n, endsL N.ls, os, linkW N.ls, rows, [], []⟩ := hS7.to fun x u e => (unl_at e).2
    clear hS7 new7
    have eSN : (⟨N.n, netL (endsL N.ls) (linkW N.ls)⟩ : Net) = N := by rw [net_self ok]
    generalize eS0 : (⟨N.n, endsL N.ls, os, linkW N.ls, rows, [], []⟩ : SesS) = S0 at hS9
    have eSN0 : S0.N = N := by rw [← eS0]; exact eSN
    have sG9 := sG.trans buts_same
    have hN9 := hN3.to sG9
    -- found
    refine q_asgE ⟨.ref pn, rfl, .ref po, rfl, .ref pn, N, po, os, rfl, hN9.dp, ok, .of (sG9 _ _ epo), oo, fun Hb fp ts sc nfp efp hT => ?_⟩
    have hSb := hS9.to sc
    -- history, looked
    refine q_asgE ⟨Nat.zero_le _, fun h0 nh0 => ?_⟩
    have sh0 := same_upd (o := .lst []) nh0
    have eh0 := upd_same (H := Hb) (a := h0) (o := .lst [])
    generalize upd Hb h0 (.lst []) = Hh at sh0 eh0
    refine q_asgE ⟨Nat.zero_le _, fun lk0 nlk0 => ?_⟩
    have sl := same_upd (o := .lst []) nlk0
    have elk := upd_same (H := Hh) (a := lk0) (o := .lst [])
    generalize upd Hh lk0 (.lst []) = Hc at sl elk
    have sbc := sh0.trans sl
    have eh0c := sl _ _ eh0
    have nB : Same (buts A.m Hb) (buts (h0 :: A.m) Hc) := fun x u e => by
      obtain ⟨n, e'⟩ := buts_no e
      rw [buts_ne fun z => (List.mem_cons.mp z).elim (fun z => by rw [z, nh0] at e'; cases e') n]
      exact sbc _ _ e'
    have sGc : Same H3 (buts (h0 :: A.m) Hc) := sG.trans ((buts_mono (as := A.m) sc).trans nB)
    have lk00 : S0.look = [] := by rw [← eS0]
    have und00 : S0.und = [] := by rw [← eS0]
    have lkh : lk0 ≠ h0 := fun z => by rw [z, eh0] at nlk0; cases nlk0
    have W0 : LwU K CS d po fp ds ts N.n (endsL N.ls) os (pairsL N.ls os) Hc A S0 (.ref pn) h0 lk0 [] [] :=
      ⟨hSb.to (same_but sbc nh0), by rw [← eS0], by rw [← eS0], by rw [← eS0],
        ⟨(s12.trans (s3.trans sGc)).seq hD1, sGc _ _ epo, nB _ _ (by rw [buts_ne (hS9.nt.no nfp)]; exact efp), (hSb.nt.tups hT).to nB, by rw [eSN0]; exact (hN3.to sGc).dp, ⟨[], by rw [buts_ne fun z => (List.mem_cons.mp z).elim lkh ((hSb.to sh0).nt.no nlk0)]; exact elk, by rw [lk00]; exact TupsAt.nil⟩, .nil⟩,
        eh0c, by rw [und00]; exact .nil, fun x hx => (nomatch hx), fun u hu => by rw [und00] at hu; cases hu⟩
    have lL := pairsL_len ok oo
    have eok := ends_ok ok
    refine q_forRA (m := 9) (fun Q k => ⟨.ref d, rfl, d, ds, 39, 9, rfl, buts_same.seq W0.bs.d, by decide, by decide, fun r hr' => k r hr'.1 hr'.2⟩) fun nT hn0 hn9 => ?_
    clear hS9 hSb
    refine q_forR (n := nT) (fun Q q => q) (by omega)
      (fun i σ H' => ∃ y8 y9 y10 y11 y12 y13 y14 y15 A S nv h lk vs hs, σ = [some (.ref a), some (.ref d), some nv, some (.ref po), some (.ref A.p), some (.ref fp), some (.ref h), some (.ref lk), y8, y9, y10, y11, y12, y13, y14, y15] ∧ LwU K CS d po fp ds ts N.n (endsL N.ls) os (pairsL N.ls os) H' A S nv h lk vs hs ∧ hs.length ≤ i)
      ⟨_, _, _, _, _, _, _, _, A, S0, .ref pn, h0, lk0, [], [], rfl, W0, by show 0 ≤ 0; omega⟩ (fun i σ Hi hi hP => ?_) (fun σ Hf hP => ?_)
    · obtain ⟨y8, y9, y10, y11, y12, y13, y14, y15, A, S, nv, h, lk, vs, hs, rfl, W, lhs⟩ := hP
      -- deed
      refine q_asgE ⟨.ref d, rfl, (vl_I0 (g := fun i j => .int (i + j)) vl_c (vl_var rfl)) _ ⟨d, ds, 40 + i, 5, rfl, buts_same.seq W.bs.d, by omega, by decide, fun r hr' => ?_⟩⟩
      refine q_cut (M := fun σ' H' => ∃ y10 y11 y12 y13 y14 y15 A S nv h lk vs hs, σ' = [some (.ref a), some (.ref d), some nv, some (.ref po), some (.ref A.p), some (.ref fp), some (.ref h), some (.ref lk), some (.int i), some (.int r), y10, y11, y12, y13, y14, y15] ∧ LwU K CS d po fp ds ts N.n (endsL N.ls) os (pairsL N.ls os) H' A S nv h lk vs hs ∧ hs.length ≤ i + 1) ?_ (fun σ' Hg hM => ?_)
      · refine g_if (b := decide (r < 3)) (an_test (vl_I0 (g := fun i j => .bl (decide (i < j))) (vl_var rfl) vl_c)) (fun c3 => ?_) (fun c3 => ?_)
        · have c3 := of_decide_eq_true c3
          have hnetH := Dp.to W.bs.net (buts_same (as := h :: A.m))
          -- edits
          refine q_asgE ⟨.ref d, rfl, (vl_I0 (g := fun i j => .int (i + j)) vl_c (vl_var rfl)) _ ⟨nv, rfl, by show 4 ≤ sizeLine; decide, fun M nM => te_idx18 (K := K) (r := r) ⟨hr'.1, c3⟩ rfl (fun Q q => ?_) (fun x hx => ?_)⟩⟩
          · exact ⟨.ref d, rfl, (vl_I0 (g := fun i j => .int (i + j)) vl_c (vl_var rfl)) _ ⟨d, ds, 40 + i, 7, rfl, (same_upd nM).seq (buts_same.seq W.bs.d), by omega, by decide, fun r _ => q r⟩⟩
          obtain ⟨m, hm0, hm3, hmx⟩ := idx18 hx
          have sM := same_upd (o := .lst [.int 1, .int 1, .int 3, .int 0]) nM
          refine ⟨M, _, _, .int m, rfl, rfl, .of upd_same, hmx, d, ds, 49 + i, m, nv, S.N, rfl, sM.seq (buts_same.seq W.bs.d), by omega, hm0, by omega, Dp.to hnetH sM, W.ses.ok, fun He qe te eds se nqe eqe hde leds hok => ?_⟩
          have hok : ∀ e ∈ eds, okE S.es e = true := fun e he => by
            have := hok e he
            rwa [show endsL S.N.ls = S.es from ends_net] at this
          have leds : eds.length ≤ 3 := by omega
          have sie := sM.trans (se.trans but_same)
          have nqe := Same.free sM nqe
          have We := W.to sie
          have hnm := W.hm
          have ntE : NT (h :: A.m) He := We.ses.nt.cons We.hh
          have ntI : NT (h :: A.m) Hi := W.ses.nt.cons W.hh
          have qem : qe ∉ h :: A.m := ntI.no nqe
          have hEds : Dp K (buts (h :: A.m) He) (.ref qe) (.list (eds.map edD)) := .lst (.of (by rw [buts_ne qem]; exact eqe)) (ntE.eds (DpAll.to hde but_same))
          -- after
          refine q_asgE ⟨nv, rfl, .ref qe, rfl, nv, .ref qe, S.N, eds, rfl, Dp.to We.bs.net buts_same, We.ses.ok, Dp.to hEds buts_same, by omega, fun H2 T2 Lc tl s2 nLc eT2 eLc hL2 => ?_⟩
          have hnetE : (⟨S.N.n, netL (endsL S.N.ls) (setW (linkW S.N.ls) eds)⟩ : Net) = ⟨S.n, netL S.es (setW S.lk eds)⟩ := by
            show (⟨S.n, netL (endsL (netL S.es S.lk)) (setW (linkW (netL S.es S.lk)) eds)⟩ : Net) = _
            rw [changed_net We.ses.eok]
          have hpr : ∀ x y, PriceOk (setW S.lk eds x y) := setW_ok We.ses.pok fun z hz => by
            have := hok z hz
            unfold okE at this
            rw [Bool.and_eq_true] at this
            exact priceB_iff.mp this.2
          have ok1 : NetOk ⟨S.n, netL S.es (setW S.lk eds)⟩ := net_ok We.ses.ok.n1 We.ses.ok.n40 We.ses.eok hpr
          generalize eN1 : (⟨S.n, netL S.es (setW S.lk eds)⟩ : Net) = N1 at hnetE ok1
          have en1 : N1.n = S.n := by rw [← eN1]
          have nt2 := ntE.to s2
          have W2 := We.to s2
          have hNet2 : Dp K (buts (h :: A.m) H2) (.ref T2) (netD N1) := by
            rw [← hnetE]
            exact .tup (.of (by rw [buts_ne (nt2.tup eT2)]; exact eT2)) (.cons (.int _) (.cons (.lst (.of (by rw [buts_ne (ntE.no nLc)]; exact eLc)) (nt2.lnks hL2)) .nil))
          have oo1 : OrdOk N1.n os := by rw [en1, ← W.hos]; exact W.ses.oo
          have ooS : OrdOk S.N.n os := by rw [← W.hos]; exact W.ses.oo
          have flS : FillOk S.N os S.rows := by rw [← W.hos]; exact W.ses.fl
          -- due
          refine q_asgE ⟨nv, rfl, .ref po, rfl, nv, S.N, po, os, rfl, Dp.to W2.bs.net buts_same, W2.ses.ok, .of (buts_same _ _ W2.bs.po), ooS, fun H3 rp1 rs1 rows1 s3 nrp1 erp1 hrs1 hF1 => ⟨.ref T2, rfl, .ref po, rfl, .ref T2, N1, po, os, rfl, Dp.to hNet2 (buts_same.trans s3), ok1, .of (s3 _ _ (buts_same _ _ W2.bs.po)), oo1, fun H4 rp2 rs2 rows2 s4 nrp2 erp2 hrs2 hF2 => ?_⟩⟩
          have er1 := fill_uniqueS W2.ses.ok ooS hF1 flS
          rw [er1] at hrs1
          have epp : pairsL N1.ls os = pairsL S.N.ls os := pairsL_ends (by rw [← eN1]; show endsL (netL S.es _) = endsL (netL S.es S.lk); rw [ends_net, ends_net])
          refine ⟨.ref rp1, .ref rp2, S.N, N1, os, S.rows, rows2, rfl, .lst (.of (s4 _ _ erp1)) (DpAll.to hrs1 s4), .lst (.of erp2) hrs2, W2.ses.ok, ok1, ooS, oo1, flS, hF2, epp, fun H5 qd td s5 nqd eqd hdd => ?_⟩
          have eLL : S.L = pairsL N.ls os := by
            rw [show S.L = pairsL S.N.ls S.os from rfl, W.hos]
            exact pairsL_ends (by show endsL (netL S.es S.lk) = _; rw [ends_net]; exact W.hes)
          have epS : pairsL S.N.ls os = S.L := by rw [← W.hos]; rfl
          rw [epS] at hdd
          have lSL : S.L.length ≤ 1600 := by rw [eLL]; exact lL
          have lW : (wysL S.L).length ≤ 3200 := by rw [wys_len]; omega
          generalize ecs : (wysL S.L).filter (chB (wv S.rows) (wv rows2)) = cs at hdd
          have lcs : cs.length ≤ 3200 := by rw [← ecs]; exact Nat.le_trans (List.length_filter_le _ _) lW
          have s35 := s3.trans (s4.trans (s5.trans but_same))
          have W5 := W2.to s35
          have nt4 := nt2.to (s3.trans s4)
          have nt5 := nt2.to s35
          have hdd : DpAll K (buts (h :: A.m) H5) td (cs.map (chgD (wv S.rows) (wv rows2))) := by
            have := DpAll.to hdd but_same
            rw [chgD_lnk] at this ⊢
            exact nt5.lnks this
          have hDue5 : Dp K (buts (h :: A.m) H5) (.ref qd) (.list (cs.map (chgD (wv S.rows) (wv rows2)))) := .lst (.of (by rw [buts_ne (nt4.no nqd)]; exact eqd)) hdd
          have s25 := buts_mono (as := h :: A.m) s35
          have hEds5 := Dp.to hEds ((buts_mono (as := h :: A.m) s2).trans s25)
          have hNet5 := Dp.to hNet2 s25
          have ses5 := W5.sesH
          obtain ⟨ro, en, pa, ab, lkd, e1, _⟩ := ses5.im
          -- the call
          refine q_whenE ⟨.ref A.p, rfl, A.p, _, _, rfl, e1, fldZ_no (by decide +kernel), .ref qe, rfl, A, S, .ref qe, eds, rfl, ses5, Dp.to hEds5 buts_same, by omega, by have := W.len; omega, noBad hok, fun _ a' na H6 q6 ts6 rows6 nq6 eq6 hd6 fr6 kp6 hS6 => ?_⟩
          have hvw : setW S.lk (valE eds) = setW S.lk eds := funext fun x => funext fun y => (valE_eq (lk := S.lk) rfl hok).1 x y
          have hvd : domU (valE eds) = domU eds := funext fun p => (valE_eq (lk := S.lk) rfl hok).2 p
          have lvE := (valE_ok rfl hok).2
          have hov := W5.ses.over (us := A.us ++ [a']) (xs := vs) W5.hh fr6 kp6 hS6 rfl rfl nq6
          generalize eS1 : (S.push (oldU S (valE eds))).mend (valE eds) rows6 = S1 at hS6 hov
          have hN1 : S1.N = N1 := by
            rw [← eS1, ← eN1]
            show (⟨S.n, netL S.es (setW S.lk (valE eds))⟩ : Net) = _
            rw [hvw]
          have hR1 : S1.rows = rows6 := by rw [← eS1]; rfl
          have hFl6 : FillOk N1 os rows6 := by
            have := hS6.fl
            rw [hN1, hR1] at this
            have eo : S1.os = os := by rw [← eS1]; exact W.hos
            rwa [eo] at this
          have er2 := fill_uniqueS ok1 oo1 hFl6 hF2
          rw [er2] at hd6 eS1
          have hcs : (chgL S rows2).map (chgD (wv S.rows) (wv rows2)) = cs.map (chgD (wv S.rows) (wv rows2)) := by rw [← ecs]; rfl
          rw [hcs] at hd6
          have f56 : Same (buts (h :: A.m) H5) (buts (h :: A.m) H6) := same_frE fr6
          have hDue6 := Dp.to hDue5 f56
          refine ⟨.ref qd, rfl, .list (cs.map (chgD (wv S.rows) (wv rows2))), .list (cs.map (chgD (wv S.rows) (wv rows2))), .lst (.of eq6) (DpAll.to hd6 buts_same), Dp.to hDue6 buts_same, shaped_chg _ _ _, shaped_chg _ _ _, _, rfl, ?_⟩
          rw [refl_of (shaped_chg _ _ _)]
          refine iteF ?_
          -- looked
          have bs6 := W5.bs.to f56
          have hEds6 := Dp.to hEds5 f56
          have hNet6 := Dp.to hNet5 f56
          refine q_asgE ⟨.ref fp, rfl, .ref po, rfl, .ref qe, rfl, .ref qd, rfl, fp, po, .ref qe, .ref qd, S.L, ts, os, eds, cs, wv S.rows, wv rows2, rfl, buts_same _ _ bs6.fp, (by rw [eLL]; exact bs6.tp.to buts_same), .of (buts_same _ _ bs6.po), by omega, Dp.to hEds6 buts_same, by omega, Dp.to hDue6 buts_same, by omega, lSL, fun H7 qn tn s7 nqn eqn hTn => ?_⟩
          have hK1 : S1.look = (wysL S.L).filter (lkB S.L S.os (domU eds) (wv S.rows) (wv rows2)) := by
            rw [← eS1]
            show (wysL S.L).filter (lkB S.L S.os (domU (valE eds)) (wv S.rows) (wv rows2)) = _
            rw [hvd]
          have hTn : TupsAt (but H7 qn) tn S1.look := by
            rw [hK1, W.hos, ← look_eq, ecs]
            exact hTn
          have s7' := s7.trans but_same
          have hh6 : H6 h = some (.lst vs) := buts_same _ _ (fr6 _ _ (by rw [buts_ne hnm]; exact W5.hh))
          have hh7 := s7' _ _ hh6
          have lvs : vs.length = hs.length := by
            have := DpAll.len W.bs.his
            rwa [List.length_map] at this
          refine q_appE (vl_var rfl) hh7 ⟨nv, rfl, .ref qe, rfl, by show 2 ≤ sizeLine; decide, fun U nU => ⟨h, vs, .ref U, rfl, rfl, same_upd nU _ _ hh7, Nat.lt_of_le_of_lt (m := 1000) (by omega) (by decide), ?_⟩⟩
          have sU := same_upd (o := .tup [nv, .ref qe]) nU
          have eU := upd_same (H := H7) (a := U) (o := .tup [nv, .ref qe])
          generalize upd H7 U (.tup [nv, .ref qe]) = H8 at sU eU
          have s68 := s7'.trans sU
          have s68b := buts_mono (as := h :: A.m) s68
          have nt6 : NT (h :: A.m) H6 := (hov.nt.cons (q := h) (H := but H6 q6) (by rw [but_ne fun z => by have := W5.hh; rw [z, nq6] at this; cases this]; exact hh6)).to but_same
          have nt7 := nt6.to s7'
          have bs8 := bs6.to s68b
          have hes8 : S1.es = endsL N.ls := by rw [← eS1]; exact W.hes
          have eSN : (⟨N.n, netL (endsL N.ls) S.lk⟩ : Net) = S.N := by
            show _ = (⟨S.n, netL S.es S.lk⟩ : Net)
            rw [W.hn, W.hes]
          refine g_asgE ⟨.ref T2, rfl, _, _, _, _, _, _, A.push a', S1, .ref T2, h, qn, vs ++ [.ref U], hs ++ [(S.lk, eds)], rfl, W.app (A' := A.push a') (H' := H8) rfl (hov.to (but_mono (but_same.trans s68))) (by rw [← eS1]; exact W.hn) hes8 (by rw [← eS1]; exact W.hos) ⟨bs8.d, bs8.po, bs8.fp, bs8.tp, by rw [hN1]; exact Dp.to hNet6 s68b, ⟨tn, by rw [buts_ne (nt6.no nqn)]; exact sU _ _ eqn, (nt7.tups (hTn.to but_same)).to (buts_mono sU)⟩, bs8.his⟩ ?_ ?_ ?_ ?_, by rw [List.length_append]; show hs.length + 1 ≤ i + 1; omega⟩
          · have hEds8 := Dp.to hEds6 s68b
            refine .tup (.of (by rw [buts_ne (nt7.no nU)]; exact eU)) (.cons ?_ (.cons hEds8 .nil))
            rw [eSN]
            exact bs8.net
          · have e1 : S1.lk = setW S.lk (valE eds) := by rw [← eS1]; rfl
            have e2 : S1.und = S.und ++ [oldU S (valE eds)] := by rw [← eS1]; rfl
            rw [e1, e2]
            refine .snoc W.past (fun e he => by rw [← W.hes]; exact hok e he) (fun x y _ => (valE_eq (lk := S.lk) rfl hok).1 x y) ?_ fun z hz => ?_
            · unfold oldU
              rw [List.map_map]
              rfl
            · obtain ⟨z', _, rfl⟩ := List.mem_map.mp hz
              rfl
          · exact ⟨by rw [eSN]; exact W.ses.ok, leds, W.ses.pok⟩
          · have e2 : S1.und = S.und ++ [oldU S (valE eds)] := by rw [← eS1]; rfl
            rw [e2]
            intro u hu
            rcases List.mem_append.mp hu with hu | hu
            · exact W.uls u hu
            · rw [List.mem_singleton.mp hu]
              unfold oldU
              rw [List.length_map]
              omega
        · refine g_ifx (b := decide (hs = [])) (fun Q kk => ⟨.ref h, rfl, Nat.zero_le _, fun L nL => ⟨.list (hs.map (hisD N.n (endsL N.ls))), .list [], .lst (.of (same_upd nL _ _ W.hh)) (DpAll.to W.bs.his (buts_same.trans (same_upd nL))), .lst (.of upd_same) .nil, his_shaped _, rfl, _, rfl, by rw [isE_his]; exact kk _ (same_upd nL)⟩⟩) (fun ch Hj sj => ?_) (fun ch Hj sj => ?_)
          · have ch := of_decide_eq_true ch
            have hund : S.und = [] := List.length_eq_zero_iff.mp (by rw [W.len, ch]; rfl)
            exact g_whenx (b := false) (fun Q kk => ⟨.ref A.p, rfl, A, S, rfl, (W.to sj).sesH, hund, fun H2 s2 => ⟨true, rfl, kk _ s2⟩⟩) (fun z => nomatch z) (fun _ Hk sk => ⟨_, _, _, _, _, _, A, S, nv, h, lk, vs, hs, rfl, W.to (sj.trans sk), by omega⟩)
          have Wj := W.to sj
          clear W
          obtain ⟨hs', f0, eds, us', u, rfl, eund, hpast, hok, hset, eu⟩ := Past.inv Wj.past (of_decide_eq_false ch)
          have lvs : vs.length = hs'.length + 1 := by
            have := DpAll.len Wj.bs.his
            rw [List.length_map, List.length_append] at this
            exact this
          obtain ⟨vs', y, rfl⟩ : ∃ vs' y, vs = vs' ++ [y] := by
            have hne : vs ≠ [] := fun z => by rw [z] at lvs; cases lvs
            exact ⟨_, _, (List.dropLast_concat_getLast hne).symm⟩
          have hlx := Wj.hok (f0, eds) (List.mem_append.mpr (.inr List.mem_cons_self))
          have leds : eds.length ≤ 3 := hlx.2.1
          obtain ⟨hb1, hb2⟩ := Wj.cut
          have hb2 : Dp K (buts (h :: A.m) Hj) y (.tuple [netD ⟨N.n, netL (endsL N.ls) f0⟩, .list (eds.map edD)]) := hb2
          obtain ⟨t, xs2, rfl, ht, hx2⟩ := Dp.tup_inv hb2
          obtain ⟨bv, ev, rfl, hbv, hev⟩ : ∃ bv ev, xs2 = [bv, ev] ∧ Dp K (buts (h :: A.m) Hj) bv (netD ⟨N.n, netL (endsL N.ls) f0⟩) ∧ Dp K (buts (h :: A.m) Hj) ev (.list (eds.map edD)) := by
            cases hx2 with
            | cons h1 h2 =>
              cases h2 with
              | cons h3 h4 =>
                cases h4
                exact ⟨_, _, rfl, h1, h3⟩
          refine q_asgT2 (vl_ixL (K := K) (vl_var rfl) (vl_neg (p := 1) vl_c) (.of Wj.hh) at_last8) (seqT buts_same ht) ?_
          have ok1 : NetOk ⟨N.n, netL (endsL N.ls) f0⟩ := hlx.1
          generalize eN1 : (⟨N.n, netL (endsL N.ls) f0⟩ : Net) = N1 at hbv ok1
          have en1 : N1.n = S.n := by rw [← eN1]; exact Wj.hn.symm
          have ntJ : NT (h :: A.m) Hj := Wj.ses.nt.cons Wj.hh
          have hnm := Wj.hm
          have oo1 : OrdOk N1.n os := by rw [en1, ← Wj.hos]; exact Wj.ses.oo
          have ooS : OrdOk S.N.n os := by rw [← Wj.hos]; exact Wj.ses.oo
          have flS : FillOk S.N os S.rows := by rw [← Wj.hos]; exact Wj.ses.fl
          -- due
          refine q_asgE ⟨nv, rfl, .ref po, rfl, nv, S.N, po, os, rfl, Dp.to Wj.bs.net buts_same, Wj.ses.ok, .of (buts_same _ _ Wj.bs.po), ooS, fun H3 rp1 rs1 rows1 s3 nrp1 erp1 hrs1 hF1 => ⟨bv, rfl, .ref po, rfl, bv, N1, po, os, rfl, Dp.to hbv (buts_same.trans s3), ok1, .of (s3 _ _ (buts_same _ _ Wj.bs.po)), oo1, fun H4 rp2 rs2 rows2 s4 nrp2 erp2 hrs2 hF2 => ?_⟩⟩
          have er1 := fill_uniqueS Wj.ses.ok ooS hF1 flS
          rw [er1] at hrs1
          have epp : pairsL N1.ls os = pairsL S.N.ls os := pairsL_ends (by rw [← eN1]; show endsL (netL _ _) = endsL (netL S.es S.lk); rw [ends_net, ends_net]; exact Wj.hes.symm)
          refine ⟨.ref rp1, .ref rp2, S.N, N1, os, S.rows, rows2, rfl, .lst (.of (s4 _ _ erp1)) (DpAll.to hrs1 s4), .lst (.of erp2) hrs2, Wj.ses.ok, ok1, ooS, oo1, flS, hF2, epp, fun H5 qd td s5 nqd eqd hdd => ?_⟩
          have eLL : S.L = pairsL N.ls os := by
            rw [show S.L = pairsL S.N.ls S.os from rfl, Wj.hos]
            exact pairsL_ends (by show endsL (netL S.es S.lk) = _; rw [ends_net]; exact Wj.hes)
          have epS : pairsL S.N.ls os = S.L := by rw [← Wj.hos]; rfl
          rw [epS] at hdd
          have lSL : S.L.length ≤ 1600 := by rw [eLL]; exact lL
          have lW : (wysL S.L).length ≤ 3200 := by rw [wys_len]; omega
          generalize ecs : (wysL S.L).filter (chB (wv S.rows) (wv rows2)) = cs at hdd
          have lcs : cs.length ≤ 3200 := by rw [← ecs]; exact Nat.le_trans (List.length_filter_le _ _) lW
          have s35 := s3.trans (s4.trans (s5.trans but_same))
          have W5 := Wj.to s35
          have nt4 := ntJ.to (s3.trans s4)
          have nt5 := ntJ.to s35
          have hdd : DpAll K (buts (h :: A.m) H5) td (cs.map (chgD (wv S.rows) (wv rows2))) := by
            have := DpAll.to hdd but_same
            rw [chgD_lnk] at this ⊢
            exact nt5.lnks this
          have hDue5 : Dp K (buts (h :: A.m) H5) (.ref qd) (.list (cs.map (chgD (wv S.rows) (wv rows2)))) := .lst (.of (by rw [buts_ne (nt4.no nqd)]; exact eqd)) hdd
          have s25 := buts_mono (as := h :: A.m) s35
          have hEds5 := Dp.to hev s25
          have hNet5 := Dp.to hbv s25
          have hb15 := DpAll.to hb1 s25
          have ses5 := W5.sesH
          obtain ⟨ro, en, pa, ab, lkd, e1, _⟩ := ses5.im
          -- the call
          refine q_whenE ⟨.ref A.p, rfl, A.p, _, _, rfl, e1, fldZ_no (by decide +kernel), A, S, rfl, ses5, W5.uls, (fun z => by rw [eund] at z; exact absurd (congrArg List.length z) (by simp)), fun us a' und u' eA eU => fun H6 q6 ts6 rows6 nq6 eq6 hd6 fr6 ra6 kp6 hS6 => ?_⟩
          obtain ⟨e2, e3⟩ := List.append_inj' (eU.symm.trans eund) rfl
          have e3 : u' = u := (List.cons.inj e3).1
          subst e2
          subst e3
          have hpop := ses5.ud
          rw [eA, eU] at hpop
          have ra5 := hpop.pop.2
          have al : a' ≠ A.lo := fun z => ses5.nlo (by rw [eA, z]; exact List.mem_append.mpr (.inr List.mem_cons_self))
          have ah : h ≠ a' := rd_ne ra5 (by rw [buts_ne hnm]; exact W5.hh) notL
          have ra5h : Rd (buts (h :: A.m) H5) a' (.dT (undK u')) := by
            have k : ∀ {v}, buts A.m H5 a' = some v → buts (h :: A.m) H5 a' = some v := fun {v} e => by
              obtain ⟨n, e'⟩ := buts_no e
              rw [buts_ne fun z => (List.mem_cons.mp z).elim (fun z => ah z.symm) n]
              exact e'
            exact ra5.imp k fun ⟨o, e⟩ => ⟨o, k e⟩
          have hov := W5.ses.over2 (us := us) (xs := vs' ++ [.ref t]) W5.hh ra5 al fr6 kp6 hS6 rfl rfl nq6
          have vok := valE_ok rfl hok
          have back : ∀ x y, (x, y) ∈ wysL (endsL N.ls) → setW S.lk u' x y = f0 x y := fun x y hm => by
            rw [eu]
            exact setW_back vok.1.nd ((hset x y hm).trans ((valE_eq (lk := f0) rfl hok).1 x y).symm)
          have hvd : domU u' = domU eds := funext fun p => by
            rw [eu]
            exact (domU_old (g := fun w : Int × Int => f0 w.1 w.2) p).trans ((valE_eq (lk := f0) rfl hok).2 p)
          generalize eS1 : (S.put und).mend u' rows6 = S1 at hS6 hov
          have hN1 : S1.N = N1 := by
            rw [← eS1, ← eN1]
            show (⟨S.n, netL S.es (setW S.lk u')⟩ : Net) = _
            rw [W5.hn, W5.hes]
            rw [netL_congr fun e he => ⟨back _ _ (mem_wys.mpr (.inl he)), back _ _ (mem_wys.mpr (.inr he))⟩]
          have hR1 : S1.rows = rows6 := by rw [← eS1]; rfl
          have hFl6 : FillOk N1 os rows6 := by
            have := hS6.fl
            rw [hN1, hR1] at this
            have eo : S1.os = os := by rw [← eS1]; exact W5.hos
            rwa [eo] at this
          have er2 := fill_uniqueS ok1 oo1 hFl6 hF2
          rw [er2] at hd6 eS1
          have hcs : (chgL S rows2).map (chgD (wv S.rows) (wv rows2)) = cs.map (chgD (wv S.rows) (wv rows2)) := by rw [← ecs]; rfl
          rw [hcs] at hd6
          have f56 : Same (buts [a'] (buts (h :: A.m) H5)) (buts (h :: A.m) H6) := same_frU fr6
          have hDue6 := Dp.to (dp_noD ra5h hDue5) f56
          refine ⟨.ref qd, rfl, .list (cs.map (chgD (wv S.rows) (wv rows2))), .list (cs.map (chgD (wv S.rows) (wv rows2))), .lst (.of eq6) (DpAll.to hd6 buts_same), Dp.to hDue6 buts_same, shaped_chg _ _ _, shaped_chg _ _ _, _, rfl, ?_⟩
          rw [refl_of (shaped_chg _ _ _)]
          refine iteF ?_
          -- looked
          have bs6 := (W5.bs.noD ra5h).to f56
          have hEds6 := Dp.to (dp_noD ra5h hEds5) f56
          have hNet6 := Dp.to (dp_noD ra5h hNet5) f56
          have hb16 := DpAll.to (dpAll_noD ra5h hb15) f56
          refine q_asgE ⟨.ref fp, rfl, .ref po, rfl, ev, rfl, .ref qd, rfl, fp, po, ev, .ref qd, S.L, ts, os, eds, cs, wv S.rows, wv rows2, rfl, buts_same _ _ bs6.fp, (by rw [eLL]; exact bs6.tp.to buts_same), .of (buts_same _ _ bs6.po), by omega, Dp.to hEds6 buts_same, by omega, Dp.to hDue6 buts_same, by omega, lSL, fun H7 qn tn s7 nqn eqn hTn => ?_⟩
          have hK1 : S1.look = (wysL S.L).filter (lkB S.L S.os (domU eds) (wv S.rows) (wv rows2)) := by
            rw [← eS1]
            show (wysL S.L).filter (lkB S.L S.os (domU u') (wv S.rows) (wv rows2)) = _
            rw [hvd]
          have hTn : TupsAt (but H7 qn) tn S1.look := by
            rw [hK1, W5.hos, ← look_eq, ecs]
            exact hTn
          have s7' := s7.trans but_same
          have hh6 : H6 h = some (.lst (vs' ++ [.ref t])) := buts_same _ _ (fr6 _ _ (by rw [buts_ne fun z => (List.mem_cons.mp z).elim ah hnm]; exact W5.hh))
          have hh7 := s7' _ _ hh6
          refine q_asg (vl_var rfl) ?_
          refine g_asgE ((vn_slice (K := K) (lo := none) (hi := some (-1)) (vl_var rfl) (fun _ q => q) (fun Q q => (vl_neg vl_c) _ ⟨_, rfl, q⟩) (.of hh7)) _ fun hn H8 sU nhn eU' => ?_)
          rw [cut_last8] at eU'
          have s68 := s7'.trans sU
          have nt6 : NT (h :: A.m) H6 := (hov.nt.cons (q := h) (H := but H6 q6) (by rw [but_ne fun z => by have := W5.hh; rw [z, nq6] at this; cases this]; exact hh6)).to but_same
          have nt7 := nt6.to s7'
          have s8n : Same (buts (h :: A.m) H7) (buts (hn :: A.m) H8) := fun x v e => by
            obtain ⟨n, e'⟩ := buts_no e
            rw [buts_ne fun z => (List.mem_cons.mp z).elim (fun z => by rw [z, nhn] at e'; cases e') fun z => n (List.mem_cons_of_mem _ z)]
            exact sU _ _ e'
          have s68b := (buts_mono (as := h :: A.m) s7').trans s8n
          have bs8 := bs6.to s68b
          have hes8 : S1.es = endsL N.ls := by rw [← eS1]; exact W5.hes
          have eu1 : S1.und = und := by rw [← eS1]; rfl
          have el1 : S1.lk = setW S.lk u' := by rw [← eS1]; rfl
          refine ⟨_, _, _, _, _, _, A.put us, S1, bv, hn, qn, vs', hs', rfl, ⟨hov.to (same_but ((but_same.trans but_same).trans s68) ?_), by rw [← eS1]; exact W5.hn, hes8, by rw [← eS1]; exact W5.hos, ⟨bs8.d, bs8.po, bs8.fp, bs8.tp, by rw [hN1]; exact Dp.to hNet6 s68b, ⟨tn, s8n _ _ (by rw [buts_ne (nt6.no nqn)]; exact eqn), (nt7.tups (hTn.to but_same)).to s8n⟩, DpAll.to hb16 s68b⟩, eU', ?_, fun x hx => Wj.hok x (List.mem_append.mpr (.inl hx)), fun u hu => W5.uls u (by rw [eU]; rw [eu1] at hu; exact List.mem_append.mpr (.inl hu))⟩, by rw [List.length_append] at lhs; exact Nat.le_trans (Nat.le_of_succ_le lhs) (Nat.le_succ _)⟩
          · have : H6 hn = none := Same.free s7' nhn
            by_cases z : hn = h
            · rw [z, but_at]
            · rw [but_ne z]
              by_cases z2 : hn = q6
              · rw [z2, but_at]
              · rw [but_ne z2]
                exact this
          · rw [eu1, el1]
            exact hpast.to back
      · obtain ⟨y10, y11, y12, y13, y14, y15, A, S, nv, h, lk, vs, hs, rfl, W, lhs⟩ := hM
        have lund : S.und.length ≤ 9 := by
          have := W.len
          omega
        -- refused, as it is
        refine q_whenx (b := false) (ax_or (k := false) (m := false) (fun Q kk => ⟨.ref A.p, rfl, nv, rfl, A, S, nv, rfl, W.sesH, by omega, Dp.to W.bs.net buts_same, fun H2 s2 => ⟨true, rfl, kk _ s2⟩⟩) (fun _ H1 s1 => is_at18 (W.to s1) (i4 := 4) (i2 := 2) (i3 := 3) (i7 := 7) rfl rfl rfl rfl)) (fun z => nomatch z) (fun _ Hk sk => ?_)
        have Wk := W.to sk
        clear W
        refine ⟨.ref d, rfl, (vl_I0 (g := fun i j => .int (i + j)) vl_c (vl_var rfl)) _ ⟨d, ds, 40 + i, 4, rfl, buts_same.seq Wk.bs.d, by omega, by decide, fun r2 hr2 => ⟨rfl, _, rfl, ?_⟩⟩⟩
        by_cases c : decide (V.int r2 = V.int 1) = true
        · rw [c]
          refine iteT ?_
          obtain ⟨ro, en, pa, ab, lkd, e1, _⟩ := Wk.sesH.im
          -- other = session.copy()
          refine q_asgE ⟨.ref A.p, rfl, A.p, _, _, rfl, e1, fldZ_no (by decide +kernel), A, S, rfl, Wk.sesH, by omega, fun Hl A' frc newc nlo eus hSc => ?_⟩
          have Wl := Wk.to (frc.trans buts_same)
          have hS' : SesAt CS Hl A' S.twin := hSc.to fun x u e => (unl_at e).2
          refine q_forE ⟨.ref d, rfl, nv, rfl, d, ds, 55, 2, nv, S.N, rfl, buts_same.seq Wl.bs.d, by decide, by decide, by decide, Dp.to Wl.bs.net buts_same, Wl.ses.ok, fun Hm qe te eds sm nqe eqe hde leds hok => ?_⟩
          have hok : ∀ e ∈ eds, okE (endsL N.ls) e = true := fun e he => by
            have := hok e he
            rwa [show endsL S.N.ls = S.es from ends_net, Wl.hes] at this
          have sm' := sm.trans but_same
          have qem : qe ∉ A'.m := hS'.nt.no nqe
          have eqm : buts A'.m Hm qe = some (.lst te) := by rw [buts_ne qem]; exact eqe
          have hEl : DpAll K (buts A'.m Hm) te (eds.map edD) := (hS'.to sm').nt.eds (DpAll.to hde but_same)
          have lte : te.length = eds.length := by
            have := DpAll.len hEl
            rwa [List.length_map] at this
          refine q_forL (K := K) (xs := te) (a := qe) (fun Q q => q) (.of eqe)
            (fun j σ' H' => ∃ y15 A2 S2, σ' = [some (.ref a), some (.ref d), some nv, some (.ref po), some (.ref A.p), some (.ref fp), some (.ref h), some (.ref lk), some (.int i), some (.int r), y10, y11, y12, y13, some (.ref A2.p), y15] ∧ A2.m = A'.m ∧ SesAt CS H' A2 S2 ∧ S2.es = endsL N.ls ∧ S2.und.length ≤ 10 + j ∧ Same (buts A'.m Hm) (buts A'.m H'))
            ⟨y15, A', S.twin, rfl, rfl, hS'.to sm', Wl.hes, by show S.und.length ≤ 10 + 0; omega, Same.refl _⟩ (fun j σ' H' hP => ?_) (fun j x σ' H' hx hP => ?_) (fun σ' Hn hP => ?_)
          · obtain ⟨_, _, _, _, _, _, _, _, sP⟩ := hP
            exact .of (buts_same _ _ (sP _ _ eqm))
          · obtain ⟨y15, A2, S2, rfl, em, hS2, hes2, lu2, sP⟩ := hP
            have jl : j < te.length := (List.getElem?_eq_some_iff.mp hx).1
            have hg : eds[j]? = some (eds[j]'(by omega)) := List.getElem?_eq_getElem (by omega)
            generalize eds[j]'(by omega) = e at hg
            obtain ⟨v', ev', dv⟩ := DpAll.get (i := j) (d := edD e) hEl (by rw [List.getElem?_map, hg]; rfl)
            cases hx.symm.trans ev'
            obtain ⟨t, rfl, ht⟩ := Dp.ed_inv dv
            have ht' := seqT (sP.trans buts_same) ht
            obtain ⟨ro2, en2, pa2, ab2, lkd2, e2, _⟩ := hS2.im
            refine ⟨.ref A2.p, rfl, A2.p, _, _, rfl, e2, fldZ_no (by decide +kernel), (vl_ixT (K := K) (vl_var rfl) vl_c ht' (atI_nat (j := 0) rfl)) _ ((vl_ixT (K := K) (vl_var rfl) vl_c ht' (atI_nat (j := 1) rfl)) _ ((vl_ixT (K := K) (vl_var rfl) vl_c ht' (atI_nat (j := 2) rfl)) _ ⟨A2, S2, e.1.1, e.1.2, e.2, rfl, hS2, by omega, noBad fun e' he' => by
              rw [List.mem_singleton.mp he', hes2]
              exact hok _ (List.mem_of_getElem? hg), fun _ a' na H7 q7 ts7 rows7 nq7 eq7 hd7 fr7 kp7 hS7 => ⟨_, A2.push a', (S2.push (oldU S2 [((e.1.1, e.1.2), e.2)])).mend [((e.1.1, e.1.2), e.2)] rows7, rfl, em, hS7.to but_same, hes2, ?_, sP.trans ?_⟩⟩))⟩
            · show (S2.und ++ [_]).length ≤ _
              rw [List.length_append]
              show S2.und.length + 1 ≤ 10 + (j + 1)
              omega
            · rw [← em]
              exact fr7.trans (buts_sub fun z hz => List.mem_cons_of_mem _ hz)
          · obtain ⟨y15, A2, S2, rfl, _, _, _, _, sP⟩ := hP
            have skn : Same Hk Hn := frc.trans ((buts_mono (as := A'.m) sm').trans (sP.trans buts_same))
            have Wn := Wk.to skn
            refine q_whenx (b := false) (is_at18 Wn (i4 := 4) (i2 := 2) (i3 := 3) (i7 := 7) rfl rfl rfl rfl) (fun z => nomatch z) (fun _ Ho so => ?_)
            have Wo := Wn.to so
            clear Wn Wl Wk hS' hSc
            refine q_asg (vl_var rfl) ?_
            obtain ⟨ro, en, pa, ab, lkd, e1, _⟩ := Wo.sesH.im
            refine q_asgE ⟨.ref A.p, rfl, A.p, _, _, rfl, e1, fldZ_no (by decide +kernel), A, S, rfl, Wo.sesH, by omega, fun Hp A3 fr3 new3 nlo3 eus3 hS3 => ?_⟩
            have Wp := Wo.to (fr3.trans buts_same)
            refine g_ifx (b := !decide (hs = [])) (fun Q kk => ⟨.ref h, rfl, Nat.zero_le _, fun L nL => ⟨.list (hs.map (hisD N.n (endsL N.ls))), .list [], .lst (.of (same_upd nL _ _ Wp.hh)) (DpAll.to Wp.bs.his (buts_same.trans (same_upd nL))), .lst (.of upd_same) .nil, his_shaped _, rfl, _, rfl, by rw [isE_his]; exact kk _ (same_upd nL)⟩⟩) (fun ch Hq sq => ?_) (fun ch Hq sq => ?_)
            · have ch : hs ≠ [] := of_decide_eq_false (by simpa using ch)
              have fr3' := fr3.trans (buts_mono (as := A3.m) sq)
              have hS3' : SesAt CS (unl Ho Hq) A3 S.twin := hS3.to fun x u e => by
                obtain ⟨n, e'⟩ := unl_at e
                exact unl_not n (sq _ _ e')
              have Wq := Wp.to sq
              obtain ⟨hs', f0, eds, us', u, ehs, eund, _⟩ := Past.inv Wq.past ch
              obtain ⟨ro, en, pa, ab, lkd, e1, _⟩ := Wq.sesH.im
              refine ⟨.ref A.p, rfl, A.p, _, _, rfl, e1, fldZ_no (by decide +kernel), A, S, rfl, Wq.sesH, Wq.uls, (fun z => by rw [eund] at z; exact absurd (congrArg List.length z) (by simp)), fun us a' und u' eA eU H6 q6 ts6 rows6 nq6 eq6 hd6 fr6 ra6 kp6 hS6 => ?_⟩
              have hpop := Wo.sesH.ud
              rw [eA, eU] at hpop
              exact ⟨_, _, _, _, _, _, _, _, A3, S.twin, nv, h, lk, vs, hs, rfl, Wo.copyU hpop.pop.2 (by rw [eA]; exact List.mem_append.mpr (.inr List.mem_cons_self)) fr3' new3 nlo3 eus3 hS3' fr6 ra6, lhs⟩
            · exact ⟨_, _, _, _, _, _, _, _, A3, S.twin, nv, h, lk, vs, hs, rfl, (Wo.copy fr3 hS3).to sq, lhs⟩
        · rw [Bool.eq_false_iff.mpr c]
          exact iteF ⟨_, _, _, _, _, _, _, _, A, S, nv, h, lk, vs, hs, rfl, Wk, lhs⟩
    · obtain ⟨y8, y9, y10, y11, y12, y13, y14, y15, A, S, nv, h, lk, vs, hs, rfl, W, lhs⟩ := hP
      obtain ⟨tl, elk, hT⟩ := W.bs.lk
      exact g_retE ⟨.ref A.p, rfl, nv, rfl, .ref po, rfl, .ref lk, rfl, A, S, nv, po, lk, tl, rfl, W.sesH, Dp.to W.bs.net buts_same, .of (by rw [W.hos]; exact buts_same _ _ W.bs.po), buts_same _ _ elk, hT.to buts_same, fun H2 s2 => q _⟩
end
/-! ### what the top has written; the law's own head -/
theorem df_mk {K : PySem.W.Frag} {h : Heap} {mg : Str → Option Value} {x : Str} {st : Stmt} {ps : List Str} {f : Addr} {oc : Value} {od an : Option Addr} {osl : Array (Option Value)} {kV doc pm cdv ct : Value} (X : K.In h) (G : h.Ns mainGlobals mg)
    (a : PySem.W.nsIn K mainGlobals x = some (some (.ref f))) (l : K.lookup f = some ⟨oc, od, .func (PySem.W.fnOf x x (defArgs st) (defBody st) (defScope st) .none kV doc pm an cdv ct), osl⟩) (c : PySem.W.codeIn K cdv x = true) (k : PySem.W.keepIn K (.ref f) = true)
    (hb : ∀ (kV doc pm : Value) (an : Option Addr) (cdv ct : Value) (us : List Value), us.length = ps.length → bindArgs (PySem.W.fnOf x x (defArgs st) (defBody st) (defScope st) .none kV doc pm an cdv ct) ⟨us, []⟩ = pure (ps.zip us)) : Df K mg x st ps :=
  ⟨f, _, fun_mk l c k, PySem.W.mg_of X G a, (fun_mk l c k).binds hb⟩
theorem exm_two {K : PySem.W.Frag} {S : Addr} {c : Value} {b : Bool} (h1 : PySem.W.subIn K (.ref S) (.type "BaseException") = some true) (h2 : PySem.W.isClsIn K S = true) (h3 : PySem.W.typeIn K (.ref S) = some (.type "type")) (h4 : PySem.W.subIn K c (.ref S) = some b) : PySem.W.exmOne K c (.ref S) = some b := by
  have e1 : (PySem.W.subIn K (.ref S) (.type "BaseException") == some true) = true := by rw [h1] <;> rfl
  have e2 : ((PySem.W.clsIn K S).isSome && PySem.W.typeIn K (.ref S) == some (.type "type")) = true := by
    have h2' : (PySem.W.clsIn K S).isSome = true := h2
    rw [h2', h3] <;> rfl
  show (if (PySem.W.subIn K (.ref S) (.type "BaseException") == some true) = true then (if ((PySem.W.clsIn K S).isSome && PySem.W.typeIn K (.ref S) == some (.type "type")) = true then PySem.W.subIn K c (.ref S) else none) else none) = some b
  rw [if_pos e1, if_pos e2]
  exact h4
/-- what is asked of an error's class -/
structure ErrAt (K : PySem.W.Frag) (x : Str) (C CO fI : Addr) : Prop where
  a : PySem.W.nsIn K mainGlobals x = some (some (.ref C))
  xL : ∃ nm q N bs sn sub ab col dd m0 m1 m2 m3 m5, K.lookup C = some (excClassObj nm q C N bs [.ref CO, .type "ValueError", .type "Exception", .type "BaseException", .type "object"] true sn sub ab col dd m0 m1 m2 m3 m5 "ValueError.__new__")
  sa : PySem.W.findIn K (.ref C) "__setattr__" = some (some (.builtin "object.__setattr__"))
  ga : PySem.W.findIn K (.ref C) "__getattribute__" = some (some (.builtin "BaseException.__getattribute__"))
  gg : PySem.W.findIn K (.ref C) "__getattr__" = some none
  nb : PySem.W.findIn K (.ref C) "at" = some none
  ii : PySem.W.findIn K (.ref C) "__init__" = some (some (.ref fI))
  kC : PySem.W.keepIn K (.ref C) = true
  eC : PySem.W.subIn K (.ref C) (.type "BaseException") = some true
  tC : PySem.W.typeIn K (.ref C) = some (.type "type")
  hC : PySem.W.hasDictIn K C = true
  iC : PySem.W.isClsIn K C = true
  sC : PySem.W.subIn K (.ref C) (.ref C) = some true
structure InitAt (K : PySem.W.Frag) (fI : Addr) : Prop where
  t : PySem.W.typeIn K (.ref fI) = some (.type "function")
  l : ∃ oc od dc pm an cd ct sl, K.lookup fI = some ⟨oc, od, .func (PySem.W.fnOf "__init__" "OverpassesError.__init__" (PySem.LowX.iA ⟨8, 17, 8, 21⟩ ⟨8, 23, 8, 25⟩) (PySem.LowX.iB ⟨9, 8, 9, 12⟩ ⟨9, 8, 9, 15⟩ ⟨9, 18, 9, 20⟩ ⟨9, 8, 9, 20⟩) PySem.LowX.iS .none .none dc pm an cd ct), sl⟩ ∧ PySem.W.codeIn K cd "OverpassesError.__init__" = true
theorem low_mk {K : PySem.W.Frag} {h : Heap} {mg : Str → Option Value} {x : Str} {C CO fI : Addr} (X : K.In h) (G : h.Ns mainGlobals mg) (E : ErrAt K x C CO fI) (I : InitAt K fI) : PySem.LowX.LowTxt K mg x C fI := by
  obtain ⟨nm, q, N, bs, sn, sub, ab, col, dd, m0, m1, m2, m3, m5, xL⟩ := E.xL
  obtain ⟨oc, od, dc, pm, an, cd, ct, sl, l1, c1⟩ := I.l
  exact { gC := PySem.W.mg_of X G E.a, cls := ⟨nm, q, N, bs, _, sn, sub, ab, col, dd, m0, m1, m2, m3, m5, xL, rfl⟩, sa := E.sa, ga := E.ga, gg := E.gg, noN := E.nb, iC := E.ii, tC := I.t, kC := E.kC, exC := E.eC, tyC := E.tC, hdC := E.hC, te := exm_two E.eC E.iC E.tC E.sC, fn := ⟨_, _, _, _, _, _, _, _, _, _, _, _, _, _, l1, c1⟩ }
theorem all_mk {l : PySem.W.OpenLaw} {w : World} {K : PySem.W.Frag} {h : Heap} {mg : Str → Option Value} {fa f0 f1 f2 f3 f4 f5 f6 f7 f8 f9 f10 f11 f12 f13 f14 f15 f16 f17 f18 f19 f20 f21 f22 f23 f24 : Addr} (X : K.In h) (G : h.Ns mainGlobals mg) (hfa : mg "law" = some (.ref fa))
    {od0 an0 od1 an1 od2 an2 od3 an3 od4 an4 od5 an5 od6 an6 od7 an7 od8 an8 od9 an9 od10 an10 od11 an11 od12 an12 od13 an13 od14 an14 od15 an15 od16 an16 od17 an17 od18 an18 od19 an19 od20 an20 od21 an21 od22 an22 od23 an23 od24 an24 : Option Addr} {sl0 sl1 sl2 sl3 sl4 sl5 sl6 sl7 sl8 sl9 sl10 sl11 sl12 sl13 sl14 sl15 sl16 sl17 sl18 sl19 sl20 sl21 sl22 sl23 sl24 : Array (Option Value)} {oc0 kV0 dc0 pm0 cd0 ct0 oc1 kV1 dc1 pm1 cd1 ct1 oc2 kV2 dc2 pm2 cd2 ct2 oc3 kV3 dc3 pm3 cd3 ct3 oc4 kV4 dc4 pm4 cd4 ct4 oc5 kV5 dc5 pm5 cd5 ct5 oc6 kV6 dc6 pm6 cd6 ct6 oc7 kV7 dc7 pm7 cd7 ct7 oc8 kV8 dc8 pm8 cd8 ct8 oc9 kV9 dc9 pm9 cd9 ct9 oc10 kV10 dc10 pm10 cd10 ct10 oc11 kV11 dc11 pm11 cd11 ct11 oc12 kV12 dc12 pm12 cd12 ct12 oc13 kV13 dc13 pm13 cd13 ct13 oc14 kV14 dc14 pm14 cd14 ct14 oc15 kV15 dc15 pm15 cd15 ct15 oc16 kV16 dc16 pm16 cd16 ct16 oc17 kV17 dc17 pm17 cd17 ct17 oc18 kV18 dc18 pm18 cd18 ct18 oc19 kV19 dc19 pm19 cd19 ct19 oc20 kV20 dc20 pm20 cd20 ct20 oc21 kV21 dc21 pm21 cd21 ct21 oc22 kV22 dc22 pm22 cd22 ct22 oc23 kV23 dc23 pm23 cd23 ct23 oc24 kV24 dc24 pm24 cd24 ct24 : Value}
    (a0 : PySem.W.nsIn K mainGlobals "is_price" = some (some (.ref f0))) (l0 : K.lookup f0 = some ⟨oc0, od0, .func (PySem.W.fnOf "is_price" "is_price" (defArgs sIsPrice) (defBody sIsPrice) (defScope sIsPrice) .none kV0 dc0 pm0 an0 cd0 ct0), sl0⟩) (c0 : PySem.W.codeIn K cd0 "is_price" = true) (k0 : PySem.W.keepIn K (.ref f0) = true)
    (a1 : PySem.W.nsIn K mainGlobals "link_ways" = some (some (.ref f1))) (l1 : K.lookup f1 = some ⟨oc1, od1, .func (PySem.W.fnOf "link_ways" "link_ways" (defArgs sLinkWays) (defBody sLinkWays) (defScope sLinkWays) .none kV1 dc1 pm1 an1 cd1 ct1), sl1⟩) (c1 : PySem.W.codeIn K cd1 "link_ways" = true) (k1 : PySem.W.keepIn K (.ref f1) = true)
    (a2 : PySem.W.nsIn K mainGlobals "ranks" = some (some (.ref f2))) (l2 : K.lookup f2 = some ⟨oc2, od2, .func (PySem.W.fnOf "ranks" "ranks" (defArgs sRanks) (defBody sRanks) (defScope sRanks) .none kV2 dc2 pm2 an2 cd2 ct2), sl2⟩) (c2 : PySem.W.codeIn K cd2 "ranks" = true) (k2 : PySem.W.keepIn K (.ref f2) = true)
    (a3 : PySem.W.nsIn K mainGlobals "pairs" = some (some (.ref f3))) (l3 : K.lookup f3 = some ⟨oc3, od3, .func (PySem.W.fnOf "pairs" "pairs" (defArgs sPairs) (defBody sPairs) (defScope sPairs) .none kV3 dc3 pm3 an3 cd3 ct3), sl3⟩) (c3 : PySem.W.codeIn K cd3 "pairs" = true) (k3 : PySem.W.keepIn K (.ref f3) = true)
    (a4 : PySem.W.nsIn K mainGlobals "upper" = some (some (.ref f4))) (l4 : K.lookup f4 = some ⟨oc4, od4, .func (PySem.W.fnOf "upper" "upper" (defArgs sUpper) (defBody sUpper) (defScope sUpper) .none kV4 dc4 pm4 an4 cd4 ct4), sl4⟩) (c4 : PySem.W.codeIn K cd4 "upper" = true) (k4 : PySem.W.keepIn K (.ref f4) = true)
    (a5 : PySem.W.nsIn K mainGlobals "fill" = some (some (.ref f5))) (l5 : K.lookup f5 = some ⟨oc5, od5, .func (PySem.W.fnOf "fill" "fill" (defArgs sFill) (defBody sFill) (defScope sFill) .none kV5 dc5 pm5 an5 cd5 ct5), sl5⟩) (c5 : PySem.W.codeIn K cd5 "fill" = true) (k5 : PySem.W.keepIn K (.ref f5) = true)
    (a6 : PySem.W.nsIn K mainGlobals "fill_way" = some (some (.ref f6))) (l6 : K.lookup f6 = some ⟨oc6, od6, .func (PySem.W.fnOf "fill_way" "fill_way" (defArgs sWayF) (defBody sWayF) (defScope sWayF) .none kV6 dc6 pm6 an6 cd6 ct6), sl6⟩) (c6 : PySem.W.codeIn K cd6 "fill_way" = true) (k6 : PySem.W.keepIn K (.ref f6) = true)
    (a7 : PySem.W.nsIn K mainGlobals "_lower_by_pair" = some (some (.ref f7))) (l7 : K.lookup f7 = some ⟨oc7, od7, .func (PySem.W.fnOf "_lower_by_pair" "_lower_by_pair" (defArgs sLowBy) (defBody sLowBy) (defScope sLowBy) .none kV7 dc7 pm7 an7 cd7 ct7), sl7⟩) (c7 : PySem.W.codeIn K cd7 "_lower_by_pair" = true) (k7 : PySem.W.keepIn K (.ref f7) = true)
    (a8 : PySem.W.nsIn K mainGlobals "_row" = some (some (.ref f8))) (l8 : K.lookup f8 = some ⟨oc8, od8, .func (PySem.W.fnOf "_row" "_row" (defArgs sRowF) (defBody sRowF) (defScope sRowF) .none kV8 dc8 pm8 an8 cd8 ct8), sl8⟩) (c8 : PySem.W.codeIn K cd8 "_row" = true) (k8 : PySem.W.keepIn K (.ref f8) = true)
    (a9 : PySem.W.nsIn K mainGlobals "lower_places" = some (some (.ref f9))) (l9 : K.lookup f9 = some ⟨oc9, od9, .func (PySem.W.fnOf "lower_places" "lower_places" (defArgs sLowerPl) (defBody sLowerPl) (defScope sLowerPl) .none kV9 dc9 pm9 an9 cd9 ct9), sl9⟩) (c9 : PySem.W.codeIn K cd9 "lower_places" = true) (k9 : PySem.W.keepIn K (.ref f9) = true)
    (a10 : PySem.W.nsIn K mainGlobals "_law_draws" = some (some (.ref f10))) (l10 : K.lookup f10 = some ⟨oc10, od10, .func (PySem.W.fnOf "_law_draws" "_law_draws" (defArgs sDraws) (defBody sDraws) (defScope sDraws) .none kV10 dc10 pm10 an10 cd10 ct10), sl10⟩) (c10 : PySem.W.codeIn K cd10 "_law_draws" = true) (k10 : PySem.W.keepIn K (.ref f10) = true)
    (a11 : PySem.W.nsIn K mainGlobals "_law_at" = some (some (.ref f11))) (l11 : K.lookup f11 = some ⟨oc11, od11, .func (PySem.W.fnOf "_law_at" "_law_at" (defArgs sAt) (defBody sAt) (defScope sAt) .none kV11 dc11 pm11 an11 cd11 ct11), sl11⟩) (c11 : PySem.W.codeIn K cd11 "_law_at" = true) (k11 : PySem.W.keepIn K (.ref f11) = true)
    (a12 : PySem.W.nsIn K mainGlobals "_law_price" = some (some (.ref f12))) (l12 : K.lookup f12 = some ⟨oc12, od12, .func (PySem.W.fnOf "_law_price" "_law_price" (defArgs sPrice2) (defBody sPrice2) (defScope sPrice2) .none kV12 dc12 pm12 an12 cd12 ct12), sl12⟩) (c12 : PySem.W.codeIn K cd12 "_law_price" = true) (k12 : PySem.W.keepIn K (.ref f12) = true)
    (a13 : PySem.W.nsIn K mainGlobals "_law_net" = some (some (.ref f13))) (l13 : K.lookup f13 = some ⟨oc13, od13, .func (PySem.W.fnOf "_law_net" "_law_net" (defArgs sNet2) (defBody sNet2) (defScope sNet2) .none kV13 dc13 pm13 an13 cd13 ct13), sl13⟩) (c13 : PySem.W.codeIn K cd13 "_law_net" = true) (k13 : PySem.W.keepIn K (.ref f13) = true)
    (a14 : PySem.W.nsIn K mainGlobals "_law_order" = some (some (.ref f14))) (l14 : K.lookup f14 = some ⟨oc14, od14, .func (PySem.W.fnOf "_law_order" "_law_order" (defArgs sOrder2) (defBody sOrder2) (defScope sOrder2) .none kV14 dc14 pm14 an14 cd14 ct14), sl14⟩) (c14 : PySem.W.codeIn K cd14 "_law_order" = true) (k14 : PySem.W.keepIn K (.ref f14) = true)
    (a15 : PySem.W.nsIn K mainGlobals "_law_pairs" = some (some (.ref f15))) (l15 : K.lookup f15 = some ⟨oc15, od15, .func (PySem.W.fnOf "_law_pairs" "_law_pairs" (defArgs sLPairs) (defBody sLPairs) (defScope sLPairs) .none kV15 dc15 pm15 an15 cd15 ct15), sl15⟩) (c15 : PySem.W.codeIn K cd15 "_law_pairs" = true) (k15 : PySem.W.keepIn K (.ref f15) = true)
    (a16 : PySem.W.nsIn K mainGlobals "_law_lower" = some (some (.ref f16))) (l16 : K.lookup f16 = some ⟨oc16, od16, .func (PySem.W.fnOf "_law_lower" "_law_lower" (defArgs sLowerS) (defBody sLowerS) (defScope sLowerS) .none kV16 dc16 pm16 an16 cd16 ct16), sl16⟩) (c16 : PySem.W.codeIn K cd16 "_law_lower" = true) (k16 : PySem.W.keepIn K (.ref f16) = true)
    (a17 : PySem.W.nsIn K mainGlobals "_law_changed" = some (some (.ref f17))) (l17 : K.lookup f17 = some ⟨oc17, od17, .func (PySem.W.fnOf "_law_changed" "_law_changed" (defArgs sLChanged) (defBody sLChanged) (defScope sLChanged) .none kV17 dc17 pm17 an17 cd17 ct17), sl17⟩) (c17 : PySem.W.codeIn K cd17 "_law_changed" = true) (k17 : PySem.W.keepIn K (.ref f17) = true)
    (a18 : PySem.W.nsIn K mainGlobals "_law_changes" = some (some (.ref f18))) (l18 : K.lookup f18 = some ⟨oc18, od18, .func (PySem.W.fnOf "_law_changes" "_law_changes" (defArgs sLChanges) (defBody sLChanges) (defScope sLChanges) .none kV18 dc18 pm18 an18 cd18 ct18), sl18⟩) (c18 : PySem.W.codeIn K cd18 "_law_changes" = true) (k18 : PySem.W.keepIn K (.ref f18) = true)
    (a19 : PySem.W.nsIn K mainGlobals "_law_looked" = some (some (.ref f19))) (l19 : K.lookup f19 = some ⟨oc19, od19, .func (PySem.W.fnOf "_law_looked" "_law_looked" (defArgs sLLooked) (defBody sLLooked) (defScope sLLooked) .none kV19 dc19 pm19 an19 cd19 ct19), sl19⟩) (c19 : PySem.W.codeIn K cd19 "_law_looked" = true) (k19 : PySem.W.keepIn K (.ref f19) = true)
    (a20 : PySem.W.nsIn K mainGlobals "_law_edits" = some (some (.ref f20))) (l20 : K.lookup f20 = some ⟨oc20, od20, .func (PySem.W.fnOf "_law_edits" "_law_edits" (defArgs sLEdits) (defBody sLEdits) (defScope sLEdits) .none kV20 dc20 pm20 an20 cd20 ct20), sl20⟩) (c20 : PySem.W.codeIn K cd20 "_law_edits" = true) (k20 : PySem.W.keepIn K (.ref f20) = true)
    (a21 : PySem.W.nsIn K mainGlobals "_law_empty" = some (some (.ref f21))) (l21 : K.lookup f21 = some ⟨oc21, od21, .func (PySem.W.fnOf "_law_empty" "_law_empty" (defArgs sLEmpty) (defBody sLEmpty) (defScope sLEmpty) .none kV21 dc21 pm21 an21 cd21 ct21), sl21⟩) (c21 : PySem.W.codeIn K cd21 "_law_empty" = true) (k21 : PySem.W.keepIn K (.ref f21) = true)
    (a22 : PySem.W.nsIn K mainGlobals "_law_refused" = some (some (.ref f22))) (l22 : K.lookup f22 = some ⟨oc22, od22, .func (PySem.W.fnOf "_law_refused" "_law_refused" (defArgs sLRefusedS) (defBody sLRefusedS) (defScope sLRefusedS) .none kV22 dc22 pm22 an22 cd22 ct22), sl22⟩) (c22 : PySem.W.codeIn K cd22 "_law_refused" = true) (k22 : PySem.W.keepIn K (.ref f22) = true)
    (a23 : PySem.W.nsIn K mainGlobals "_law_is_at" = some (some (.ref f23))) (l23 : K.lookup f23 = some ⟨oc23, od23, .func (PySem.W.fnOf "_law_is_at" "_law_is_at" (defArgs sLIsAt) (defBody sLIsAt) (defScope sLIsAt) .none kV23 dc23 pm23 an23 cd23 ct23), sl23⟩) (c23 : PySem.W.codeIn K cd23 "_law_is_at" = true) (k23 : PySem.W.keepIn K (.ref f23) = true)
    (a24 : PySem.W.nsIn K mainGlobals "law" = some (some (.ref f24))) (l24 : K.lookup f24 = some ⟨oc24, od24, .func (PySem.W.fnOf "law" "law" (defArgs sLaw) (defBody sLaw) (defScope sLaw) .none kV24 dc24 pm24 an24 cd24 ct24), sl24⟩) (c24 : PySem.W.codeIn K cd24 "law" = true) (k24 : PySem.W.keepIn K (.ref f24) = true)
    {CO fI : Addr} {C0 C1 C2 C3 : Addr} {ocI : Value} {odI anI : Option Addr} {slI : Array (Option Value)} {dcI pmI cdI ctI : Value}
    (tI : PySem.W.typeIn K (.ref fI) = some (.type "function")) (lI : K.lookup fI = some ⟨ocI, odI, .func (PySem.W.fnOf "__init__" "OverpassesError.__init__" (PySem.LowX.iA ⟨8, 17, 8, 21⟩ ⟨8, 23, 8, 25⟩) (PySem.LowX.iB ⟨9, 8, 9, 12⟩ ⟨9, 8, 9, 15⟩ ⟨9, 18, 9, 20⟩ ⟨9, 8, 9, 20⟩) PySem.LowX.iS .none .none dcI pmI anI cdI ctI), slI⟩) (cI : PySem.W.codeIn K cdI "OverpassesError.__init__" = true)
    {nm100 : Str} {q100 : Str} {N100 : Addr} {bs100 : List Value} {sn100 : List Str} {sub100 : List Value} {ab100 : Bool} {col100 : Option Bool} {dd100 : Option Addr} {m0100 : Option Value} {m1100 : Option Value} {m2100 : Option Value} {m3100 : Option Value} {m5100 : Option Value}
    (ea0 : PySem.W.nsIn K mainGlobals "NotAnOrder" = some (some (.ref C0))) (ex0 : K.lookup C0 = some (excClassObj nm100 q100 C0 N100 bs100 [.ref CO, .type "ValueError", .type "Exception", .type "BaseException", .type "object"] true sn100 sub100 ab100 col100 dd100 m0100 m1100 m2100 m3100 m5100 "ValueError.__new__"))
    (es0 : PySem.W.findIn K (.ref C0) "__setattr__" = some (some (.builtin "object.__setattr__"))) (eg0 : PySem.W.findIn K (.ref C0) "__getattribute__" = some (some (.builtin "BaseException.__getattribute__"))) (eh0 : PySem.W.findIn K (.ref C0) "__getattr__" = some none) (en0 : PySem.W.findIn K (.ref C0) "at" = some none) (ei0 : PySem.W.findIn K (.ref C0) "__init__" = some (some (.ref fI)))
    (ek0 : PySem.W.keepIn K (.ref C0) = true) (eb0 : PySem.W.subIn K (.ref C0) (.type "BaseException") = some true) (et0 : PySem.W.typeIn K (.ref C0) = some (.type "type")) (ed0 : PySem.W.hasDictIn K C0 = true) (ec0 : PySem.W.isClsIn K C0 = true) (ef0 : PySem.W.subIn K (.ref C0) (.ref C0) = some true)
    {nm101 : Str} {q101 : Str} {N101 : Addr} {bs101 : List Value} {sn101 : List Str} {sub101 : List Value} {ab101 : Bool} {col101 : Option Bool} {dd101 : Option Addr} {m0101 : Option Value} {m1101 : Option Value} {m2101 : Option Value} {m3101 : Option Value} {m5101 : Option Value}
    (ea1 : PySem.W.nsIn K mainGlobals "NoLink" = some (some (.ref C1))) (ex1 : K.lookup C1 = some (excClassObj nm101 q101 C1 N101 bs101 [.ref CO, .type "ValueError", .type "Exception", .type "BaseException", .type "object"] true sn101 sub101 ab101 col101 dd101 m0101 m1101 m2101 m3101 m5101 "ValueError.__new__"))
    (es1 : PySem.W.findIn K (.ref C1) "__setattr__" = some (some (.builtin "object.__setattr__"))) (eg1 : PySem.W.findIn K (.ref C1) "__getattribute__" = some (some (.builtin "BaseException.__getattribute__"))) (eh1 : PySem.W.findIn K (.ref C1) "__getattr__" = some none) (en1 : PySem.W.findIn K (.ref C1) "at" = some none) (ei1 : PySem.W.findIn K (.ref C1) "__init__" = some (some (.ref fI)))
    (ek1 : PySem.W.keepIn K (.ref C1) = true) (eb1 : PySem.W.subIn K (.ref C1) (.type "BaseException") = some true) (et1 : PySem.W.typeIn K (.ref C1) = some (.type "type")) (ed1 : PySem.W.hasDictIn K C1 = true) (ec1 : PySem.W.isClsIn K C1 = true) (ef1 : PySem.W.subIn K (.ref C1) (.ref C1) = some true)
    {nm102 : Str} {q102 : Str} {N102 : Addr} {bs102 : List Value} {sn102 : List Str} {sub102 : List Value} {ab102 : Bool} {col102 : Option Bool} {dd102 : Option Addr} {m0102 : Option Value} {m1102 : Option Value} {m2102 : Option Value} {m3102 : Option Value} {m5102 : Option Value}
    (ea2 : PySem.W.nsIn K mainGlobals "BadPrice" = some (some (.ref C2))) (ex2 : K.lookup C2 = some (excClassObj nm102 q102 C2 N102 bs102 [.ref CO, .type "ValueError", .type "Exception", .type "BaseException", .type "object"] true sn102 sub102 ab102 col102 dd102 m0102 m1102 m2102 m3102 m5102 "ValueError.__new__"))
    (es2 : PySem.W.findIn K (.ref C2) "__setattr__" = some (some (.builtin "object.__setattr__"))) (eg2 : PySem.W.findIn K (.ref C2) "__getattribute__" = some (some (.builtin "BaseException.__getattribute__"))) (eh2 : PySem.W.findIn K (.ref C2) "__getattr__" = some none) (en2 : PySem.W.findIn K (.ref C2) "at" = some none) (ei2 : PySem.W.findIn K (.ref C2) "__init__" = some (some (.ref fI)))
    (ek2 : PySem.W.keepIn K (.ref C2) = true) (eb2 : PySem.W.subIn K (.ref C2) (.type "BaseException") = some true) (et2 : PySem.W.typeIn K (.ref C2) = some (.type "type")) (ed2 : PySem.W.hasDictIn K C2 = true) (ec2 : PySem.W.isClsIn K C2 = true) (ef2 : PySem.W.subIn K (.ref C2) (.ref C2) = some true)
    {nm103 : Str} {q103 : Str} {N103 : Addr} {bs103 : List Value} {sn103 : List Str} {sub103 : List Value} {ab103 : Bool} {col103 : Option Bool} {dd103 : Option Addr} {m0103 : Option Value} {m1103 : Option Value} {m2103 : Option Value} {m3103 : Option Value} {m5103 : Option Value}
    (ea3 : PySem.W.nsIn K mainGlobals "NothingToUndo" = some (some (.ref C3))) (ex3 : K.lookup C3 = some (excClassObj nm103 q103 C3 N103 bs103 [.ref CO, .type "ValueError", .type "Exception", .type "BaseException", .type "object"] true sn103 sub103 ab103 col103 dd103 m0103 m1103 m2103 m3103 m5103 "ValueError.__new__"))
    (es3 : PySem.W.findIn K (.ref C3) "__setattr__" = some (some (.builtin "object.__setattr__"))) (eg3 : PySem.W.findIn K (.ref C3) "__getattribute__" = some (some (.builtin "BaseException.__getattribute__"))) (eh3 : PySem.W.findIn K (.ref C3) "__getattr__" = some none) (en3 : PySem.W.findIn K (.ref C3) "at" = some none) (ei3 : PySem.W.findIn K (.ref C3) "__init__" = some (some (.ref fI)))
    (ek3 : PySem.W.keepIn K (.ref C3) = true) (eb3 : PySem.W.subIn K (.ref C3) (.type "BaseException") = some true) (et3 : PySem.W.typeIn K (.ref C3) = some (.type "type")) (ed3 : PySem.W.hasDictIn K C3 = true) (ec3 : PySem.W.isClsIn K C3 = true) (ef3 : PySem.W.subIn K (.ref C3) (.ref C3) = some true)
    {K0 m0 m1 m2 m3 m4 m5 m6 m7 m8 m9 m10 : Addr} {mod0 man0 mod1 man1 mod2 man2 mod3 man3 mod4 man4 mod5 man5 mod6 man6 mod7 man7 mod8 man8 mod9 man9 mod10 man10 : Option Addr} {msl0 msl1 msl2 msl3 msl4 msl5 msl6 msl7 msl8 msl9 msl10 : Array (Option Value)} {moc0 mkV0 mdc0 mpm0 mcd0 mct0 moc1 mkV1 mdc1 mpm1 mcd1 mct1 moc2 mkV2 mdc2 mpm2 mcd2 mct2 moc3 mkV3 mdc3 mpm3 mcd3 mct3 moc4 mkV4 mdc4 mpm4 mcd4 mct4 moc5 mkV5 mdc5 mpm5 mcd5 mct5 moc6 mkV6 mdc6 mpm6 mcd6 mct6 moc7 mkV7 mdc7 mpm7 mcd7 mct7 moc8 mkV8 mdc8 mpm8 mcd8 mct8 moc9 mkV9 mdc9 mpm9 mcd9 mct9 moc10 mkV10 mdc10 mpm10 mcd10 mct10 : Value}
    (aK : PySem.W.nsIn K mainGlobals "Session" = some (some (.ref K0))) (pgK : PySem.W.plainGet K K0 Str.empty = true) (hdK : PySem.W.hasDictIn K K0 = true) (poK : PySem.W.plainOver K K0 = true) (saK : PySem.W.findIn K (.ref K0) "__setattr__" = some (some (.builtin "object.__setattr__"))) (mkK : PySem.W.makesIn K K0 = true) (kcK : PySem.W.keepIn K (.ref K0) = true)
    (mg0 : PySem.W.findIn K (.ref K0) "__init__" = some (some (.ref m0))) (mi0 : PySem.W.isFn K (.ref m0) = true) (ml0 : K.lookup m0 = some ⟨moc0, mod0, .func (PySem.W.fnOf "__init__" "Session.__init__" (defArgs sSInit) (defBody sSInit) (defScope sSInit) .none mkV0 mdc0 mpm0 man0 mcd0 mct0), msl0⟩) (mc0 : PySem.W.codeIn K mcd0 "Session.__init__" = true) (mk0 : PySem.W.keepIn K (.ref m0) = true)
    (mg1 : PySem.W.findIn K (.ref K0) "edit" = some (some (.ref m1))) (mi1 : PySem.W.isFn K (.ref m1) = true) (ml1 : K.lookup m1 = some ⟨moc1, mod1, .func (PySem.W.fnOf "edit" "Session.edit" (defArgs sSEdit) (defBody sSEdit) (defScope sSEdit) .none mkV1 mdc1 mpm1 man1 mcd1 mct1), msl1⟩) (mc1 : PySem.W.codeIn K mcd1 "Session.edit" = true) (mk1 : PySem.W.keepIn K (.ref m1) = true)
    (mg2 : PySem.W.findIn K (.ref K0) "edit_all" = some (some (.ref m2))) (mi2 : PySem.W.isFn K (.ref m2) = true) (ml2 : K.lookup m2 = some ⟨moc2, mod2, .func (PySem.W.fnOf "edit_all" "Session.edit_all" (defArgs sSEditAll) (defBody sSEditAll) (defScope sSEditAll) .none mkV2 mdc2 mpm2 man2 mcd2 mct2), msl2⟩) (mc2 : PySem.W.codeIn K mcd2 "Session.edit_all" = true) (mk2 : PySem.W.keepIn K (.ref m2) = true)
    (mg3 : PySem.W.findIn K (.ref K0) "undo" = some (some (.ref m3))) (mi3 : PySem.W.isFn K (.ref m3) = true) (ml3 : K.lookup m3 = some ⟨moc3, mod3, .func (PySem.W.fnOf "undo" "Session.undo" (defArgs sSUndo) (defBody sSUndo) (defScope sSUndo) .none mkV3 mdc3 mpm3 man3 mcd3 mct3), msl3⟩) (mc3 : PySem.W.codeIn K mcd3 "Session.undo" = true) (mk3 : PySem.W.keepIn K (.ref m3) = true)
    (mg4 : PySem.W.findIn K (.ref K0) "looked" = some (some (.ref m4))) (mi4 : PySem.W.isFn K (.ref m4) = true) (ml4 : K.lookup m4 = some ⟨moc4, mod4, .func (PySem.W.fnOf "looked" "Session.looked" (defArgs sSLooked) (defBody sSLooked) (defScope sSLooked) .none mkV4 mdc4 mpm4 man4 mcd4 mct4), msl4⟩) (mc4 : PySem.W.codeIn K mcd4 "Session.looked" = true) (mk4 : PySem.W.keepIn K (.ref m4) = true)
    (mg5 : PySem.W.findIn K (.ref K0) "net" = some (some (.ref m5))) (mi5 : PySem.W.isFn K (.ref m5) = true) (ml5 : K.lookup m5 = some ⟨moc5, mod5, .func (PySem.W.fnOf "net" "Session.net" (defArgs sSNet) (defBody sSNet) (defScope sSNet) .none mkV5 mdc5 mpm5 man5 mcd5 mct5), msl5⟩) (mc5 : PySem.W.codeIn K mcd5 "Session.net" = true) (mk5 : PySem.W.keepIn K (.ref m5) = true)
    (mg6 : PySem.W.findIn K (.ref K0) "filling" = some (some (.ref m6))) (mi6 : PySem.W.isFn K (.ref m6) = true) (ml6 : K.lookup m6 = some ⟨moc6, mod6, .func (PySem.W.fnOf "filling" "Session.filling" (defArgs sSFilling) (defBody sSFilling) (defScope sSFilling) .none mkV6 mdc6 mpm6 man6 mcd6 mct6), msl6⟩) (mc6 : PySem.W.codeIn K mcd6 "Session.filling" = true) (mk6 : PySem.W.keepIn K (.ref m6) = true)
    (mg7 : PySem.W.findIn K (.ref K0) "copy" = some (some (.ref m7))) (mi7 : PySem.W.isFn K (.ref m7) = true) (ml7 : K.lookup m7 = some ⟨moc7, mod7, .func (PySem.W.fnOf "copy" "Session.copy" (defArgs sSCopy) (defBody sSCopy) (defScope sSCopy) .none mkV7 mdc7 mpm7 man7 mcd7 mct7), msl7⟩) (mc7 : PySem.W.codeIn K mcd7 "Session.copy" = true) (mk7 : PySem.W.keepIn K (.ref m7) = true)
    (mg8 : PySem.W.findIn K (.ref K0) "_mend" = some (some (.ref m8))) (mi8 : PySem.W.isFn K (.ref m8) = true) (ml8 : K.lookup m8 = some ⟨moc8, mod8, .func (PySem.W.fnOf "_mend" "Session._mend" (defArgs sSMend) (defBody sSMend) (defScope sSMend) .none mkV8 mdc8 mpm8 man8 mcd8 mct8), msl8⟩) (mc8 : PySem.W.codeIn K mcd8 "Session._mend" = true) (mk8 : PySem.W.keepIn K (.ref m8) = true)
    (mg9 : PySem.W.findIn K (.ref K0) "_fill_in" = some (some (.ref m9))) (mi9 : PySem.W.isFn K (.ref m9) = true) (ml9 : K.lookup m9 = some ⟨moc9, mod9, .func (PySem.W.fnOf "_fill_in" "Session._fill_in" (defArgs sSFillIn) (defBody sSFillIn) (defScope sSFillIn) .none mkV9 mdc9 mpm9 man9 mcd9 mct9), msl9⟩) (mc9 : PySem.W.codeIn K mcd9 "Session._fill_in" = true) (mk9 : PySem.W.keepIn K (.ref m9) = true)
    (mg10 : PySem.W.findIn K (.ref K0) "_mark" = some (some (.ref m10))) (mi10 : PySem.W.isFn K (.ref m10) = true) (ml10 : K.lookup m10 = some ⟨moc10, mod10, .func (PySem.W.fnOf "_mark" "Session._mark" (defArgs sSMark) (defBody sSMark) (defScope sSMark) .none mkV10 mdc10 mpm10 man10 mcd10 mct10), msl10⟩) (mc10 : PySem.W.codeIn K mcd10 "Session._mark" = true) (mk10 : PySem.W.keepIn K (.ref m10) = true)
    (mn0 : PySem.W.findIn K (.ref K0) "_n" = some none)
    (mn1 : PySem.W.findIn K (.ref K0) "_order" = some none)
    (mn2 : PySem.W.findIn K (.ref K0) "_ends" = some none)
    (mn3 : PySem.W.findIn K (.ref K0) "_links" = some none)
    (mn4 : PySem.W.findIn K (.ref K0) "_pairs" = some none)
    (mn5 : PySem.W.findIn K (.ref K0) "_above" = some none)
    (mn6 : PySem.W.findIn K (.ref K0) "_lower" = some none)
    (mn7 : PySem.W.findIn K (.ref K0) "_prices" = some none)
    (mn8 : PySem.W.findIn K (.ref K0) "_middles" = some none)
    (mn9 : PySem.W.findIn K (.ref K0) "_looked" = some none)
    (mn10 : PySem.W.findIn K (.ref K0) "_undos" = some none)
    {tk0 : Tok} (q0 : PySem.W.nsIn K mainGlobals "HIGHEST_PRICE" = some (some (.int 1000000 tk0)))
    (y0 : PySem.W.nsIn K mainGlobals "combinations" = some (some (.type "itertools.combinations")))
    (z0 : PySem.W.nsIn K mainGlobals "range" = some none) (z1 : PySem.W.nsIn K mainGlobals "min" = some none) (z2 : PySem.W.nsIn K mainGlobals "max" = some none) (z3 : PySem.W.nsIn K mainGlobals "len" = some none) (z4 : PySem.W.nsIn K mainGlobals "abs" = some none) (z5 : PySem.W.nsIn K mainGlobals "int" = some none) (z6 : PySem.W.nsIn K mainGlobals "list" = some none) (z7 : PySem.W.nsIn K mainGlobals "enumerate" = some none) (z8 : PySem.W.nsIn K mainGlobals "sorted" = some none) :
    ∃ fd : FuncData, (∀ (s : Shared) (v : Value), BindsTo s fd ⟨[v], []⟩ [("script", v)]) ∧ ∀ base : Heap, K.In base → base.Ns mainGlobals mg → FnG l.prog w K mg base fa fd ["script"] (spLaw K) := by
  have e := hfa.symm.trans (PySem.W.mg_of X G a24)
  cases e
  have D_is_price : Df K mg "is_price" sIsPrice ["value"] := df_mk X G a0 l0 c0 k0 (fun _ _ _ _ _ _ us hl => match us, hl with | [_], _ => rfl)
  have D_link_ways : Df K mg "link_ways" sLinkWays ["net"] := df_mk X G a1 l1 c1 k1 (fun _ _ _ _ _ _ us hl => match us, hl with | [_], _ => rfl)
  have D_ranks : Df K mg "ranks" sRanks ["order"] := df_mk X G a2 l2 c2 k2 (fun _ _ _ _ _ _ us hl => match us, hl with | [_], _ => rfl)
  have D_pairs : Df K mg "pairs" sPairs ["net", "order"] := df_mk X G a3 l3 c3 k3 (fun _ _ _ _ _ _ us hl => match us, hl with | [_, _], _ => rfl)
  have D_upper : Df K mg "upper" sUpper ["net", "order"] := df_mk X G a4 l4 c4 k4 (fun _ _ _ _ _ _ us hl => match us, hl with | [_, _], _ => rfl)
  have D_fill : Df K mg "fill" sFill ["net", "order"] := df_mk X G a5 l5 c5 k5 (fun _ _ _ _ _ _ us hl => match us, hl with | [_, _], _ => rfl)
  have D_fill_way : Df K mg "fill_way" sWayF ["links", "prices", "places", "x", "y"] := df_mk X G a6 l6 c6 k6 (fun _ _ _ _ _ _ us hl => match us, hl with | [_, _, _, _, _], _ => rfl)
  have D__lower_by_pair : Df K mg "_lower_by_pair" sLowBy ["found", "order"] := df_mk X G a7 l7 c7 k7 (fun _ _ _ _ _ _ us hl => match us, hl with | [_, _], _ => rfl)
  have D__row : Df K mg "_row" sRowF ["links", "prices", "lower", "low", "high"] := df_mk X G a8 l8 c8 k8 (fun _ _ _ _ _ _ us hl => match us, hl with | [_, _, _, _, _], _ => rfl)
  have D_lower_places : Df K mg "lower_places" sLowerPl ["rows", "order"] := df_mk X G a9 l9 c9 k9 (fun _ _ _ _ _ _ us hl => match us, hl with | [_, _], _ => rfl)
  have D__law_draws : Df K mg "_law_draws" sDraws ["script"] := df_mk X G a10 l10 c10 k10 (fun _ _ _ _ _ _ us hl => match us, hl with | [_], _ => rfl)
  have D__law_at : Df K mg "_law_at" sAt ["draws", "k", "many"] := df_mk X G a11 l11 c11 k11 (fun _ _ _ _ _ _ us hl => match us, hl with | [_, _, _], _ => rfl)
  have D__law_price : Df K mg "_law_price" sPrice2 ["cell"] := df_mk X G a12 l12 c12 k12 (fun _ _ _ _ _ _ us hl => match us, hl with | [_], _ => rfl)
  have D__law_net : Df K mg "_law_net" sNet2 ["draws", "first", "most"] := df_mk X G a13 l13 c13 k13 (fun _ _ _ _ _ _ us hl => match us, hl with | [_, _, _], _ => rfl)
  have D__law_order : Df K mg "_law_order" sOrder2 ["draws", "first", "count"] := df_mk X G a14 l14 c14 k14 (fun _ _ _ _ _ _ us hl => match us, hl with | [_, _, _], _ => rfl)
  have D__law_pairs : Df K mg "_law_pairs" sLPairs ["net", "order"] := df_mk X G a15 l15 c15 k15 (fun _ _ _ _ _ _ us hl => match us, hl with | [_, _], _ => rfl)
  have D__law_lower : Df K mg "_law_lower" sLowerS ["found", "order", "low", "high"] := df_mk X G a16 l16 c16 k16 (fun _ _ _ _ _ _ us hl => match us, hl with | [_, _, _, _], _ => rfl)
  have D__law_changed : Df K mg "_law_changed" sLChanged ["net", "edits"] := df_mk X G a17 l17 c17 k17 (fun _ _ _ _ _ _ us hl => match us, hl with | [_, _], _ => rfl)
  have D__law_changes : Df K mg "_law_changes" sLChanges ["old", "new"] := df_mk X G a18 l18 c18 k18 (fun _ _ _ _ _ _ us hl => match us, hl with | [_, _], _ => rfl)
  have D__law_looked : Df K mg "_law_looked" sLLooked ["found", "order", "edits", "changes"] := df_mk X G a19 l19 c19 k19 (fun _ _ _ _ _ _ us hl => match us, hl with | [_, _, _, _], _ => rfl)
  have D__law_edits : Df K mg "_law_edits" sLEdits ["draws", "first", "net", "many"] := df_mk X G a20 l20 c20 k20 (fun _ _ _ _ _ _ us hl => match us, hl with | [_, _, _, _], _ => rfl)
  have D__law_empty : Df K mg "_law_empty" sLEmpty ["session"] := df_mk X G a21 l21 c21 k21 (fun _ _ _ _ _ _ us hl => match us, hl with | [_], _ => rfl)
  have D__law_refused : Df K mg "_law_refused" sLRefusedS ["session", "net"] := df_mk X G a22 l22 c22 k22 (fun _ _ _ _ _ _ us hl => match us, hl with | [_, _], _ => rfl)
  have D__law_is_at : Df K mg "_law_is_at" sLIsAt ["session", "net", "order", "looked"] := df_mk X G a23 l23 c23 k23 (fun _ _ _ _ _ _ us hl => match us, hl with | [_, _, _, _], _ => rfl)
  have b_range := PySem.W.mg_none_of X G z0
  have b_min := PySem.W.mg_none_of X G z1
  have b_max := PySem.W.mg_none_of X G z2
  have b_len := PySem.W.mg_none_of X G z3
  have b_abs := PySem.W.mg_none_of X G z4
  have b_int := PySem.W.mg_none_of X G z5
  have b_list := PySem.W.mg_none_of X G z6
  have b_enumerate := PySem.W.mg_none_of X G z7
  have b_sorted := PySem.W.mg_none_of X G z8
  have T_K : SesT K K0 := ⟨⟨pgK, hdK, poK, saK⟩, fun f hf => by
    unfold sesN at hf
    simp only [List.mem_cons, List.not_mem_nil, or_false] at hf
    rcases hf with rfl | rfl | rfl | rfl | rfl | rfl | rfl | rfl | rfl | rfl | rfl
    · exact mn0
    · exact mn1
    · exact mn2
    · exact mn3
    · exact mn4
    · exact mn5
    · exact mn6
    · exact mn7
    · exact mn8
    · exact mn9
    · exact mn10
    ⟩
  have M_init : DfM K K0 "__init__" "Session.__init__" sSInit ["self", "net", "order"] := ⟨⟨_, _, fun_mk ml0 mc0 mk0, ⟨mg0, mi0, mk0⟩, (fun_mk (st := sSInit) ml0 mc0 mk0).binds (ps := ["self", "net", "order"]) (fun _ _ _ _ _ _ us hl => match us, hl with | [_, _, _], _ => rfl)⟩, T_K.cl⟩
  have B_init := fun {sp : Sp} {k : Nat} (base : Heap) (ok : ∀ f fd, Fun K "__init__" "Session.__init__" sSInit f fd → FnOk l.prog w K mg base CX0 k f fd ["self", "net", "order"] sp) => (⟨⟨_, _, ok _ _ (fun_mk (st := sSInit) ml0 mc0 mk0), ⟨mkK, mg0, mi0, kcK⟩, PySem.W.mg_of X G aK, (fun_mk (st := sSInit) ml0 mc0 mk0).binds (ps := ["self", "net", "order"]) (fun _ _ _ _ _ _ us hl => match us, hl with | [_, _, _], _ => rfl)⟩⟩ : KalC l.prog w K mg base k K0 "Session" ["self", "net", "order"] sp)
  have M_edit : DfM K K0 "edit" "Session.edit" sSEdit ["self", "a", "b", "price"] := ⟨⟨_, _, fun_mk ml1 mc1 mk1, ⟨mg1, mi1, mk1⟩, (fun_mk (st := sSEdit) ml1 mc1 mk1).binds (ps := ["self", "a", "b", "price"]) (fun _ _ _ _ _ _ us hl => match us, hl with | [_, _, _, _], _ => rfl)⟩, T_K.cl⟩
  have M_edit_all : DfM K K0 "edit_all" "Session.edit_all" sSEditAll ["self", "edits"] := ⟨⟨_, _, fun_mk ml2 mc2 mk2, ⟨mg2, mi2, mk2⟩, (fun_mk (st := sSEditAll) ml2 mc2 mk2).binds (ps := ["self", "edits"]) (fun _ _ _ _ _ _ us hl => match us, hl with | [_, _], _ => rfl)⟩, T_K.cl⟩
  have M_undo : DfM K K0 "undo" "Session.undo" sSUndo ["self"] := ⟨⟨_, _, fun_mk ml3 mc3 mk3, ⟨mg3, mi3, mk3⟩, (fun_mk (st := sSUndo) ml3 mc3 mk3).binds (ps := ["self"]) (fun _ _ _ _ _ _ us hl => match us, hl with | [_], _ => rfl)⟩, T_K.cl⟩
  have M_looked : DfM K K0 "looked" "Session.looked" sSLooked ["self"] := ⟨⟨_, _, fun_mk ml4 mc4 mk4, ⟨mg4, mi4, mk4⟩, (fun_mk (st := sSLooked) ml4 mc4 mk4).binds (ps := ["self"]) (fun _ _ _ _ _ _ us hl => match us, hl with | [_], _ => rfl)⟩, T_K.cl⟩
  have M_net : DfM K K0 "net" "Session.net" sSNet ["self"] := ⟨⟨_, _, fun_mk ml5 mc5 mk5, ⟨mg5, mi5, mk5⟩, (fun_mk (st := sSNet) ml5 mc5 mk5).binds (ps := ["self"]) (fun _ _ _ _ _ _ us hl => match us, hl with | [_], _ => rfl)⟩, T_K.cl⟩
  have M_filling : DfM K K0 "filling" "Session.filling" sSFilling ["self"] := ⟨⟨_, _, fun_mk ml6 mc6 mk6, ⟨mg6, mi6, mk6⟩, (fun_mk (st := sSFilling) ml6 mc6 mk6).binds (ps := ["self"]) (fun _ _ _ _ _ _ us hl => match us, hl with | [_], _ => rfl)⟩, T_K.cl⟩
  have M_copy : DfM K K0 "copy" "Session.copy" sSCopy ["self"] := ⟨⟨_, _, fun_mk ml7 mc7 mk7, ⟨mg7, mi7, mk7⟩, (fun_mk (st := sSCopy) ml7 mc7 mk7).binds (ps := ["self"]) (fun _ _ _ _ _ _ us hl => match us, hl with | [_], _ => rfl)⟩, T_K.cl⟩
  have M__mend : DfM K K0 "_mend" "Session._mend" sSMend ["self", "values"] := ⟨⟨_, _, fun_mk ml8 mc8 mk8, ⟨mg8, mi8, mk8⟩, (fun_mk (st := sSMend) ml8 mc8 mk8).binds (ps := ["self", "values"]) (fun _ _ _ _ _ _ us hl => match us, hl with | [_, _], _ => rfl)⟩, T_K.cl⟩
  have M__fill_in : DfM K K0 "_fill_in" "Session._fill_in" sSFillIn ["self", "low", "high", "x", "y"] := ⟨⟨_, _, fun_mk ml9 mc9 mk9, ⟨mg9, mi9, mk9⟩, (fun_mk (st := sSFillIn) ml9 mc9 mk9).binds (ps := ["self", "low", "high", "x", "y"]) (fun _ _ _ _ _ _ us hl => match us, hl with | [_, _, _, _, _], _ => rfl)⟩, T_K.cl⟩
  have M__mark : DfM K K0 "_mark" "Session._mark" sSMark ["self", "marked", "low", "high", "x"] := ⟨⟨_, _, fun_mk ml10 mc10 mk10, ⟨mg10, mi10, mk10⟩, (fun_mk (st := sSMark) ml10 mc10 mk10).binds (ps := ["self", "marked", "low", "high", "x"]) (fun _ _ _ _ _ _ us hl => match us, hl with | [_, _, _, _, _], _ => rfl)⟩, T_K.cl⟩
  have g_HIGHEST_PRICE := PySem.W.mg_of X G q0
  have g_combinations := PySem.W.mg_of X G y0
  have E_NotAnOrder : PySem.LowX.LowTxt K mg "NotAnOrder" C0 fI := low_mk X G ⟨ea0, ⟨_, _, _, _, _, _, _, _, _, _, _, _, _, _, ex0⟩, es0, eg0, eh0, en0, ei0, ek0, eb0, et0, ed0, ec0, ef0⟩ ⟨tI, _, _, _, _, _, _, _, _, lI, cI⟩
  have E_NoLink : PySem.LowX.LowTxt K mg "NoLink" C1 fI := low_mk X G ⟨ea1, ⟨_, _, _, _, _, _, _, _, _, _, _, _, _, _, ex1⟩, es1, eg1, eh1, en1, ei1, ek1, eb1, et1, ed1, ec1, ef1⟩ ⟨tI, _, _, _, _, _, _, _, _, lI, cI⟩
  have E_BadPrice : PySem.LowX.LowTxt K mg "BadPrice" C2 fI := low_mk X G ⟨ea2, ⟨_, _, _, _, _, _, _, _, _, _, _, _, _, _, ex2⟩, es2, eg2, eh2, en2, ei2, ek2, eb2, et2, ed2, ec2, ef2⟩ ⟨tI, _, _, _, _, _, _, _, _, lI, cI⟩
  have E_NothingToUndo : PySem.LowX.LowTxt K mg "NothingToUndo" C3 fI := low_mk X G ⟨ea3, ⟨_, _, _, _, _, _, _, _, _, _, _, _, _, _, ex3⟩, es3, eg3, eh3, en3, ei3, ek3, eb3, et3, ed3, ec3, ef3⟩ ⟨tI, _, _, _, _, _, _, _, _, lI, cI⟩
  have F_law := fun_mk (st := sLaw) l24 c24 k24
  refine ⟨PySem.W.fnOf "law" "law" (defArgs sLaw) (defBody sLaw) (defScope sLaw) .none kV24 dc24 pm24 an24 cd24 ct24, fun s v => .of_eq rfl, fun base _ _ => ?_⟩
  have cD := kal_of D__law_draws (fun f fd F => ok_draws (P := l.prog) (w := w) (base := base) (k := 0) F b_range b_min b_len b_abs b_int)
  have cA := kal_of D__law_at (fun f fd F => ok_at (P := l.prog) (w := w) (base := base) (k := 0) F b_len b_int)
  have cPr := kal_of D__law_price (fun f fd F => ok_price2 (P := l.prog) (w := w) (base := base) (K := K) (k := 0) F b_int)
  have cN := kal_of D__law_net (fun f fd F => ok_net2 F cA cPr b_range b_int)
  have cO := kal_of D__law_order (fun f fd F => ok_order2 F cA b_range b_int b_sorted)
  have cLP := kal_of D__law_pairs (fun f fd F => ok_lpairs (P := l.prog) (w := w) (base := base) (k := 0) F b_len b_range)
  have cRk := kalx_of D_ranks (fun f fd F => ok_ranks (P := l.prog) (w := w) (base := base) F E_NotAnOrder b_len b_enumerate)
  have cU := kal_of D_upper (fun f fd F => ok_upper F cRk b_len b_enumerate b_range b_min b_max g_combinations)
  have cP := kal_of D_pairs (fun f fd F => ok_pairs F cU)
  have cLb := kal_of D__lower_by_pair (fun f fd F => ok_lowBy (P := l.prog) (w := w) (base := base) (K := K) (k := 0) F g_combinations)
  have cLk := kal_of D_link_ways (fun f fd F => ok_linkWays (P := l.prog) (w := w) (base := base) (K := K) (mg := mg) (k := 0) F)
  have cWy := kal_of D_fill_way (fun f fd F => ok_wayF (P := l.prog) (w := w) (base := base) (K := K) (mg := mg) (k := 0) F)
  have cRw := kal_of D__row (fun f fd F => ok_rowF F cWy)
  have cFi := kal_of D_fill (fun f fd F => ok_fill (k := 4) (by decide) (by decide) (by decide) (by decide) F cP cLb cLk cRw)
  have cLw := kal_of D_lower_places (fun f fd F => ok_lowerPl F cLb)
  have cIs := kal_of D_is_price (fun f fd F => ok_isPriceS (P := l.prog) (w := w) (base := base) (K := K) (mg := mg) (k := 0) F g_HIGHEST_PRICE)
  have mNet := kalm_of M_net (fun f fd F => ok_sNet (P := l.prog) (w := w) (base := base) (mg := mg) (k := 0) F T_K)
  have mFl := kalm_of M_filling (fun f fd F => ok_sFilling (P := l.prog) (w := w) (base := base) (mg := mg) (k := 0) F T_K)
  have mLo := kalm_of M_looked (fun f fd F => ok_sLooked (P := l.prog) (w := w) (base := base) (mg := mg) (k := 0) F T_K b_list)
  have mFi := kalm_of M__fill_in (fun f fd F => ok_sFillIn F T_K cWy)
  have mMk := kalm_of M__mark (fun f fd F => ok_sMark (P := l.prog) (w := w) (base := base) (mg := mg) (k := 0) F T_K)
  have mMd := kalm_of M__mend (fun f fd F => ok_sMend (k := 2) (by decide) (by decide) F T_K mFi mMk)
  have mEA := kalmx_of M_edit_all (fun f fd F => ok_sEditAll (k := 3) (by decide) (by decide) F T_K E_NoLink E_BadPrice cIs mMd b_enumerate)
  have mEd := kalmx_of M_edit (fun f fd F => ok_sEdit (k := 4) (by decide) F T_K mEA)
  have cS := B_init base (fun f fd F => ok_sInit (k := 5) (by decide) (by decide) (by decide) F T_K cFi cLk cLw b_list)
  have cLc := kal_of D__law_changed (fun f fd F => ok_lChanged (P := l.prog) (w := w) (base := base) (K := K) (k := 0) F b_list b_len b_range)
  have cLh := kal_of D__law_changes (fun f fd F => ok_lChanges (P := l.prog) (w := w) (base := base) (K := K) (k := 0) F b_len b_range)
  have cLl := kal_of D__law_lower (fun f fd F => ok_lowerS (P := l.prog) (w := w) (base := base) (K := K) (mg := mg) (k := 0) F)
  have cLk2 := kal_of D__law_looked (fun f fd F => ok_lLooked (k := 1) (by decide) F cLl)
  have cLe := kal_of D__law_edits (fun f fd F => ok_lEdits (k := 1) (by decide) (by decide) F cA cPr b_range b_int b_len)
  have mUn := kalmx_of M_undo (fun f fd F => ok_sUndo (k := 3) (by decide) F T_K E_NothingToUndo mMd)
  have mCo := kalm_of M_copy (fun f fd F => ok_sCopy (k := 7) (by decide) (by decide) F T_K cS mNet b_list)
  have cEm := kal_of D__law_empty (fun f fd F => ok_lEmpty (k := 4) (by decide) F E_NothingToUndo mUn)
  have cRf := kal_of D__law_refused (fun f fd F => ok_lRefE (k := 5) (by decide) F E_NoLink E_BadPrice mEd)
  have cIa := kal_of D__law_is_at (fun f fd F => ok_lIsAt (k := 5) (by decide) (by decide) (by decide) (by decide) F mNet mFl mLo cFi)
  exact ok_law (by decide) (by decide) (by decide) (by decide) (by decide) (by decide) (by decide) (by decide) (by decide) (by decide) (by decide) (by decide) (by decide) (by decide) (by decide) (by decide) (by decide) (by decide) F_law cD cA cN cO cLP cFi cS mEd mEA mUn mCo cLc cLh cLk2 cLe cEm cRf cIa b_int b_list b_range
end Ovc
open PySem PySem.W PyProof.Rows
set_option maxHeartbeats 0 in
theorem PySem.Challenge.cw_overpasses_k18_taking_edits_back_holds : PySem.Challenge.rw_overpasses_k18_taking_edits_back.Holds := by
  w_on; o_law; k_head; (case hw => w_witness2)
  k_fill
  refine Ovc.walkG (l := PySem.Challenge.rw_overpasses_k18_taking_edits_back) (n := 63) (x := "script") (sp := fun w => Ovc.spLaw _) rfl (by decide) rfl (fun w h Y => PySem.W.kIn_of Y) ?F (fun _ _ a ns hl _ hS => ⟨a, ns, rfl, hS, hl, fun _ => rfl⟩)
  case F =>
    intro w mg fa h KX G hmg
    refine' Ovc.all_mk KX G hmg ?a0 ?l0 ?c0 ?k0 ?a1 ?l1 ?c1 ?k1 ?a2 ?l2 ?c2 ?k2 ?a3 ?l3 ?c3 ?k3 ?a4 ?l4 ?c4 ?k4 ?a5 ?l5 ?c5 ?k5 ?a6 ?l6 ?c6 ?k6 ?a7 ?l7 ?c7 ?k7 ?a8 ?l8 ?c8 ?k8 ?a9 ?l9 ?c9 ?k9 ?a10 ?l10 ?c10 ?k10 ?a11 ?l11 ?c11 ?k11 ?a12 ?l12 ?c12 ?k12 ?a13 ?l13 ?c13 ?k13 ?a14 ?l14 ?c14 ?k14 ?a15 ?l15 ?c15 ?k15 ?a16 ?l16 ?c16 ?k16 ?a17 ?l17 ?c17 ?k17 ?a18 ?l18 ?c18 ?k18 ?a19 ?l19 ?c19 ?k19 ?a20 ?l20 ?c20 ?k20 ?a21 ?l21 ?c21 ?k21 ?a22 ?l22 ?c22 ?k22 ?a23 ?l23 ?c23 ?k23 ?a24 ?l24 ?c24 ?k24 ?tI ?lI ?cI ?ea0 ?ex0 ?es0 ?eg0 ?eh0 ?en0 ?ei0 ?ek0 ?eb0 ?et0 ?ed0 ?ec0 ?ef0 ?ea1 ?ex1 ?es1 ?eg1 ?eh1 ?en1 ?ei1 ?ek1 ?eb1 ?et1 ?ed1 ?ec1 ?ef1 ?ea2 ?ex2 ?es2 ?eg2 ?eh2 ?en2 ?ei2 ?ek2 ?eb2 ?et2 ?ed2 ?ec2 ?ef2 ?ea3 ?ex3 ?es3 ?eg3 ?eh3 ?en3 ?ei3 ?ek3 ?eb3 ?et3 ?ed3 ?ec3 ?ef3 ?aK ?pgK ?hdK ?poK ?saK ?mkK ?kcK ?mg0 ?mi0 ?ml0 ?mc0 ?mk0 ?mg1 ?mi1 ?ml1 ?mc1 ?mk1 ?mg2 ?mi2 ?ml2 ?mc2 ?mk2 ?mg3 ?mi3 ?ml3 ?mc3 ?mk3 ?mg4 ?mi4 ?ml4 ?mc4 ?mk4 ?mg5 ?mi5 ?ml5 ?mc5 ?mk5 ?mg6 ?mi6 ?ml6 ?mc6 ?mk6 ?mg7 ?mi7 ?ml7 ?mc7 ?mk7 ?mg8 ?mi8 ?ml8 ?mc8 ?mk8 ?mg9 ?mi9 ?ml9 ?mc9 ?mk9 ?mg10 ?mi10 ?ml10 ?mc10 ?mk10 ?mn0 ?mn1 ?mn2 ?mn3 ?mn4 ?mn5 ?mn6 ?mn7 ?mn8 ?mn9 ?mn10 ?q0 ?y0 ?z0 ?z1 ?z2 ?z3 ?z4 ?z5 ?z6 ?z7 ?z8
    (case a0 => k_is)
    (case l0 => k_is)
    (case c0 => k_is)
    (case k0 => k_is)
    (case a1 => k_is)
    (case l1 => k_is)
    (case c1 => k_is)
    (case k1 => k_is)
    (case a2 => k_is)
    (case l2 => k_is)
    (case c2 => k_is)
    (case k2 => k_is)
    (case a3 => k_is)
    (case l3 => k_is)
    (case c3 => k_is)
    (case k3 => k_is)
    (case a4 => k_is)
    (case l4 => k_is)
    (case c4 => k_is)
    (case k4 => k_is)
    (case a5 => k_is)
    (case l5 => k_is)
    (case c5 => k_is)
    (case k5 => k_is)
    (case a6 => k_is)
    (case l6 => k_is)
    (case c6 => k_is)
    (case k6 => k_is)
    (case a7 => k_is)
    (case l7 => k_is)
    (case c7 => k_is)
    (case k7 => k_is)
    (case a8 => k_is)
    (case l8 => k_is)
    (case c8 => k_is)
    (case k8 => k_is)
    (case a9 => k_is)
    (case l9 => k_is)
    (case c9 => k_is)
    (case k9 => k_is)
    (case a10 => k_is)
    (case l10 => k_is)
    (case c10 => k_is)
    (case k10 => k_is)
    (case a11 => k_is)
    (case l11 => k_is)
    (case c11 => k_is)
    (case k11 => k_is)
    (case a12 => k_is)
    (case l12 => k_is)
    (case c12 => k_is)
    (case k12 => k_is)
    (case a13 => k_is)
    (case l13 => k_is)
    (case c13 => k_is)
    (case k13 => k_is)
    (case a14 => k_is)
    (case l14 => k_is)
    (case c14 => k_is)
    (case k14 => k_is)
    (case a15 => k_is)
    (case l15 => k_is)
    (case c15 => k_is)
    (case k15 => k_is)
    (case a16 => k_is)
    (case l16 => k_is)
    (case c16 => k_is)
    (case k16 => k_is)
    (case a17 => k_is)
    (case l17 => k_is)
    (case c17 => k_is)
    (case k17 => k_is)
    (case a18 => k_is)
    (case l18 => k_is)
    (case c18 => k_is)
    (case k18 => k_is)
    (case a19 => k_is)
    (case l19 => k_is)
    (case c19 => k_is)
    (case k19 => k_is)
    (case a20 => k_is)
    (case l20 => k_is)
    (case c20 => k_is)
    (case k20 => k_is)
    (case a21 => k_is)
    (case l21 => k_is)
    (case c21 => k_is)
    (case k21 => k_is)
    (case a22 => k_is)
    (case l22 => k_is)
    (case c22 => k_is)
    (case k22 => k_is)
    (case a23 => k_is)
    (case l23 => k_is)
    (case c23 => k_is)
    (case k23 => k_is)
    (case a24 => k_is)
    (case l24 => k_is)
    (case c24 => k_is)
    (case k24 => k_is)
    (case ea0 => k_is)
    (case ex0 => k_is)
    (case es0 => k_is)
    (case eg0 => k_is)
    (case eh0 => k_is)
    (case en0 => k_is)
    (case ei0 => k_is)
    (case ek0 => k_is)
    (case eb0 => k_is)
    (case et0 => k_is)
    (case ed0 => k_is)
    (case ec0 => k_is)
    (case ef0 => first | rfl | k_is)
    (case ea1 => k_is)
    (case ex1 => k_is)
    (case es1 => k_is)
    (case eg1 => k_is)
    (case eh1 => k_is)
    (case en1 => k_is)
    (case ei1 => k_is)
    (case ek1 => k_is)
    (case eb1 => k_is)
    (case et1 => k_is)
    (case ed1 => k_is)
    (case ec1 => k_is)
    (case ef1 => first | rfl | k_is)
    (case ea2 => k_is)
    (case ex2 => k_is)
    (case es2 => k_is)
    (case eg2 => k_is)
    (case eh2 => k_is)
    (case en2 => k_is)
    (case ei2 => k_is)
    (case ek2 => k_is)
    (case eb2 => k_is)
    (case et2 => k_is)
    (case ed2 => k_is)
    (case ec2 => k_is)
    (case ef2 => first | rfl | k_is)
    (case ea3 => k_is)
    (case ex3 => k_is)
    (case es3 => k_is)
    (case eg3 => k_is)
    (case eh3 => k_is)
    (case en3 => k_is)
    (case ei3 => k_is)
    (case ek3 => k_is)
    (case eb3 => k_is)
    (case et3 => k_is)
    (case ed3 => k_is)
    (case ec3 => k_is)
    (case ef3 => first | rfl | k_is)
    (case aK => k_is)
    (case pgK => k_is)
    (case hdK => k_is)
    (case poK => k_is)
    (case saK => k_is)
    (case mkK => k_is)
    (case kcK => k_is)
    (case mg0 => k_is)
    (case mi0 => k_is)
    (case ml0 => k_is)
    (case mc0 => k_is)
    (case mk0 => k_is)
    (case mg1 => k_is)
    (case mi1 => k_is)
    (case ml1 => k_is)
    (case mc1 => k_is)
    (case mk1 => k_is)
    (case mg2 => k_is)
    (case mi2 => k_is)
    (case ml2 => k_is)
    (case mc2 => k_is)
    (case mk2 => k_is)
    (case mg3 => k_is)
    (case mi3 => k_is)
    (case ml3 => k_is)
    (case mc3 => k_is)
    (case mk3 => k_is)
    (case mg4 => k_is)
    (case mi4 => k_is)
    (case ml4 => k_is)
    (case mc4 => k_is)
    (case mk4 => k_is)
    (case mg5 => k_is)
    (case mi5 => k_is)
    (case ml5 => k_is)
    (case mc5 => k_is)
    (case mk5 => k_is)
    (case mg6 => k_is)
    (case mi6 => k_is)
    (case ml6 => k_is)
    (case mc6 => k_is)
    (case mk6 => k_is)
    (case mg7 => k_is)
    (case mi7 => k_is)
    (case ml7 => k_is)
    (case mc7 => k_is)
    (case mk7 => k_is)
    (case mg8 => k_is)
    (case mi8 => k_is)
    (case ml8 => k_is)
    (case mc8 => k_is)
    (case mk8 => k_is)
    (case mg9 => k_is)
    (case mi9 => k_is)
    (case ml9 => k_is)
    (case mc9 => k_is)
    (case mk9 => k_is)
    (case mg10 => k_is)
    (case mi10 => k_is)
    (case ml10 => k_is)
    (case mc10 => k_is)
    (case mk10 => k_is)
    (case mn0 => k_is)
    (case mn1 => k_is)
    (case mn2 => k_is)
    (case mn3 => k_is)
    (case mn4 => k_is)
    (case mn5 => k_is)
    (case mn6 => k_is)
    (case mn7 => k_is)
    (case mn8 => k_is)
    (case mn9 => k_is)
    (case mn10 => k_is)
    (case q0 => k_is)
    (case y0 => k_is)
    (case z0 => k_is)
    (case z1 => k_is)
    (case z2 => k_is)
    (case z3 => k_is)
    (case z4 => k_is)
    (case z5 => k_is)
    (case z6 => k_is)
    (case z7 => k_is)
    (case z8 => k_is)
    (case tI => k_is)
    (case lI => k_is)
    (case cI => k_is)
