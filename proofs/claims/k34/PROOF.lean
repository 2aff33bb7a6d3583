import PyProof.Rows.All
import Wide.All
import OpenK.AllK
import Wide.FinOn
import PySem.Challenge.RW_overpasses_k34_whole_labels_answer_and_a
import HandS.Base
import HandS.Call
import HandS.List
import HandS.Comp
import HandS.Dict
import HandS.Ends
import HandS.Iter
import HandS.Text
import HandS.Words
import HandS.Evl
import HandS.IsInst
import HandS.Style
import HandS.Exc
import HandS.TryOnly
import HandS.TryMany
import HandS.ExcOwn
import HandS.WordsExc
import HandS.TupLe
import HandS.Conv
import HandS.Walk
import HandS.WordsDict
import HandS.More
import HandS.Sort
import HandS.Deep
import HandS.SortKw
import HandS.DictComp
import HandS.DeepEq
import HandS.Remove
import PyProof.ZipIter
import PyProof.CallType
import PyProof.Walk
import PyProof.WalkLemmas
import PyProof.RangeIter
import PyProof.RulesTry
import HandS.Rev
import KE.DataMinMax
import KE.LtData
import PyProof.Rows.RowBridgeK
import KE.KRevSl
import HandS.SortRule
import HandS.RevRange
set_option Elab.async false
set_option linter.all false
set_option maxRecDepth 100000
set_option maxHeartbeats 2000000
namespace Ovc
open PySem PySem.Spec PyProof.Rows L2
def topS (i : Nat) : Stmt := PySem.Challenge.pw_overpasses_k34_whole_labels_answer_and_a.main.body.getD i (.Pass ⟨0, 0, 0, 0⟩)
/-! ### heaps -/
theorem same_upd {H : Hp} {p : Addr} {o : HO} (h : H p = none) : Same H (upd H p o) := fun b x e => by
  rw [upd_ne (ne_of_none e h)]
  exact e
theorem same_upd' {G H : Hp} {p : Addr} {o : HO} (s : Same G H) (h : G p = none) : Same G (upd H p o) := fun b x e => by
  rw [upd_ne (ne_of_none e h)]
  exact s b x e
/-- all of H but what stands at o -/
def but (H : Hp) (o : Addr) : Hp := fun b => if b = o then none else H b
theorem but_at {H : Hp} {o : Addr} : but H o o = none := if_pos rfl
theorem but_ne {H : Hp} {o b : Addr} (h : b ≠ o) : but H o b = H b := if_neg h
theorem but_same {H : Hp} {o : Addr} : Same (but H o) H := fun b x e => by
  by_cases h : b = o
  · rw [h, but_at] at e
    cases e
  · rw [but_ne h] at e
    exact e
theorem same_but {G H : Hp} {o : Addr} (s : Same G H) (n : G o = none) : Same G (but H o) := fun b x e => by
  rw [but_ne (ne_of_none e n)]
  exact s b x e
theorem but_mono {H H' : Hp} {o : Addr} (s : Same H H') : Same (but H o) (but H' o) := fun b x e => by
  by_cases h : b = o
  · rw [h, but_at] at e
    cases e
  · rw [but_ne h] at e ⊢
    exact s b x e
theorem but_upd {H : Hp} {o : Addr} {u : HO} : but (upd H o u) o = but H o := by
  funext b
  by_cases h : b = o
  · rw [h, but_at, but_at]
  · rw [but_ne h, but_ne h, upd_ne h]
/-- a store at o, seen from what stands beside it -/
theorem but_upd_same {H : Hp} {o : Addr} {u : HO} : Same (but H o) (upd H o u) := fun b x e => by
  by_cases h : b = o
  · rw [h, but_at] at e
    cases e
  · rw [but_ne h] at e
    rw [upd_ne h]
    exact e
theorem seqT {K : PySem.W.Frag} {H H' : Hp} {a : Addr} {xs : List V} (e : Same H H') (h : SqT K H a xs) : SqT K H' a xs := by
  rcases h with (h | ⟨o, h⟩) | h
  · exact .inl (.inl (e _ _ h))
  · exact .inl (.inr ⟨o, e _ _ h⟩)
  · exact .inr h
mutual
theorem dpS {K : PySem.W.Frag} {H H' : Hp} (s : Same H H') : ∀ (d : PyData) (v : V), Dp K H v d → Dp K H' v d
  | .none, _, h => by
    cases h
    exact .non
  | .bool b, _, h => by
    cases h
    exact .bl b
  | .int i, _, h => by
    cases h
    exact .int i
  | .str x, _, h => by
    cases h
    exact .str x
  | .list ds, _, h => by
    cases h with
    | lst hs ha => exact .lst (s.seq hs) (dpSAll s ds _ ha)
  | .tuple ds, _, h => by
    cases h with
    | tup hs ha => exact .tup (seqT s hs) (dpSAll s ds _ ha)
  | .dict _, _, h => by cases h
theorem dpSAll {K : PySem.W.Frag} {H H' : Hp} (s : Same H H') : ∀ (ds : List PyData) (vs : List V), DpAll K H vs ds → DpAll K H' vs ds
  | [], _, h => by
    cases h
    exact .nil
  | d :: ds, _, h => by
    cases h with
    | cons h1 h2 => exact .cons (dpS s d _ h1) (dpSAll s ds _ h2)
end
theorem Dp.to {K : PySem.W.Frag} {H H' : Hp} {v : V} {d : PyData} (h : Dp K H v d) (s : Same H H') : Dp K H' v d := dpS s d v h
theorem DpAll.to {K : PySem.W.Frag} {H H' : Hp} {vs : List V} {ds : List PyData} (h : DpAll K H vs ds) (s : Same H H') : DpAll K H' vs ds := dpSAll s ds vs h
theorem DpAll.len {K : PySem.W.Frag} {H : Hp} : ∀ {vs : List V} {ds : List PyData}, DpAll K H vs ds → vs.length = ds.length
  | _, _, .nil => rfl
  | _, _, .cons _ t => by
    rw [List.length_cons, List.length_cons, DpAll.len t]
theorem DpAll.get {K : PySem.W.Frag} {H : Hp} : ∀ {vs : List V} {ds : List PyData} {i : Nat} {d : PyData}, DpAll K H vs ds → ds[i]? = some d → ∃ v, vs[i]? = some v ∧ Dp K H v d
  | _, _, i, d, .nil, e => by simp at e
  | _, _, 0, d, .cons h _, e => by
    have e' := Option.some.inj e
    subst e'
    exact ⟨_, rfl, h⟩
  | _, _, i + 1, d, .cons _ t, e => DpAll.get (i := i) t e
theorem DpAll.app {K : PySem.W.Frag} {H : Hp} : ∀ {vs ws : List V} {ds es : List PyData}, DpAll K H vs ds → DpAll K H ws es → DpAll K H (vs ++ ws) (ds ++ es)
  | _, _, _, _, .nil, t => t
  | _, _, _, _, .cons h r, t => .cons h (DpAll.app r t)
theorem DpAll.take {K : PySem.W.Frag} {H : Hp} : ∀ {vs : List V} {ds : List PyData} (n : Nat), DpAll K H vs ds → DpAll K H (vs.take n) (ds.take n)
  | _, _, 0, _ => .nil
  | _, _, _ + 1, .nil => .nil
  | _, _, n + 1, .cons h t => .cons h (DpAll.take n t)
theorem DpAll.drop {K : PySem.W.Frag} {H : Hp} : ∀ {vs : List V} {ds : List PyData} (n : Nat), DpAll K H vs ds → DpAll K H (vs.drop n) (ds.drop n)
  | _, _, 0, h => h
  | _, _, _ + 1, .nil => .nil
  | _, _, n + 1, .cons _ t => DpAll.drop n t
theorem DpAll.one {K : PySem.W.Frag} {H : Hp} {v : V} {d : PyData} (h : Dp K H v d) : DpAll K H [v] [d] := .cons h .nil
theorem Dp.int_inv {K : PySem.W.Frag} {H : Hp} {v : V} {i : Int} (h : Dp K H v (.int i)) : v = .int i := by
  cases h
  rfl
theorem DpAll.ints {K : PySem.W.Frag} {H : Hp} : ∀ ns : List Int, DpAll K H (ns.map V.int) (ns.map PyData.int)
  | [] => .nil
  | n :: ns => .cons (.int n) (DpAll.ints ns)
theorem DpAll.ints_inv {K : PySem.W.Frag} {H : Hp} : ∀ {ns : List Int} {vs : List V}, DpAll K H vs (ns.map PyData.int) → vs = ns.map V.int
  | [], _, h => by
    cases h
    rfl
  | n :: ns, _, h => by
    cases h with
    | cons h1 h2 =>
      rw [Dp.int_inv h1, DpAll.ints_inv h2]
      rfl
theorem Dp.lst_inv {K : PySem.W.Frag} {H : Hp} {v : V} {ds : List PyData} (h : Dp K H v (.list ds)) : ∃ a xs, v = .ref a ∧ SqL K H a xs ∧ DpAll K H xs ds := by
  cases h with
  | lst hs ha => exact ⟨_, _, rfl, hs, ha⟩
theorem Dp.tup_inv {K : PySem.W.Frag} {H : Hp} {v : V} {ds : List PyData} (h : Dp K H v (.tuple ds)) : ∃ a xs, v = .ref a ∧ SqT K H a xs ∧ DpAll K H xs ds := by
  cases h with
  | tup hs ha => exact ⟨_, _, rfl, hs, ha⟩
/-! ### an int or None -/
def oV : Option Int → V
  | none => .non
  | some i => .int i
def oD : Option Int → PyData
  | none => .none
  | some i => .int i
theorem Dp.o {K : PySem.W.Frag} {H : Hp} : ∀ o : Option Int, Dp K H (oV o) (oD o)
  | none => .non
  | some i => .int i
theorem Dp.o_inv {K : PySem.W.Frag} {H : Hp} {v : V} : ∀ {o : Option Int}, Dp K H v (oD o) → v = oV o
  | none, h => by
    cases h
    rfl
  | some i, h => by
    cases h
    rfl
theorem oV_non {o : Option Int} : decide (oV o = .non) = o.isNone := by
  cases o <;> rfl
theorem eqv_o : ∀ a b : Option Int, PyData.eqv (oD a) (oD b) = decide (a = b)
  | none, none => by rfl
  | none, some _ => by rfl
  | some _, none => by rfl
  | some a, some b => by
    show (a == b) = _
    by_cases h : a = b
    · subst h
      rw [decide_eq_true rfl]
      exact beq_self_eq_true a
    · rw [decide_eq_false (fun e => h (Option.some.inj e))]
      exact beq_eq_false_iff_ne.mpr h
theorem shaped_o (a : Option Int) : SeqAt.shaped (oD a) = true := by
  cases a <;> rfl
/-! ### links and nets -/
structure Lnk where
  a : Int
  b : Int
  t : Option Int
  k : Option Int
structure Net where
  n : Int
  ls : List Lnk
def lnkV (l : Lnk) : List V := [.int l.a, .int l.b, oV l.t, oV l.k]
def lnkD (l : Lnk) : PyData := .tuple [.int l.a, .int l.b, oD l.t, oD l.k]
def netD (N : Net) : PyData := .tuple [.int N.n, .list (N.ls.map lnkD)]
theorem Dp.lnk_inv {K : PySem.W.Frag} {H : Hp} {v : V} {l : Lnk} (h : Dp K H v (lnkD l)) : ∃ a, v = .ref a ∧ SqT K H a (lnkV l) := by
  obtain ⟨a, xs, rfl, hs, ha⟩ := Dp.tup_inv h
  cases ha with
  | cons h1 r1 =>
    cases r1 with
    | cons h2 r2 =>
      cases r2 with
      | cons h3 r3 =>
        cases r3 with
        | cons h4 r4 =>
          cases r4
          rw [Dp.int_inv h1, Dp.int_inv h2, Dp.o_inv h3, Dp.o_inv h4] at hs
          exact ⟨a, rfl, hs⟩
theorem Dp.lnk {K : PySem.W.Frag} {H : Hp} {a : Addr} {l : Lnk} (h : SqT K H a (lnkV l)) : Dp K H (.ref a) (lnkD l) :=
  .tup h (.cons (.int _) (.cons (.int _) (.cons (Dp.o _) (.cons (Dp.o _) .nil))))
theorem Dp.net_inv {K : PySem.W.Frag} {H : Hp} {v : V} {N : Net} (h : Dp K H v (netD N)) : ∃ p q xs, v = .ref p ∧ SqT K H p [.int N.n, .ref q] ∧ SqL K H q xs ∧ DpAll K H xs (N.ls.map lnkD) := by
  obtain ⟨a, xs, rfl, hs, ha⟩ := Dp.tup_inv h
  cases ha with
  | cons h1 r1 =>
    cases r1 with
    | cons h2 r2 =>
      cases r2
      obtain ⟨q, ys, rfl, hl, hy⟩ := Dp.lst_inv h2
      rw [Dp.int_inv h1] at hs
      exact ⟨a, q, ys, rfl, hs, hl, hy⟩
theorem Dp.net {K : PySem.W.Frag} {H : Hp} {p q : Addr} {xs : List V} {N : Net} (h : SqT K H p [.int N.n, .ref q]) (hq : SqL K H q xs) (hx : DpAll K H xs (N.ls.map lnkD)) : Dp K H (.ref p) (netD N) :=
  .tup h (.cons (.int _) (.cons (.lst hq hx) .nil))
/-! ### pure expressions: what they evaluate to, the heap as it is -/
def Vl (te : TE) (σ : L2.St) (H : Hp) (v : V) : Prop := ∀ Q : VK, Q v H → te σ H Q
def An (t : TT) (σ : L2.St) (H : Hp) (b : Bool) : Prop := ∀ Q : Bool → Hp → Prop, Q b H → t σ H Q
def Va (ta : TA) (σ : L2.St) (H : Hp) (vs : List V) : Prop := ∀ Q : List V → Hp → Prop, Q vs H → ta σ H Q
section
variable {K : PySem.W.Frag} {σ : L2.St} {H : Hp} {i : Nat} {v x y z : V} {ta tb te tv : TE} {b : Bool} {a : Addr} {t u c : TT} {tr : TA} {D : Ends} {tz tw : TS}
theorem va_nil : Va tNil σ H [] := fun _ q => q
theorem va_cons {vs : List V} (h : Vl ta σ H x) (hr : Va tr σ H vs) : Va (tCons ta tr) σ H (x :: vs) := fun Q q => h _ (hr _ q)
theorem vl_var (h : σ[i]? = some (some v)) : Vl (tVar i) σ H v := fun _ q => ⟨v, h, q⟩
theorem vl_c : Vl (tC v) σ H v := fun _ q => q
theorem vl_op {r : R2} (ha : Vl ta σ H x) (hb : Vl tb σ H y) (hr : ∀ Q : VK, Q z H → r x y H Q) : Vl (tOp r ta tb) σ H z := fun Q q => ha _ (hb _ (hr _ q))
theorem vl_I0 {g : Int → Int → V} {p q : Int} (ha : Vl ta σ H (.int p)) (hb : Vl tb σ H (.int q)) : Vl (tOp (rI0 g) ta tb) σ H (g p q) := vl_op ha hb fun _ k => ⟨p, q, rfl, rfl, k⟩
theorem vl_I {C : Int → Int → Prop} {g : Int → Int → V} {p q : Int} (ha : Vl ta σ H (.int p)) (hb : Vl tb σ H (.int q)) (hc : C p q) : Vl (tOp (rI C g) ta tb) σ H (g p q) := vl_op ha hb fun _ k => ⟨p, q, rfl, rfl, hc, k⟩
theorem vl_un {r : V → Hp → VK → Prop} (ha : Vl ta σ H x) (hr : ∀ Q : VK, Q z H → r x H Q) : Vl (tUn r ta) σ H z := fun Q q => ha _ (hr _ q)
theorem vl_neg {p : Int} (ha : Vl ta σ H (.int p)) : Vl (tUn (rU fun i => .int (-i)) ta) σ H (.int (-p)) := vl_un ha fun _ k => ⟨p, rfl, k⟩
theorem vl_cb {r : List V → Hp → VK → Prop} {vs : List V} (h : Va tr σ H vs) (hr : ∀ Q : VK, Q z H → r vs H Q) : Vl (tCB r tr) σ H z := fun Q q => h _ (hr _ q)
theorem vl_int1 {p : Int} (ha : Vl ta σ H (.int p)) : Vl (tCB (fun xs H Q => (∃ i, xs = [V.int i] ∧ Q (V.int i) H) ∨ ∃ k, xs = [V.bl k] ∧ Q (V.int (if k then 1 else 0)) H) (tCons ta tNil)) σ H (.int p) :=
  vl_cb (va_cons ha va_nil) fun _ k => .inl ⟨p, rfl, k⟩
theorem vl_int1b {k : Bool} (ha : Vl ta σ H (.bl k)) : Vl (tCB (fun xs H Q => (∃ i, xs = [V.int i] ∧ Q (V.int i) H) ∨ ∃ k, xs = [V.bl k] ∧ Q (V.int (if k then 1 else 0)) H) (tCons ta tNil)) σ H (.int (if k then 1 else 0)) :=
  vl_cb (va_cons ha va_nil) fun _ q => .inr ⟨k, rfl, q⟩
theorem vl_abs {p : Int} (ha : Vl ta σ H (.int p)) : Vl (tCB (fun xs H Q => ∃ i, xs = [V.int i] ∧ Q (V.int (if i < 0 then -i else i)) H) (tCons ta tNil)) σ H (.int (if p < 0 then -p else p)) :=
  vl_cb (va_cons ha va_nil) fun _ k => ⟨p, rfl, k⟩
theorem vl_min2 {p q : Int} (ha : Vl ta σ H (.int p)) (hb : Vl tb σ H (.int q)) : Vl (tCB (fun xs H Q => ∃ i j, xs = [V.int i, V.int j] ∧ Q (V.int (if j < i then j else i)) H) (tCons ta (tCons tb tNil))) σ H (.int (if q < p then q else p)) :=
  vl_cb (va_cons ha (va_cons hb va_nil)) fun _ k => ⟨p, q, rfl, k⟩
theorem vl_max2 {p q : Int} (ha : Vl ta σ H (.int p)) (hb : Vl tb σ H (.int q)) : Vl (tCB (fun xs H Q => ∃ i j, xs = [V.int i, V.int j] ∧ Q (V.int (if j > i then j else i)) H) (tCons ta (tCons tb tNil))) σ H (.int (if q > p then q else p)) :=
  vl_cb (va_cons ha (va_cons hb va_nil)) fun _ k => ⟨p, q, rfl, k⟩
theorem vl_lenL {xs : List V} (ha : Vl ta σ H (.ref a)) (h : SqL K H a xs) : Vl (tCB (fun xs H Q => ∃ p ys, xs = [V.ref p] ∧ (SqL K H p ys ∨ SqT K H p ys) ∧ Q (V.int ys.length) H) (tCons ta tNil)) σ H (.int xs.length) :=
  vl_cb (va_cons ha va_nil) fun _ k => ⟨a, xs, rfl, .inl h, k⟩
theorem vl_ixL {xs : List V} {p : Int} (ha : Vl ta σ H (.ref a)) (hb : Vl tb σ H (.int p)) (h : SqL K H a xs) (hg : atI xs p = some z) : Vl (tOp (rIxL K) ta tb) σ H z :=
  vl_op ha hb fun _ k => ⟨a, xs, p, z, rfl, rfl, h, hg, k⟩
theorem vl_ixT {xs : List V} {p : Int} (ha : Vl ta σ H (.ref a)) (hb : Vl tb σ H (.int p)) (h : SqT K H a xs) (hg : atI xs p = some z) : Vl (tOp (rIxT K) ta tb) σ H z :=
  vl_op ha hb fun _ k => ⟨a, xs, p, z, rfl, rfl, h, hg, k⟩
theorem vl_eq (ha : Vl ta σ H x) (hb : Vl tb σ H y) (hs : scal x y = true) : Vl (tOp rEq ta tb) σ H (.bl (decide (x = y))) := vl_op ha hb fun _ k => ⟨hs, k⟩
theorem vl_ne (ha : Vl ta σ H x) (hb : Vl tb σ H y) (hs : scal x y = true) : Vl (tOp rNe ta tb) σ H (.bl (!decide (x = y))) := vl_op ha hb fun _ k => ⟨hs, k⟩
theorem vl_isN (ha : Vl ta σ H x) : Vl (tOp (fun x y H Q => y = V.non ∧ Q (V.bl (decide (x = V.non))) H) ta (tC .non)) σ H (.bl (decide (x = .non))) := vl_op ha vl_c fun _ k => ⟨rfl, k⟩
theorem vl_notN (ha : Vl ta σ H x) : Vl (tOp (fun x y H Q => y = V.non ∧ Q (V.bl (!decide (x = V.non))) H) ta (tC .non)) σ H (.bl (!decide (x = .non))) := vl_op ha vl_c fun _ k => ⟨rfl, k⟩
theorem vl_chain {r r' : R2} {tc : TE} {w : V} {k m : Bool} (ha : Vl ta σ H x) (hb : Vl tb σ H y) (hr : ∀ Q : VK, Q (.bl k) H → r x y H Q) (hc : Vl tc σ H w) (hr' : ∀ Q : VK, Q (.bl m) H → r' y w H Q) : Vl (tChain r r' ta tb tc) σ H (.bl (k && m)) := fun Q q =>
  ha _ (hb _ (hr _ ⟨k, rfl, by
    cases k with
    | true => exact iteT (hc _ (hr' _ q))
    | false => exact iteF q⟩))
theorem vl_chainI {g g' : Int → Int → Bool} {tc : TE} {p q s : Int} (ha : Vl ta σ H (.int p)) (hb : Vl tb σ H (.int q)) (hc : Vl tc σ H (.int s)) :
    Vl (tChain (rI0 fun i j => .bl (g i j)) (rI0 fun i j => .bl (g' i j)) ta tb tc) σ H (.bl (g p q && g' q s)) :=
  vl_chain ha hb (fun _ k => ⟨p, q, rfl, rfl, k⟩) hc (fun _ k => ⟨q, s, rfl, rfl, k⟩)
theorem vl_if {b : Bool} (h : An t σ H b) (h1 : b = true → Vl ta σ H v) (h2 : b = false → Vl tb σ H v) : Vl (tIf t ta tb) σ H v := fun Q q => h _ (by
  cases b with
  | true => exact iteT (h1 rfl _ q)
  | false => exact iteF (h2 rfl _ q))
theorem an_test {b : Bool} (h : Vl te σ H (.bl b)) : An (tTest te) σ H b := fun Q q => h _ ⟨b, rfl, q⟩
theorem an_B {b : Bool} (h : Vl te σ H (.bl b)) : An (tB te) σ H b := fun Q q => h _ ⟨b, rfl, q⟩
theorem an_not (h : An t σ H b) : An (tNot t) σ H (!b) := fun Q q => h _ q
theorem an_and {k m : Bool} (h1 : An t σ H k) (h2 : k = true → An u σ H m) : An (tAnd t u) σ H (k && m) := fun Q q => h1 _ (by
  cases k with
  | true => exact iteT (h2 rfl _ q)
  | false => exact iteF q)
theorem an_or {k m : Bool} (h1 : An t σ H k) (h2 : k = false → An u σ H m) : An (tOr t u) σ H (k || m) := fun Q q => h1 _ (by
  cases k with
  | true => exact iteT q
  | false => exact iteF (h2 rfl _ q))
theorem An.is {k m : Bool} (h : An t σ H k) (e : k = m) : An t σ H m := e ▸ h
theorem Vl.is {v w : V} (h : Vl te σ H v) (e : v = w) : Vl te σ H w := e ▸ h
/-! ### statements over them -/
theorem g_seq (h : tz { D with nx := tw D } σ H) : tSeq tz tw D σ H := h
theorem g_asg {i : Nat} (h : Vl te σ H v) (k : D.nx (σ.set i (some v)) H) : tAsg te (gName i) D σ H := h _ k
theorem g_ret (h : Vl te σ H v) (k : D.rt v H) : tRet te D σ H := h _ k
theorem g_if {b : Bool} (h : An t σ H b) (h1 : b = true → tz D σ H) (h2 : b = false → tw D σ H) : tIfS t tz tw D σ H := h _ (by
  cases b with
  | true => exact iteT (h1 rfl)
  | false => exact iteF (h2 rfl))
theorem g_app {l : Addr} {xs : List V} (ho : Vl ta σ H (.ref l)) (hl : H l = some (.lst xs)) (h : Vl te σ H v) (hz : xs.length < sizeLine) (k : D.nx σ (upd H l (.lst (xs ++ [v])))) :
    tDrop (tBM K "list" rAppend ta (tCons te tNil)) D σ H := ho _ ⟨.inl ⟨rfl, _, .inl (.inl hl)⟩, h _ ⟨l, xs, v, rfl, rfl, hl, hz, k⟩⟩
theorem at_int {ds : List Int} {k : Int} (h0 : 0 ≤ k) (h1 : k < (ds.length : Int)) : ∃ d, atI (ds.map V.int) k = some (.int d) ∧ ds[k.toNat]? = some d := by
  have hj : k.toNat < ds.length := by omega
  have g : (ds.map V.int)[k.toNat]? = some (.int ds[k.toNat]) := by
    rw [List.getElem?_map, List.getElem?_eq_getElem hj]
    rfl
  have g2 := atI_nat g
  rw [show ((k.toNat : Nat) : Int) = k by omega] at g2
  exact ⟨ds[k.toNat], g2, List.getElem?_eq_getElem hj⟩
/-! ### loops -/
theorem g_forR {j : Nat} {n : Int} (h : Va tr σ H [.int n]) (hn : -(2 ^ 62) ≤ n ∧ n < 2 ^ 62) (Pv : Nat → L2.St → Hp → Prop) (h0 : Pv 0 σ H)
    (hs : ∀ (i : Nat) σ H, (i : Int) < n → Pv i σ H → tz { D with nx := Pv (i + 1), ct := Pv (i + 1), bk := D.nx } (σ.set j (some (.int i))) H) (hd : ∀ σ H, Pv n.toNat σ H → D.nx σ H) :
    tFor (iRng1 tr) (gName j) tz D σ H := h _ ⟨n, rfl, hn.1, hn.2, for_range (lo := 0) (n := n.toNat) Pv h0 (fun i σ H hi p => by
      show tz _ (σ.set j (some (.int (0 + i)))) H
      rw [Int.zero_add]
      exact hs i σ H (by omega) p) hd⟩
theorem g_forR2 {j : Nat} {lo n : Int} (h : Va tr σ H [.int lo, .int n]) (hn : -(2 ^ 62) ≤ lo ∧ lo < 2 ^ 62 ∧ -(2 ^ 62) ≤ n ∧ n < 2 ^ 62) (Pv : Nat → L2.St → Hp → Prop) (h0 : Pv 0 σ H)
    (hs : ∀ (i : Nat) σ H, lo + (i : Int) < n → Pv i σ H → tz { D with nx := Pv (i + 1), ct := Pv (i + 1), bk := D.nx } (σ.set j (some (.int (lo + i)))) H) (hd : ∀ σ H, Pv (n - lo).toNat σ H → D.nx σ H) :
    tFor (iRng2 tr) (gName j) tz D σ H := h _ ⟨lo, n, rfl, hn, for_range (lo := lo) (n := (n - lo).toNat) Pv h0 (fun i σ H hi p => hs i σ H (by omega) p) hd⟩
theorem g_forL {j : Nat} {xs : List V} {tl : TE} (h : Vl tl σ H (.ref a)) (hx : SqL K H a xs) (Pv : Nat → L2.St → Hp → Prop) (h0 : Pv 0 σ H) (hl : ∀ i σ' H', Pv i σ' H' → SqL K H' a xs)
    (hs : ∀ (i : Nat) x σ H, xs[i]? = some x → Pv i σ H → tz { D with nx := Pv (i + 1), ct := Pv (i + 1), bk := D.nx } (σ.set j (some x)) H) (hd : ∀ σ H, Pv xs.length σ H → D.nx σ H) :
    tFor (iList K tl) (gName j) tz D σ H := h _ ⟨a, rfl, ⟨_, hx⟩, for_list (xs := xs) Pv h0 (fun i σ H _ p => hl i σ H p) hs hd⟩
/-- for a, b, there, back in links -/
theorem g_forLnk {j1 j2 j3 j4 : Nat} {Hb : Hp} {xs : List V} {ls : List Lnk} {tl : TE} (h : Vl tl σ H (.ref a)) (hx : SqL K Hb a xs) (hL : DpAll K Hb xs (ls.map lnkD)) (hb : Same Hb H) (Pv : Nat → L2.St → Hp → Prop) (h0 : Pv 0 σ H) (hl : ∀ i σ' H', Pv i σ' H' → Same Hb H')
    (hs : ∀ (i : Nat) l σ H, ls[i]? = some l → Pv i σ H → tz { D with nx := Pv (i + 1), ct := Pv (i + 1), bk := D.nx } ((((σ.set j1 (some (.int l.a))).set j2 (some (.int l.b))).set j3 (some (oV l.t))).set j4 (some (oV l.k))) H) (hd : ∀ σ H, Pv ls.length σ H → D.nx σ H) :
    tFor (iList K tl) (gTup K 4 (gCons (gName j1) (gCons (gName j2) (gCons (gName j3) (gCons (gName j4) gNil))))) tz D σ H := h _ ⟨a, rfl, ⟨_, hb.seq hx⟩, for_list (xs := xs) Pv h0 (fun i σ H _ p => (hl i σ H p).seq hx) (fun i x σ H hi p => by
      have e := DpAll.len hL
      rw [List.length_map] at e
      have hlt : i < xs.length := by
        by_cases hlt : i < xs.length
        · exact hlt
        · rw [List.getElem?_eq_none (by omega)] at hi
          cases hi
      have hg : ls[i]? = some ls[i] := List.getElem?_eq_getElem (by omega)
      obtain ⟨v, hv, dv⟩ := DpAll.get (i := i) (d := lnkD ls[i]) hL (by
        rw [List.getElem?_map, hg]
        rfl)
      cases hi.symm.trans hv
      obtain ⟨t, rfl, ht⟩ := Dp.lnk_inv dv
      exact ⟨t, _, rfl, seqT (hl i σ H p) ht, rfl, _, _, rfl, _, _, rfl, _, _, rfl, _, _, rfl, rfl, hs i _ σ H hg p⟩) (fun σ H p => by
      have e := DpAll.len hL
      rw [List.length_map] at e
      rw [e] at p
      exact hd σ H p)⟩
/-! ### the same with what follows -/
theorem q_asg {i : Nat} (h : Vl te σ H v) (k : tw D (σ.set i (some v)) H) : tSeq (tAsg te (gName i)) tw D σ H := h _ k
theorem q_if {b : Bool} {tu : TS} (h : An t σ H b) (h1 : b = true → tz { D with nx := tw D } σ H) (h2 : b = false → tu { D with nx := tw D } σ H) : tSeq (tIfS t tz tu) tw D σ H := g_if (D := { D with nx := tw D }) h h1 h2
/-- an if without else whose body leaves the def (or the turn) -/
theorem q_when {b : Bool} (h : An t σ H b) (h1 : b = true → tz { D with nx := tw D } σ H) (h2 : b = false → tw D σ H) : tSeq (tIfS t tz tNext) tw D σ H := g_if (D := { D with nx := tw D }) h h1 h2
theorem g_when {b : Bool} (h : An t σ H b) (h1 : b = true → tz D σ H) (h2 : b = false → D.nx σ H) : tIfS t tz tNext D σ H := g_if h h1 h2
theorem q_app {l : Addr} {xs : List V} (ho : Vl ta σ H (.ref l)) (hl : H l = some (.lst xs)) (h : Vl te σ H v) (hz : xs.length < sizeLine) (k : tw D σ (upd H l (.lst (xs ++ [v])))) :
    tSeq (tDrop (tBM K "list" rAppend ta (tCons te tNil))) tw D σ H := g_app (D := { D with nx := tw D }) ho hl h hz k
theorem q_forR {j : Nat} {n : Int} (h : Va tr σ H [.int n]) (hn : -(2 ^ 62) ≤ n ∧ n < 2 ^ 62) (Pv : Nat → L2.St → Hp → Prop) (h0 : Pv 0 σ H)
    (hs : ∀ (i : Nat) σ H, (i : Int) < n → Pv i σ H → tz { D with nx := Pv (i + 1), ct := Pv (i + 1), bk := tw D } (σ.set j (some (.int i))) H) (hd : ∀ σ H, Pv n.toNat σ H → tw D σ H) :
    tSeq (tFor (iRng1 tr) (gName j) tz) tw D σ H := g_forR (D := { D with nx := tw D }) h hn Pv h0 hs hd
theorem q_forR2 {j : Nat} {lo n : Int} (h : Va tr σ H [.int lo, .int n]) (hn : -(2 ^ 62) ≤ lo ∧ lo < 2 ^ 62 ∧ -(2 ^ 62) ≤ n ∧ n < 2 ^ 62) (Pv : Nat → L2.St → Hp → Prop) (h0 : Pv 0 σ H)
    (hs : ∀ (i : Nat) σ H, lo + (i : Int) < n → Pv i σ H → tz { D with nx := Pv (i + 1), ct := Pv (i + 1), bk := tw D } (σ.set j (some (.int (lo + i)))) H) (hd : ∀ σ H, Pv (n - lo).toNat σ H → tw D σ H) :
    tSeq (tFor (iRng2 tr) (gName j) tz) tw D σ H := g_forR2 (D := { D with nx := tw D }) h hn Pv h0 hs hd
theorem q_forL {j : Nat} {xs : List V} {tl : TE} (h : Vl tl σ H (.ref a)) (hx : SqL K H a xs) (Pv : Nat → L2.St → Hp → Prop) (h0 : Pv 0 σ H) (hl : ∀ i σ' H', Pv i σ' H' → SqL K H' a xs)
    (hs : ∀ (i : Nat) x σ H, xs[i]? = some x → Pv i σ H → tz { D with nx := Pv (i + 1), ct := Pv (i + 1), bk := tw D } (σ.set j (some x)) H) (hd : ∀ σ H, Pv xs.length σ H → tw D σ H) :
    tSeq (tFor (iList K tl) (gName j) tz) tw D σ H := g_forL (D := { D with nx := tw D }) h hx Pv h0 hl hs hd
theorem q_forLnk {j1 j2 j3 j4 : Nat} {Hb : Hp} {xs : List V} {ls : List Lnk} {tl : TE} (h : Vl tl σ H (.ref a)) (hx : SqL K Hb a xs) (hL : DpAll K Hb xs (ls.map lnkD)) (hb : Same Hb H) (Pv : Nat → L2.St → Hp → Prop) (h0 : Pv 0 σ H) (hl : ∀ i σ' H', Pv i σ' H' → Same Hb H')
    (hs : ∀ (i : Nat) l σ H, ls[i]? = some l → Pv i σ H → tz { D with nx := Pv (i + 1), ct := Pv (i + 1), bk := tw D } ((((σ.set j1 (some (.int l.a))).set j2 (some (.int l.b))).set j3 (some (oV l.t))).set j4 (some (oV l.k))) H) (hd : ∀ σ H, Pv ls.length σ H → tw D σ H) :
    tSeq (tFor (iList K tl) (gTup K 4 (gCons (gName j1) (gCons (gName j2) (gCons (gName j3) (gCons (gName j4) gNil))))) tz) tw D σ H := g_forLnk (D := { D with nx := tw D }) h hx hL hb Pv h0 hl hs hd
theorem q_asgT2 {i j : Nat} {p : Addr} (h : Vl te σ H (.ref p)) (hp : SqT K H p [x, y]) (k : tw D ((σ.set i (some x)).set j (some y)) H) : tSeq (tAsg te (gTup K 2 (gCons (gName i) (gCons (gName j) gNil)))) tw D σ H :=
  h _ ⟨p, _, rfl, hp, rfl, _, _, rfl, _, _, rfl, rfl, k⟩
theorem q_dnewT {i : Nat} (k : ∀ p, H p = none → tw D (σ.set i (some (.ref p))) (upd H p (.dT []))) : tSeq (tAsg tDNewT (gName i)) tw D σ H := k
theorem q_lnew {i : Nat} (k : ∀ p, H p = none → tw D (σ.set i (some (.ref p))) (upd H p (.lst []))) : tSeq (tAsg (tLst tNil) (gName i)) tw D σ H := ⟨Nat.zero_le _, k⟩
theorem q_dput {td ty : TE} {o : Addr} {kvs : List (List Key × V)} {y1 y2 : Int} (hv : Vl te σ H v) (ho : Vl td σ H (.ref o)) (h1 : Vl ta σ H (.int y1)) (h2 : Vl tb σ H (.int y2)) (hd : H o = some (.dT kvs)) (hl : kvs.length < sizeLine)
    (k : ∀ T, H T = none → o ≠ T → tw D σ (upd (upd H T (.tup [.int y1, .int y2])) o (.dT (putK kvs [.inl y1, .inl y2] v)))) : tSeq (sDPut td (tTup (tCons ta (tCons tb tNil))) te) tw D σ H :=
  hv _ (ho _ (h1 _ (h2 _ ⟨by show 2 ≤ sizeLine; decide, fun T nT => by
    have oT : o ≠ T := ne_of_none hd nT
    exact ⟨o, _, rfl, DPut.t (k := [.inl y1, .inl y2]) (by rw [upd_ne oT]; exact hd) upd_same hl, k T nT oT⟩⟩)))
theorem q_dgetT {i : Nat} {td : TE} {o : Addr} {kvs : List (List Key × V)} {y1 y2 : Int} (ho : Vl td σ H (.ref o)) (h1 : ∀ H, Vl ta σ H (.int y1)) (h2 : ∀ H, Vl tb σ H (.int y2)) (hd : H o = some (.dT kvs))
    (k : ∀ T, H T = none → tw D (σ.set i (some ((valV kvs [.inl y1, .inl y2]).getD .non))) (upd H T (.tup [.int y1, .int y2]))) : tSeq (tAsg (tDGet1 td (tTup (tCons ta (tCons tb tNil)))) (gName i)) tw D σ H :=
  ho _ ⟨o, rfl, .inr ⟨_, .inl hd⟩, h1 _ _ (h2 _ _ ⟨by show 2 ≤ sizeLine; decide, fun T nT => by
    have oT : o ≠ T := ne_of_none hd nT
    exact ⟨_, DGet.t (k := [.inl y1, .inl y2]) (by rw [upd_ne oT]; exact hd) upd_same, k T nT⟩⟩)⟩
theorem q_asgE {i : Nat} (h : te σ H fun v H' => tw D (σ.set i (some v)) H') : tSeq (tAsg te (gName i)) tw D σ H := h
theorem g_asgE {i : Nat} (h : te σ H fun v H' => D.nx (σ.set i (some v)) H') : tAsg te (gName i) D σ H := h
theorem q_cut {M : L2.St → Hp → Prop} (h : tz { D with nx := M } σ H) (k : ∀ σ' H', M σ' H' → tw D σ' H') : Evl.tCut tz tw D σ H := ⟨M, h, k⟩
end
/-! ### defs that may be called by their names -/
structure Df (K : PySem.W.Frag) (mg : Str → Option Value) (x : Str) (st : Stmt) (ps : List Str) : Prop where
  ex : ∃ (f : Addr) (fd : FuncData), Fun K x x st f fd ∧ mg x = some (.ref f) ∧ Binds K fd ps []
structure Kal (P : Program) (w : World) (K : PySem.W.Frag) (mg : Str → Option Value) (base : Heap) (k : Nat) (x : Str) (ps : List Str) (sp : Sp) : Prop where
  ex : ∃ (f : Addr) (fd : FuncData), FnOk P w K mg base CX0 k f fd ps sp ∧ mg x = some (.ref f) ∧ PySem.W.keepIn K (.ref f) = true ∧ Binds K fd ps []
theorem kal_of {P : Program} {w : World} {K : PySem.W.Frag} {mg : Str → Option Value} {base : Heap} {k : Nat} {x : Str} {st : Stmt} {ps : List Str} {sp : Sp} (A : Df K mg x st ps)
    (ok : ∀ f fd, Fun K x x st f fd → FnOk P w K mg base CX0 k f fd ps sp) : Kal P w K mg base k x ps sp := by
  obtain ⟨f, fd, F, g, b⟩ := A.ex
  exact ⟨f, fd, ok f fd F, g, F.kp, b⟩
theorem pe_k {X : Cx} {k j : Nat} {x : Str} {ps : List Str} {sp : Sp} {p pos : Pos} {e : Expr} {es : List Expr} {t : TA} (c : Kal X.prog X.w X.K X.mg X.base k x ps sp) (hr : Room j X.A) (hk : k ≤ j) (hg : Gl X x) (ha : PA X (e :: es) t)
    (hdb : (x == ("__debug__" : Str)) = false := by decide) (he : starEach (e :: es) X.env = (false, eval e X.env) :: starEach es X.env := by rfl) (hpl : (backTo pos (starEach es X.env)).any (·.1) = false := by rfl) :
    PE X (.Call (.Name x p) (e :: es) [] pos) (tCall sp [] E0 t) := by
  obtain ⟨f, fd, F, hm, kp, b⟩ := c.ex
  exact pe_call F (hr.mono hk) hg hm kp b .nil pass0 ha hdb he hpl
/-! ### values that are not told: ints of which P holds -/
def Vi (te : TE) (σ : L2.St) (H : Hp) (P : Int → Prop) : Prop := ∀ Q : VK, (∀ r, P r → Q (.int r) H) → te σ H Q
section
variable {K : PySem.W.Frag} {σ : L2.St} {H : Hp} {i : Nat} {ta tb te : TE} {tr : TA} {D : Ends} {tz tw tu : TS} {P P1 P2 : Int → Prop}
theorem vi_of {n : Int} (h : Vl te σ H (.int n)) : Vi te σ H (fun r => r = n) := fun _ q => h _ (q n rfl)
theorem vi_I0 {g : Int → Int → Int} (ha : Vi ta σ H P1) (hb : Vi tb σ H P2) (h : ∀ p q, P1 p → P2 q → P (g p q)) : Vi (tOp (rI0 fun i j => .int (g i j)) ta tb) σ H P := fun _ k =>
  ha _ fun p hp => hb _ fun q hq => ⟨p, q, rfl, rfl, k _ (h p q hp hq)⟩
theorem vi_call {sp : Sp} {vs : List V} (h : Va tr σ H vs) (hs : ∀ Q E, (∀ r, P r → Q (.int r) H) → sp vs H Q E) : Vi (tCall sp [] E0 tr) σ H P := fun Q q => h _ (by
  show sp (vs ++ []) H Q E0
  rw [List.append_nil]
  exact hs Q E0 q)
theorem vi_mono (h : Vi te σ H P1) (hh : ∀ r, P1 r → P r) : Vi te σ H P := fun Q q => h Q fun r hr => q r (hh r hr)
theorem g_asgI {i : Nat} (h : Vi te σ H P) (k : ∀ r, P r → D.nx (σ.set i (some (.int r))) H) : tAsg te (gName i) D σ H := h _ k
theorem q_asgI {i : Nat} (h : Vi te σ H P) (k : ∀ r, P r → tw D (σ.set i (some (.int r))) H) : tSeq (tAsg te (gName i)) tw D σ H := h _ k
theorem g_retI (h : Vi te σ H P) (k : ∀ r, P r → D.rt (.int r) H) : tRet te D σ H := h _ k
end
local macro_rules
  | `(tactic| walk_at "ev") => `(tactic| repeat' (first
    | exact vl_c | exact vl_var rfl | apply vl_I0 | apply vl_I | apply vl_int1 | apply vl_abs | apply vl_min2 | apply vl_max2 | apply vl_neg | apply vl_chainI
    | apply vl_lenL | apply vl_ixL | apply vl_ixT | apply vl_isN | apply vl_notN | apply vl_eq | apply vl_ne
    | apply an_test | apply an_B | apply an_not
    | exact (show (0 : Int) < _ by decide) | exact (show (0 : Int) < _ ∧ _ < (1073741824 : Int) from ⟨by decide, by decide⟩)))
abbrev sDraws : Stmt := topS 33
theorem scDraws : FnScope ["script", "draws", "k", "rest", "turn", "mixed"] ["script"] (defScope sDraws) := ⟨rfl, rfl, rfl, by decide +kernel, rfl, by decide +kernel, by decide +kernel⟩
structure DrawsOk (m : Nat) (ds : List Int) : Prop where
  len : ds.length ≤ m
  all : ∀ d ∈ ds, 0 ≤ d ∧ d < 65536
theorem DrawsOk.app {m : Nat} {ds : List Int} {d : Int} (h : DrawsOk m ds) (h0 : 0 ≤ d) (h1 : d < 65536) : DrawsOk (m + 1) (ds ++ [d]) where
  len := by
    rw [List.length_append]
    exact Nat.succ_le_succ h.len
  all := fun e he => by
    rcases List.mem_append.mp he with h' | h'
    · exact h.all e h'
    · rw [List.mem_singleton.mp h']
      exact ⟨h0, h1⟩
theorem DrawsOk.mono {m n : Nat} {ds : List Int} (h : DrawsOk m ds) (le : m ≤ n) : DrawsOk n ds := ⟨Nat.le_trans h.len le, h.all⟩
def spDraws (K : PySem.W.Frag) : Sp := fun vs H Q _ => ∃ (a : Addr) (ns : List Int), vs = [.ref a] ∧ SqL K H a (ns.map V.int) ∧ ns.length ≤ 63 ∧
  ∀ H' p ds, Same H H' → H p = none → H' p = some (.lst (ds.map V.int)) → DrawsOk 3780 ds → Q (.ref p) H'
section
variable {P : Program} {w : World} {K : PySem.W.Frag} {mg : Str → Option Value} {base : Heap}
theorem ok_draws {f : Addr} {fd : FuncData} {k : Nat} (F : Fun K "_law_draws" "_law_draws" sDraws f fd) (mr : mg "range" = none) (mm : mg "min" = none) (ml : mg "len" = none) (ma : mg "abs" = none) (mi : mg "int" = none) :
    FnOk P w K mg base CX0 (k + 1) f fd ["script"] (spDraws K) := by
  refine F.ok scDraws (fun vs H Q E h => ?_) (fun cdv A outer s H vs Q E hr h => ?_)
  · obtain ⟨a, ns, rfl, _⟩ := h
    rfl
  · obtain ⟨a, ns, rfl, hS, hlen, q⟩ := h
    refine ⟨_, pss_cons (ps_set (i := 1) scDraws.nd rfl (.inl rfl) (pe_lst pa_nil))
      (pss_cons (ps_for PassesOwn.never rfl (pi_range1 (by rfl) mr (pa_cons (pe_callB (call_min2 rfl) (by rfl) mm (by decide +kernel) (pa_cons pe_int (pa_cons (pe_callB call_len_seq (by rfl) ml PySem.boot_len (pa_cons (pv 0) pa_nil)) pa_nil))) pa_nil)) (pg_name (i := 2) scDraws.nd rfl (.inl rfl))
        (pss_cons (ps_set (i := 3) scDraws.nd rfl (.inl rfl) (pe_callB call_abs (by rfl) ma (by decide +kernel) (pa_cons (pe_ix ix_list (pv 0) (pv 2) (fun _ _ => rfl)) pa_nil)))
        (pss_one (ps_if (pt_cmpR op_ge (pv 3) (pe_op op_pow pe_int pe_int) (nomark _))
          (pss_one (ps_for PassesOwn.never rfl (pi_range1 (by rfl) mr (pa_cons pe_int pa_nil)) (pg_name (i := 4) scDraws.nd rfl (.inl rfl))
            (pss_one (ps_if (pt_cmpR op_gt (pv 3) pe_int (nomark _))
              (pss_cons (ps_expr (pe_bm PySem.F.plainAttrs_list PySem.F.slot_list_append PySem.F.type_list_append mt_append (pv 1) (pa_cons (pe_op op_mod (pe_callTy call_int1 (by rfl) mi (by decide +kernel) (pa_cons (pv 3) pa_nil)) pe_int) pa_nil)))
              (pss_one (ps_set (i := 3) scDraws.nd rfl (.inl rfl) (pe_op op_fdiv (pv 3) pe_int)))) pss_nil))))
          (pss_cons (ps_set (i := 5) scDraws.nd rfl (.inl rfl) (pe_op op_mod (pe_callTy call_int1 (by rfl) mi (by decide +kernel) (pa_cons (pe_op op_add (pe_op op_mul (pv 3) pe_int) (pe_op op_mul (pe_op op_add (pv 2) pe_int) pe_int)) pa_nil)) pe_int))
          (pss_cons (ps_set (i := 5) scDraws.nd rfl (.inl rfl) (pe_op op_mod (pe_callTy call_int1 (by rfl) mi (by decide +kernel) (pa_cons (pe_op op_add (pe_op op_add (pe_op op_mul (pv 5) pe_int) (pe_op op_mul pe_int (pv 2))) pe_int) pa_nil)) pe_int))
          (pss_cons (ps_expr (pe_bm PySem.F.plainAttrs_list PySem.F.slot_list_append PySem.F.type_list_append mt_append (pv 1) (pa_cons (pe_op op_mod (pe_callTy call_int1 (by rfl) mi (by decide +kernel) (pa_cons (pv 5) pa_nil)) pe_int) pa_nil)))
          (pss_one (ps_expr (pe_bm PySem.F.plainAttrs_list PySem.F.slot_list_append PySem.F.type_list_append mt_append (pv 1) (pa_cons (pe_op op_mod (pe_callTy call_int1 (by rfl) mi (by decide +kernel) (pa_cons (pe_op op_fdiv (pv 5) pe_int) pa_nil)) pe_int) pa_nil)))))))))))
      (pss_one (ps_ret (pv 1)))), ?_⟩
    -- draws = []
    refine ⟨Nat.zero_le _, fun o no => ?_⟩
    have s1 : Same H (upd H o (.lst [])) := same_upd no
    have hS1 := s1.seq hS
    refine (q_forR (n := if (ns.length : Int) < 63 then (ns.length : Int) else 63) (va_cons (vl_min2 vl_c ((vl_lenL (vl_var rfl) hS1).is (by rw [List.length_map]))) va_nil) ⟨by split <;> omega, by split <;> omega⟩
      (fun i σ H3 => ∃ y2 y3 y4 y5 ds, σ = [some (.ref a), some (.ref o), y2, y3, y4, y5] ∧ Same H H3 ∧ H3 o = some (.lst (ds.map V.int)) ∧ DrawsOk (60 * i) ds)
      ⟨none, none, none, none, [], rfl, s1, upd_same, Nat.zero_le _, fun _ h => by cases h⟩ (fun i σ H3 hi hP => ?_) (fun σ H3 hP => ?_))
    · obtain ⟨y2, y3, y4, y5, ds, rfl, sm, ho, hd⟩ := hP
      have hi2 : i < ns.length := by
        split at hi <;> omega
      have hA := sm.seq hS
      have g1 : (ns.map V.int)[i]? = some (.int ns[i]) := by
        rw [List.getElem?_map, List.getElem?_eq_getElem hi2]
        rfl
      -- rest = abs(script[k])
      refine (q_asg (v := .int (if ns[i] < 0 then -ns[i] else ns[i])) (vl_abs (vl_ixL (vl_var rfl) (vl_var rfl) hA (atI_nat g1))) ?_)
      generalize hr0 : (if ns[i] < 0 then -ns[i] else ns[i]) = r
      have hr1 : 0 ≤ r := by
        rw [← hr0]
        split <;> omega
      refine g_if (b := decide ((10 : Int) ^ (18 : Int).toNat ≤ r)) (by exact an_test (vl_I0 (vl_var rfl) (vl_I vl_c vl_c ⟨by decide, by decide, by decide⟩))) (fun _ => ?_) (fun hlt => ?_)
      · refine g_forR (n := 60) (va_cons vl_c va_nil) ⟨by decide, by decide⟩
          (fun j σ H4 => ∃ y4 r ds', σ = [some (.ref a), some (.ref o), some (.int i), some (.int r), y4, y5] ∧ Same H H4 ∧ H4 o = some (.lst (ds'.map V.int)) ∧ DrawsOk (60 * i + j) ds')
          ⟨y4, r, ds, rfl, sm, ho, hd⟩ (fun j σ H4 hj hP => ?_) (fun σ H4 hP => ?_)
        · obtain ⟨z4, r', ds', rfl, sm', ho', hd'⟩ := hP
          refine g_if (by walk_at "ev") (fun _ => ?_) (fun _ => ?_)
          · have h0 : 0 ≤ r' % 65536 := Int.emod_nonneg _ (by decide)
            have h1 : r' % 65536 < 65536 := Int.emod_lt_of_pos _ (by decide)
            refine (q_app (vl_var rfl) ho' (v := .int (r' % 65536)) (by walk_at "ev") ?_ ?_)
            · rw [List.length_map]
              have := hd'.len
              exact Nat.lt_of_le_of_lt this (Nat.lt_of_le_of_lt (show 60 * i + j ≤ 10000 by omega) (by decide))
            · refine g_asg (v := .int (r' / 65536)) (by walk_at "ev") ?_
              refine ⟨_, _, ds' ++ [r' % 65536], rfl, same_upd' sm' no, ?_, hd'.app h0 h1⟩
              rw [upd_same, List.map_append]
              rfl
          · exact ⟨_, _, ds', rfl, sm', ho', hd'.mono (Nat.le_succ _)⟩
        · obtain ⟨z4, r', ds', rfl, sm', ho', hd'⟩ := hP
          exact ⟨_, _, _, _, ds', rfl, sm', ho', hd'⟩
      · have hlt : r < 1000000000000000000 := by
          have := of_decide_eq_false hlt
          have e : (10 : Int) ^ (18 : Int).toNat = 1000000000000000000 := by decide
          omega
        refine (q_asg (v := .int ((r * 48271 + ((i : Int) + 1) * 69621) % 2147483647)) (by walk_at "ev"; exact .inl ⟨by omega, by omega⟩; exact .inl ⟨by omega, by omega⟩) ?_)
        generalize hm : (r * 48271 + ((i : Int) + 1) * 69621) % 2147483647 = m
        have hm0 : 0 ≤ m := by
          rw [← hm]
          exact Int.emod_nonneg _ (by decide)
        have hm1 : m < 2147483647 := by
          rw [← hm]
          exact Int.emod_lt_of_pos _ (by decide)
        refine (q_asg (v := .int ((m * 16807 + 11 * (i : Int) + 5) % 2147483629)) (by walk_at "ev"; exact .inl ⟨by omega, by omega⟩; exact .inl ⟨by decide, by decide⟩) ?_)
        generalize (m * 16807 + 11 * (i : Int) + 5) % 2147483629 = m2
        have h0 : 0 ≤ m2 % 65536 := Int.emod_nonneg _ (by decide)
        have h1 : m2 % 65536 < 65536 := Int.emod_lt_of_pos _ (by decide)
        have h2 : 0 ≤ (m2 / 65536) % 32768 := Int.emod_nonneg _ (by decide)
        have h3 : (m2 / 65536) % 32768 < 65536 := Int.lt_trans (Int.emod_lt_of_pos _ (by decide)) (by decide)
        have hl := hd.len
        refine (q_app (vl_var rfl) ho (v := .int (m2 % 65536)) (by walk_at "ev") ?_ ?_)
        · rw [List.length_map]
          exact Nat.lt_of_le_of_lt (show ds.length ≤ 10000 by omega) (by decide)
        · refine g_app (vl_var rfl) upd_same (v := .int ((m2 / 65536) % 32768)) (by walk_at "ev") ?_ ?_
          · rw [List.length_append, List.length_map]
            exact Nat.lt_of_le_of_lt (show ds.length + 1 ≤ 10000 by omega) (by decide)
          · refine ⟨_, _, _, _, (ds ++ [m2 % 65536]) ++ [(m2 / 65536) % 32768], rfl, same_upd' (same_upd' sm no) no, ?_, ((hd.app h0 h1).app h2 h3).mono (by omega)⟩
            rw [upd_same, List.map_append, List.map_append]
            rfl
    · obtain ⟨y2, y3, y4, y5, ds, rfl, sm, ho, hd⟩ := hP
      refine g_ret (vl_var rfl) (q H3 o ds sm no ho (hd.mono ?_))
      split <;> omega
end
abbrev sAt : Stmt := topS 34
abbrev sIsI : Stmt := topS 35
abbrev sMix : Stmt := topS 36
theorem scAt : FnScope ["draws", "k", "many"] ["draws", "k", "many"] (defScope sAt) := ⟨rfl, rfl, rfl, by decide +kernel, rfl, by decide +kernel, by decide +kernel⟩
theorem scIsI : FnScope ["actual"] ["actual"] (defScope sIsI) := ⟨rfl, rfl, rfl, by decide +kernel, rfl, by decide +kernel, by decide +kernel⟩
theorem scMix : FnScope ["draws", "k", "many", "value"] ["draws", "k", "many"] (defScope sMix) := ⟨rfl, rfl, rfl, by decide +kernel, rfl, by decide +kernel, by decide +kernel⟩
local macro_rules
  | `(tactic| walk_at "ev") => `(tactic| repeat' (first
    | exact vl_c | exact vl_var rfl | apply vl_I0 | apply vl_I | apply vl_int1 | apply vl_abs | apply vl_min2 | apply vl_max2 | apply vl_neg | apply vl_chainI
    | apply vl_lenL | apply vl_ixL | apply vl_ixT | apply vl_isN | apply vl_notN | apply vl_eq | apply vl_ne
    | apply an_test | apply an_B | apply an_not
    | exact (show (0 : Int) < _ by decide) | exact (show (0 : Int) < _ ∧ _ < (1073741824 : Int) from ⟨by decide, by decide⟩)))
/-- an int in [0, m) for draws, k, m -/
def spAt (K : PySem.W.Frag) : Sp := fun vs H Q _ => ∃ (a : Addr) (ds : List Int) (k m : Int), vs = [.ref a, .int k, .int m] ∧ SqL K H a (ds.map V.int) ∧ 0 ≤ k ∧ 0 < m ∧ ∀ r, 0 ≤ r ∧ r < m → Q (.int r) H
def spIsI : Sp := fun vs H Q _ => ∃ i : Int, vs = [.int i] ∧ Q (.bl true) H
section
variable {P : Program} {w : World} {K : PySem.W.Frag} {mg : Str → Option Value} {base : Heap}
theorem ok_isI {f : Addr} {fd : FuncData} {k : Nat} (F : Fun K "_law_is_integer" "_law_is_integer" sIsI f fd) (ms : mg "isinstance" = none) (mi : mg "int" = none) (mb : mg "bool" = none) :
    FnOk P w K mg base CX0 (k + 1) f fd ["actual"] spIsI := by
  refine F.ok scIsI (fun vs H Q E h => ?_) (fun cdv A outer s H vs Q E hr h => ?_)
  · obtain ⟨i, rfl, _⟩ := h
    rfl
  · obtain ⟨i, rfl, q⟩ := h
    refine ⟨_, pss_one (ps_ret (pe_and (pe_callB call_isi (by rfl) ms (by decide +kernel) (pa_cons (pv 0) (pa_cons (pe_bltn (v := .ty "int") (by rfl) mi (by decide +kernel) rfl) pa_nil)))
      (pe_one (pe_not (pe_callB call_isi (by rfl) ms (by decide +kernel) (pa_cons (pv 0) (pa_cons (pe_bltn (v := .ty "bool") (by rfl) mb (by decide +kernel) rfl) pa_nil))))))), ?_⟩
    refine ⟨.int i, rfl, .int i, .ty "int", .type "int", .type "int", true, rfl, .ty _, .base (.int _), kit_ty (by decide +kernel), true, rfl, iteT ?_⟩
    exact ⟨.int i, rfl, .int i, .ty "bool", .type "int", .type "bool", false, rfl, .ty _, .base (.int _), kit_ty (by decide +kernel), false, rfl, q⟩
theorem ok_at {f : Addr} {fd : FuncData} {k : Nat} (F : Fun K "_law_at" "_law_at" sAt f fd) (ml : mg "len" = none) (mi : mg "int" = none) :
    FnOk P w K mg base CX0 (k + 1) f fd ["draws", "k", "many"] (spAt K) := by
  refine F.ok scAt (fun vs H Q E h => ?_) (fun cdv A outer s H vs Q E hr h => ?_)
  · obtain ⟨a, ds, k, m, rfl, _⟩ := h
    rfl
  · obtain ⟨a, ds, k, m, rfl, hS, hk, hm, q⟩ := h
    refine ⟨_, pss_cons (ps_if (pt_cmpR op_lt (pv 1) (pe_callB call_len_seq (by rfl) ml PySem.boot_len (pa_cons (pv 0) pa_nil)) (nomark _))
        (pss_one (ps_ret (pe_op op_mod (pe_callTy call_int1 (by rfl) mi (by decide +kernel) (pa_cons (pe_ix ix_list (pv 0) (pv 1) (fun _ _ => rfl)) pa_nil)) (pv 2)))) pss_nil)
      (pss_one (ps_ret pe_int)), ?_⟩
    refine q_when (b := decide (k < (ds.length : Int))) (by exact an_test (vl_I0 (vl_var rfl) ((vl_lenL (vl_var rfl) hS).is (by rw [List.length_map])))) (fun hb => ?_) (fun _ => ?_)
    · have hb := of_decide_eq_true hb
      obtain ⟨d, g', _⟩ := at_int hk hb
      refine g_ret (v := .int (d % m)) ?_ (q _ ⟨Int.emod_nonneg _ (by omega), Int.emod_lt_of_pos _ hm⟩)
      exact vl_I (vl_int1 (vl_ixL (vl_var rfl) (vl_var rfl) hS g')) (vl_var rfl) hm
    · exact g_ret vl_c (q 0 ⟨by omega, by omega⟩)
theorem ok_mix {f : Addr} {fd : FuncData} {k : Nat} (F : Fun K "_law_mix" "_law_mix" sMix f fd) (ml : mg "len" = none) (mi : mg "int" = none) :
    FnOk P w K mg base CX0 (k + 1) f fd ["draws", "k", "many"] (spAt K) := by
  refine F.ok scMix (fun vs H Q E h => ?_) (fun cdv A outer s H vs Q E hr h => ?_)
  · obtain ⟨a, ds, k, m, rfl, _⟩ := h
    rfl
  · obtain ⟨a, ds, k, m, rfl, hS, hk, hm, q⟩ := h
    refine ⟨_, pss_cons (ps_set (i := 3) scMix.nd rfl (.inl rfl) pe_int)
      (Evl.pss_cut (ps_if (pt_cmpR op_gt (pe_callB call_len_seq (by rfl) ml PySem.boot_len (pa_cons (pv 0) pa_nil)) pe_int (nomark _))
        (pss_one (ps_set (i := 3) scMix.nd rfl (.inl rfl) (pe_ix ix_list (pv 0) (pe_op op_mod (pe_callTy call_int1 (by rfl) mi (by decide +kernel) (pa_cons (pv 1) pa_nil)) (pe_callB call_len_seq (by rfl) ml PySem.boot_len (pa_cons (pv 0) pa_nil))) (fun _ _ => rfl)))) pss_nil)
      (pss_cons (ps_if (pt_cmpR op_lt (pv 1) (pe_callB call_len_seq (by rfl) ml PySem.boot_len (pa_cons (pv 0) pa_nil)) (nomark _))
        (pss_one (ps_ret (pe_op op_mod (pe_callTy call_int1 (by rfl) mi (by decide +kernel) (pa_cons (pv 3) pa_nil)) (pv 2)))) pss_nil)
      (pss_one (ps_ret (pe_op op_mod (pe_callTy call_int1 (by rfl) mi (by decide +kernel) (pa_cons (pe_op op_fdiv (pe_callTy call_int1 (by rfl) mi (by decide +kernel) (pa_cons (pe_op op_add (pe_op op_mul (pv 3) pe_int) (pe_op op_mul (pv 1) pe_int)) pa_nil)) pe_int) pa_nil)) (pv 2)))))), ?_⟩
    refine q_asg vl_c ?_
    refine q_cut (M := fun σ' H' => ∃ v : Int, σ' = [some (.ref a), some (.int k), some (.int m), some (.int v)] ∧ H' = H) ?_ ?_
    · refine g_when (b := decide ((0 : Int) < (ds.length : Int))) (by exact an_test (vl_I0 ((vl_lenL (vl_var rfl) hS).is (by rw [List.length_map])) vl_c)) (fun hb => ?_) (fun _ => ⟨0, rfl, rfl⟩)
      have hb := of_decide_eq_true hb
      have h0 : 0 ≤ k % (ds.length : Int) := Int.emod_nonneg _ (by omega)
      have h1 : k % (ds.length : Int) < (ds.length : Int) := Int.emod_lt_of_pos _ hb
      obtain ⟨d, g', _⟩ := at_int h0 h1
      exact g_asg (vl_ixL (vl_var rfl) (vl_I (vl_int1 (vl_var rfl)) ((vl_lenL (vl_var rfl) hS).is (by rw [List.length_map])) hb) hS g') ⟨_, rfl, rfl⟩
    · rintro σ' H' ⟨v, rfl, rfl⟩
      refine q_when (b := decide (k < (ds.length : Int))) (by exact an_test (vl_I0 (vl_var rfl) ((vl_lenL (vl_var rfl) hS).is (by rw [List.length_map])))) (fun hb => ?_) (fun _ => ?_)
      · exact g_ret (v := .int (v % m)) (vl_I (vl_int1 (vl_var rfl)) (vl_var rfl) hm) (q _ ⟨Int.emod_nonneg _ (by omega), Int.emod_lt_of_pos _ hm⟩)
      · refine g_ret (v := .int ((v * 7919 + k * 104729) / 3 % m)) (vl_I (vl_int1 (vl_I (vl_int1 (vl_I0 (vl_I (vl_var rfl) vl_c (.inr ⟨by decide, by decide⟩)) (vl_I (vl_var rfl) vl_c (.inr ⟨by decide, by decide⟩)))) vl_c ⟨by decide, by decide⟩)) (vl_var rfl) hm) (q _ ⟨Int.emod_nonneg _ (by omega), Int.emod_lt_of_pos _ hm⟩)
end
def PriceOk (o : Option Int) : Prop := ∀ x, o = some x → 1 ≤ x ∧ x ≤ 1000000
structure LnkOk (n : Int) (l : Lnk) : Prop where
  a0 : 0 ≤ l.a
  ab : l.a < l.b
  bn : l.b < n
  t : PriceOk l.t
  k : PriceOk l.k
def LnkLt (x y : Lnk) : Prop := x.a < y.a ∨ (x.a = y.a ∧ x.b < y.b)
structure NetOk (N : Net) : Prop where
  n1 : 1 ≤ N.n
  n40 : N.n ≤ 40
  ok : ∀ l ∈ N.ls, LnkOk N.n l
  lt : N.ls.Pairwise LnkLt
  len : N.ls.length ≤ 1600
/-- a net that stands in H by itself -/
def NetAt (K : PySem.W.Frag) (H : Hp) (v : V) (N : Net) : Prop := ∃ p q xs, v = .ref p ∧ H p = some (.tup [.int N.n, .ref q]) ∧ H q = some (.lst xs) ∧ DpAll K H xs (N.ls.map lnkD)
theorem NetAt.dp {K : PySem.W.Frag} {H : Hp} {v : V} {N : Net} (h : NetAt K H v N) : Dp K H v (netD N) := by
  obtain ⟨p, q, xs, rfl, hp, hq, hx⟩ := h
  exact Dp.net (.of hp) (.of hq) hx
theorem NetAt.to {K : PySem.W.Frag} {H H' : Hp} {v : V} {N : Net} (h : NetAt K H v N) (s : Same H H') : NetAt K H' v N := by
  obtain ⟨p, q, xs, rfl, hp, hq, hx⟩ := h
  exact ⟨p, q, xs, rfl, s _ _ hp, s _ _ hq, DpAll.to hx s⟩
def spPrice (K : PySem.W.Frag) : Sp := fun vs H Q _ => ∃ (a : Addr) (ds : List Int) (k : Int), vs = [.ref a, .int k] ∧ SqL K H a (ds.map V.int) ∧ 0 ≤ k ∧ ∀ H' o, Same H H' → PriceOk o → Q (oV o) H'
def spNet (K : PySem.W.Frag) : Sp := fun vs H Q _ => ∃ (a : Addr) (ds : List Int) (k m : Int), vs = [.ref a, .int k, .int m] ∧ SqL K H a (ds.map V.int) ∧ 0 ≤ k ∧ 1 ≤ m ∧ m ≤ 40 ∧
  ∀ H' v N, Same H H' → NetAt K H' v N → NetOk N → N.n ≤ m → Q v H'
section
variable {P : Program} {w : World} {K : PySem.W.Frag} {mg : Str → Option Value} {base : Heap}
end
/-- the links made so far: all of them before (i, c) -/
structure LsAt (n i c : Int) (ls : List Lnk) : Prop where
  ok : ∀ l ∈ ls, LnkOk n l
  to : ∀ l ∈ ls, l.a < i ∨ (l.a = i ∧ l.b < c)
  lt : ls.Pairwise LnkLt
theorem LsAt.nil {n i c : Int} : LsAt n i c [] := ⟨fun _ h => (nomatch h), fun _ h => (nomatch h), .nil⟩
theorem LsAt.mono {n i c i' c' : Int} {ls : List Lnk} (h : LsAt n i c ls) (e : i < i' ∨ (i = i' ∧ c ≤ c')) : LsAt n i' c' ls :=
  ⟨h.ok, fun l hl => by
    have := h.to l hl
    omega, h.lt⟩
theorem LsAt.app {n i c : Int} {ls : List Lnk} {t k : Option Int} (h : LsAt n i c ls) (h0 : 0 ≤ i) (h1 : i < c) (h2 : c < n) (ht : PriceOk t) (hk : PriceOk k) : LsAt n i (c + 1) (ls ++ [⟨i, c, t, k⟩]) where
  ok := fun l hl => by
    rcases List.mem_append.mp hl with h' | h'
    · exact h.ok l h'
    · rw [List.mem_singleton.mp h']
      exact ⟨h0, h1, h2, ht, hk⟩
  to := fun l hl => by
    rcases List.mem_append.mp hl with h' | h'
    · have := h.to l h'
      omega
    · rw [List.mem_singleton.mp h']
      exact .inr ⟨rfl, Int.lt_succ c⟩
  lt := List.pairwise_append.mpr ⟨h.lt, List.pairwise_singleton _ _, fun x hx y hy => by
    rw [List.mem_singleton.mp hy]
    exact h.to x hx⟩
section
variable {P : Program} {w : World} {K : PySem.W.Frag} {mg : Str → Option Value} {base : Heap}
end
/-! ### data that is the same is equal -/
theorem lay_o : ∀ o : Option Int, (oD o).canLay0 = true ∧ (oD o).depth = 0
  | none => ⟨rfl, rfl⟩
  | some _ => ⟨rfl, rfl⟩
theorem lay_lnks : ∀ ls : List Lnk, PyData.canLayAll0 (ls.map lnkD) = true ∧ PyData.depthAll (ls.map lnkD) ≤ 1
  | [] => ⟨rfl, Nat.zero_le _⟩
  | l :: ls => by
    have h1 := lay_o l.t
    have h2 := lay_o l.k
    have ih := lay_lnks ls
    constructor
    · show (((true && (true && ((oD l.t).canLay0 && ((oD l.k).canLay0 && true)))) && PyData.canLayAll0 (ls.map lnkD)) = true)
      rw [h1.1, h2.1, ih.1]
      rfl
    · show max (max 0 (max 0 (max (oD l.t).depth (max (oD l.k).depth 0))) + 1) (PyData.depthAll (ls.map lnkD)) ≤ 1
      rw [h1.2, h2.2]
      have := ih.2
      simp only [Nat.max_self, Nat.zero_add]
      omega
theorem shaped_net (N : Net) : SeqAt.shaped (netD N) = true := by
  have h := lay_lnks N.ls
  show ((true && (PyData.canLayAll0 (N.ls.map lnkD) && true)) && decide (max 0 (max (PyData.depthAll (N.ls.map lnkD) + 1) 0) + 1 ≤ 64)) = true
  rw [h.1, decide_eq_true (show max 0 (max (PyData.depthAll (N.ls.map lnkD) + 1) 0) + 1 ≤ 64 by
    have := h.2
    omega)]
  rfl
theorem eqv_net (N : Net) : PyData.eqv (netD N) (netD N) = true := SeqAt.eqv_refl _ (Bool.and_eq_true_iff.mp (shaped_net N)).1
/-! ### new lists -/
def Vn (te : TE) (σ : L2.St) (H : Hp) (xs : List V) : Prop := ∀ Q : VK, (∀ p H', Same H H' → H p = none → H' p = some (.lst xs) → Q (.ref p) H') → te σ H Q
section
variable {K : PySem.W.Frag} {σ : L2.St} {H : Hp} {ta tb te : TE} {tr : TA} {xs ys : List V} {a : Addr} {D : Ends} {tw : TS}
theorem vn_lst (h : Va tr σ H xs) (hz : xs.length ≤ sizeLine) : Vn (tLst tr) σ H xs := fun Q q => h _ ⟨hz, fun p np => q p _ (same_upd np) np upd_same⟩
theorem vn_slice {tl th : TO} {lo hi : Option Int} (h : Vl te σ H (.ref a)) (hl : ∀ Q : Option Int → Hp → Prop, Q lo H → tl σ H Q) (hh : ∀ Q : Option Int → Hp → Prop, Q hi H → th σ H Q) (hx : SqL K H a xs) : Vn (tSl (rSlL K) te tl th) σ H (cutV xs lo hi) := fun Q q =>
  h _ (hl _ (hh _ ⟨a, xs, rfl, hx, fun p np => q p _ (same_upd np) np upd_same⟩))
theorem vn_rev (h : Vl te σ H (.ref a)) (hx : SqL K H a xs) : Vn (tRevL K te) σ H xs.reverse := fun Q q => h _ ⟨a, xs, rfl, hx, fun p np => q p _ (same_upd np) np upd_same⟩
theorem vn_cat (ha : Vn ta σ H xs) (hb : ∀ H', Same H H' → Vn tb σ H' ys) (hz : xs.length + ys.length ≤ sizeLine) : Vn (tOp rCat ta tb) σ H (xs ++ ys) := fun Q q => ha _ fun p H1 s1 np hp => hb H1 s1 _ fun r H2 s2 nr hr =>
  ⟨p, r, xs, ys, rfl, rfl, s2 _ _ hp, hr, hz, fun t nt => q t _ ((s1.trans s2).trans (same_upd nt)) (Same.free (s1.trans s2) nt) upd_same⟩
theorem vn_listOf (h : Vl te σ H (.ref a)) (hx : SqL K H a xs) : Vn (tCB (fun xs H Q => ∃ p ys, xs = [V.ref p] ∧ (SqL K H p ys ∨ SqT K H p ys) ∧ ∀ l, H l = none → Q (V.ref l) (upd H l (.lst ys))) (tCons te tNil)) σ H xs := fun Q q =>
  h _ ⟨a, xs, rfl, .inl hx, fun p np => q p _ (same_upd np) np upd_same⟩
theorem q_asgN {i : Nat} (h : Vn te σ H xs) (k : ∀ p H', Same H H' → H p = none → H' p = some (.lst xs) → tw D (σ.set i (some (.ref p))) H') : tSeq (tAsg te (gName i)) tw D σ H := h _ k
end
theorem cut_to {xs : List V} {n : Nat} (h : n ≤ xs.length) : cutV xs none (some (n : Int)) = xs.take n := by
  unfold cutV
  rw [HT.sIx_none, HT.sIx_nat, Nat.min_eq_left h, Nat.sub_zero, List.drop_zero]
theorem cut_from {xs : List V} {n : Nat} (h : n ≤ xs.length) : cutV xs (some (n : Int)) none = xs.drop n := by
  unfold cutV
  rw [HT.sIx_none, HT.sIx_nat, Nat.min_eq_left h]
  exact List.take_of_length_le (by rw [List.length_drop]; exact Nat.le_refl _)
/-- lists of lists of ints -/
theorem Dp.ints {K : PySem.W.Frag} {H : Hp} {p : Addr} {ns : List Int} (h : SqL K H p (ns.map V.int)) : Dp K H (.ref p) (.list (ns.map PyData.int)) := .lst h (DpAll.ints ns)
theorem Dp.ints_inv {K : PySem.W.Frag} {H : Hp} {v : V} {ns : List Int} (h : Dp K H v (.list (ns.map PyData.int))) : ∃ p, v = .ref p ∧ SqL K H p (ns.map V.int) := by
  obtain ⟨a, xs, rfl, hs, ha⟩ := Dp.lst_inv h
  rw [DpAll.ints_inv ha] at hs
  exact ⟨a, rfl, hs⟩
end Ovc
namespace PySem
namespace LowX
open PySem.W PySem.Calls PyProof.Rows PySem.HandSPX
/-! ### the text of __init__ -/
def iA (p1 p2 : Pos) : Arguments := { posonlyargs := [], args := [{ arg := "self", annotation := none, pos := p1 }, { arg := "at", annotation := none, pos := p2 }], vararg := none, kwonlyargs := [], kw_defaults := [], kwarg := none, defaults := [] }
def iB (q1 q2 q3 q4 : Pos) : List Stmt := [.Assign [.Attribute (.Name "self" q1) "at" q2] (.Name "at" q3) q4]
def iS : Scope := { kind := .function, names := [(PySem.Str.ofString "self", .local), (PySem.Str.ofString "at", .local)], isGenerator := false, isCoroutine := false, more := [] }
/-- what the written part says of Low, at C, and of its __init__, at fI -/
structure LowTxt (K : Frag) (mg : Str → Option Value) (xN : Str) (C fI : Addr) : Prop where
  gC : mg xN = some (.ref C)
  cls : ∃ nm q N bs bm sn sub ab col dd k0 k1 k2 k3 k5, K.lookup C = some (excClassObj nm q C N bs bm true sn sub ab col dd k0 k1 k2 k3 k5 "ValueError.__new__") ∧ refsVE bm = true
  sa : findIn K (.ref C) "__setattr__" = some (some (.builtin "object.__setattr__"))
  ga : findIn K (.ref C) "__getattribute__" = some (some (.builtin "BaseException.__getattribute__"))
  gg : findIn K (.ref C) "__getattr__" = some none
  noN : findIn K (.ref C) "at" = some none
  iC : findIn K (.ref C) "__init__" = some (some (.ref fI))
  tC : typeIn K (.ref fI) = some (.type "function")
  kC : keepIn K (.ref C) = true
  exC : subIn K (.ref C) (.type "BaseException") = some true
  tyC : typeIn K (.ref C) = some (.type "type")
  hdC : hasDictIn K C = true
  te : exmOne K (.ref C) (.ref C) = some true
  fn : ∃ (oc : Value) (od : Option Addr) (doc pm : Value) (an : Option Addr) (cdv ct : Value) (osl : Array (Option Value)) (p1 p2 q1 q2 q3 q4 : Pos),
    K.lookup fI = some ⟨oc, od, .func (fnOf "__init__" "OverpassesError.__init__" (iA p1 p2) (iB q1 q2 q3 q4) iS .none .none doc pm an cdv ct), osl⟩ ∧ codeIn K cdv "OverpassesError.__init__" = true
theorem one_size (v : Value) : [v].length ≤ sizeLine := by
  rw [sizeLine_eq]
  exact (by decide : 1 ≤ 16777216)
theorem kept_but {K : Frag} {h h' : Heap} {x : Addr} (X : K.In h) (hx : K.lookup x = none) (k : ∀ b o, b ≠ x → h.get? b = some o → h'.get? b = some o) : K.In h' := fun a o e =>
  k a o (fun z => by rw [z, hx] at e; cases e) (X a o e)
theorem ldC {M : Model} {s : Shared} {name : Str} {scope : Scope} {L a : Addr} {cd : Value} {m : Str → Option Value} {x : Str} {pos : Pos} {v : Value} {Q : Value → Shared → Prop} {A : Around} {E : Value → Shared → Prop} (hn : s.heap.Ns L m) (hv : m x = some v) (h : Q v s)
    (hk : scope.kind = .function := by rfl) (hl : (envOfC name scope L a cd).kindOf x = some .local := by rfl) (hd : (x == ("__debug__" : Str)) = false := by decide) :
    wpAny M A (eval (.Name x pos) (envOfC name scope L a cd)) Q E s := wpAny_Name (wpAny_loadName_local hk hl hn hv h) hd
/-- what __init__ leaves of a fresh exception at x -/
structure InitEnd (h h' : Heap) (x C dx t1 : Addr) (v : Value) : Prop where
  keep : ∀ b o, b ≠ x → h.get? b = some o → h'.get? b = some o
  obj : h'.get? x = some { cls := .ref C, dict := some dx, data := .fields #[.ref t1, .none, .none, .none, .bool false, .none] }
  dbig : h.objs.size ≤ dx
  dne : dx ≠ x
  ns : h'.Ns1 dx (fun y => if y = "at" then some v else none)
/-- a made Low -/
structure OwnMade (h h' : Heap) (e C d : Addr) (v : Value) : Prop where
  keep : ∀ b o, h.get? b = some o → h'.get? b = some o
  new : h.objs.size ≤ e
  obj : ∃ oe vs, h'.get? e = some oe ∧ oe.cls = .ref C ∧ oe.dict = some d ∧ oe.data = .fields vs ∧ vs[1]? = some .none
  dbig : h.objs.size ≤ d
  dne : d ≠ e
  ns : h'.Ns1 d (fun y => if y = "at" then some v else none)
section
variable {prog : Program} {w : World} {A : Around} {E : Value → Shared → Prop} {R : Result → Shared → Prop} {s : Shared} {K : Frag} {mg : Str → Option Value} {xN : Str} {C fI : Addr}
theorem low_init (T : LowTxt K mg xN C fI) {x t0 : Addr} {v : Value} (X : K.In s.heap) (hlim : s.heap.NoLimit) (hx : s.heap.get? x = some (excO C t0)) (hnx : K.lookup x = none) (hroom : A.depth < recursionLimit)
    (hq : ∀ h' tk dx, InitEnd s.heap h' x C dx t0 v → R (.ok (.ret .none)) { s with heap := h', toks := tk }) :
    codeAny (model prog w) A (.call (.ref fI) ⟨[.ref x, v], []⟩) R s := by
  obtain ⟨oc, od, doc, pm, an, cdv, ct, osl, p1, p2, q1, q2, q3, q4, ho, hcd⟩ := T.fn
  obtain ⟨nm, q, N, bs, bm, sn, sub, ab, col, dd, k0, k1, k2, k3, k5, hC, hbm⟩ := T.cls
  have hcl : clsIn K C = some { name := nm, bases := bs, mro := .ref C :: bm, ns := N, qualname := q, hasDict := true, slotNames := sn, subclasses := sub, abstract := ab, collection := col, hasDel := false } := by unfold clsIn; rw [hC] <;> rfl
  refine Att.call_fn (binds := [("self", .ref x), ("at", v)]) X hlim ho hcd hroom (BindsTo.of_eq (by first | rfl | with_unfolding_all rfl)) (by first | rfl | decide | with_unfolding_all rfl) (fun s₁ IC => ?_) rfl rfl rfl
  obtain ⟨h₁, tk₁, rfl⟩ := IC.toInCall.same
  have k : ∀ b o, s.heap.get? b = some o → h₁.get? b = some o := IC.toInCall.keep
  have hn := IC.toInCall.ns
  have hxL : s.heap.objs.size ≠ x := Nat.ne_of_gt (Heap.lt_size hx)
  have X₁ : K.In h₁ := X.keeps k
  have hx₁ := k _ _ hx
  -- self.by = by
  show wpAny _ _ (execs _ _) _ _ _
  refine wpAny_execs_cons (plainObj_wpAny_Assign_Attribute ?_)
  refine ldC (v := v) hn (by first | rfl | with_unfolding_all rfl | kernel_rfl) (ldC (v := .ref x) hn (by first | rfl | with_unfolding_all rfl | kernel_rfl) ?_)
  refine set_plain X₁ (ox := excO C t0) (od := none) ⟨hx₁, rfl, rfl, trivial⟩ T.sa ?_
  refine exc_osa X₁ hx₁ hcl (show refsVE (.ref C :: bm) = true from hbm) rfl T.noN (fun h₃ tk₃ dx k₃ dn dne hx₃ hn₃ => ?_)
  show wpAny _ _ (execs _ _) _ _ _
  have z : s.heap.objs.size < h₁.objs.size := hn.lt
  exact wpAny_execs_nil (hq h₃ tk₃ dx ⟨fun b o hb e => k₃ b o hb (k b o e), hx₃, Nat.le_of_lt (Nat.lt_of_lt_of_le z dn), dne, hn₃⟩)
theorem low_made (T : LowTxt K mg xN C fI) {v : Value} (X : K.In s.heap) (hlim : s.heap.NoLimit) (hroom : A.depth + 1 < recursionLimit)
    (hq : ∀ h' tk e d, OwnMade s.heap h' e C d v → R (.ok (.ret (.ref e))) { s with heap := h', toks := tk }) :
    codeAny (model prog w) A (.call (.ref C) ⟨[v], []⟩) R s := by
  obtain ⟨nm, q, N, bs, bm, sn, sub, ab, col, dd, k0, k1, k2, k3, k5, hC, hbm⟩ := T.cls
  obtain ⟨hp, g, dr, tk, os⟩ := s
  have k : ∀ b o, hp.get? b = some o → ((hp.push (kdv_tup [v])).push (excO C hp.objs.size)).get? b = some o := fun b o e => Heap.get?_push_of_some _ (Heap.get?_push_of_some _ e)
  have hget : ((hp.push (kdv_tup [v])).push (excO C hp.objs.size)).get? (hp.objs.size + 1) = some (excO C hp.objs.size) := by heap_get
  have hnx : K.lookup (hp.objs.size + 1) = none := by
    cases e : K.lookup (hp.objs.size + 1) with
    | none => rfl
    | some o =>
      have z : hp.get? (hp.objs.size + 1) = some o := X _ _ e
      exact absurd (Nat.lt_of_succ_lt (Heap.lt_size z)) (Nat.lt_irrefl _)
  refine call_own F.excBase_ValueError (fun X => refsVE_contains X bm hbm) (X _ _ hC) (looks_findIn X T.iC) (fun self => bind_fn X self T.tC) (one_size v) ?_
  refine low_init (s := ⟨(hp.push (kdv_tup [v])).push (excO C hp.objs.size), g, dr, tk, os⟩) T (X.keeps k) (hlim.keeps k) hget hnx ?_ fun h' tk' dx ⟨k', hx, dn, dne, hns⟩ => ?_
  · show A.depth + 1 < recursionLimit
    exact hroom
  · have old : ∀ b o, hp.get? b = some o → h'.get? b = some o := fun b o e => k' b o (Nat.ne_of_lt (Nat.lt_succ_of_lt (Heap.lt_size e))) (k b o e)
    have z : hp.objs.size + 1 + 1 ≤ dx := by
      first
        | (simpa only [Heap.size_push] using dn)
        | exact dn
        | (have q := dn; rw [Heap.size_push, Heap.size_push] at q; exact q)
    exact ⟨rfl, hq h' tk' (hp.objs.size + 1) dx ⟨old, Nat.le_succ _, ⟨_, _, hx, rfl, rfl, rfl, rfl⟩, Nat.le_trans (Nat.le_trans (Nat.le_succ _) (Nat.le_succ _)) z, dne, hns⟩⟩
end
end LowX
end PySem
namespace L2
open PySem PySem.Spec PyProof.Rows
theorem relO_low {v : V} {v' : Value} (r : RelV v v') (f : Str) : RelO (List.lookup f [(("at" : Str), v)]) (if f = "at" then some v' else none) := by
  by_cases hw : f = "at"
  · subst hw
    rw [if_pos rfl]
    have q : List.lookup ("at" : Str) [(("at" : Str), v)] = some v := by simp [List.lookup]
    rw [q]
    exact r
  · rw [if_neg hw]
    have qw : (f == ("at" : Str)) = false := by simpa using hw
    have q2 : List.lookup f [(("at" : Str), v)] = none := by simp [List.lookup, qw]
    rw [q2]
    trivial
section
variable {X : Cx} {xN : Str} {C fI : Addr}
/-- Low(e) -/
def tMkLow (C : Addr) (ta : TA) : St → Hp → XK → Prop := fun σ H Q => ta σ H fun vs H1 => ∃ v, vs = [v] ∧ ∀ d, H1 d = none → Q (.ref C) (some d) (upd H1 d (.xd [(("at" : Str), v)]))
theorem pmk_low {a : Expr} {ta : TA} {p pos : Pos} {k : Nat} (T : PySem.LowX.LowTxt X.K X.mg xN C fI) (hr : Room k X.A) (ha : PA X [a] ta) (hg : Gl X xN := by rfl) (hdb : (xN == ("__debug__" : Str)) = false := by decide)
    (he : starEach (a :: []) X.env = (false, eval a X.env) :: starEach [] X.env := by rfl) (hpl : (backTo pos (starEach [] X.env)).any (·.1) = false := by rfl) :
    PMk X (.Call (.Name xN p) [a] [] pos) (tMkLow C ta) := by
  intro pins s σ H Q I h
  refine wpAny_Call_Name_kw (ld_glob I hg T.gC ?_ hdb)
  refine PySem.W.callWith_K (h₀ := X.base) I.ok.mod.kin T.kC (thn (ha.run pos pins s σ H _ I h) fun us s1 hh => ?_) he hpl
  obtain ⟨vs, H1, I1, r1, v, ev, q1⟩ := hh
  subst ev
  refine ⟨I1.kIn, ?_⟩
  cases r1 with
  | cons rv rn =>
    rename_i v' us'
    cases rn
    show wpAny _ _ (call (.ref C) [v']) _ _ _
    have hlim := I1.nolimit
    obtain ⟨hp, g, dr, tk, os⟩ := s1
    refine wpAny_call (PySem.LowX.low_made T I1.kIn hlim (by have := hr.dp; omega) fun h' tk' e d M => ?_)
    show MkP X pins σ Q (.ref e) ⟨h', g, dr, tk', os⟩
    obtain ⟨oe, fv, hoe, hc, hd, hdat, h1⟩ := M.obj
    have hns := M.ns
    obtain ⟨G', g1, g2⟩ := restrict h' fun b => decide (b ≠ e)
    have gk : ∀ b, b ≠ e → G'.get? b = h'.get? b := fun b hb => g1 b (decide_eq_true hb)
    have ge : G'.get? e = none := g2 e (by simp)
    have old : ∀ b o, hp.get? b = some o → G'.get? b = some o := fun b o q => (gk b (Nat.ne_of_lt (Nat.lt_of_lt_of_le (Heap.lt_size q) M.new))).trans (M.keep b o q)
    have ob : ObjOk X.prog X.w (upd H1 d (.xd [(("at" : Str), v)])) G' d (.xd [(("at" : Str), v)]) :=
      ⟨_, hns.at (fun o q => (gk d M.dne).trans q), fun f => relO_low rv f⟩
    have J : Inv X pins σ (upd H1 d (.xd [(("at" : Str), v)])) ⟨G', g, dr, tk', os⟩ := I1.laid (t' := tk') old M.dbig ob
    refine ⟨e, oe, fv, ⟨G', g, dr, tk', os⟩, _, .ref C, some d, rfl, J, fun b o q => ?_, ge, hoe, ⟨hc, hd⟩, hdat, h1, ?_, rfl, I1.bare, raises_own T.exC T.tyC, q1 d (I1.hok.fresh M.dbig)⟩
    · by_cases hb : b = e
      · have q' : G'.get? b = some o := q
        rw [hb, ge] at q'; cases q'
      · exact (gk b hb).symm.trans q
    · rw [upd_ne (Ne.symm M.dne)]
      exact I1.hok.fresh M.new
/-- raise Low(e) -/
def tRaiseLow (C : Addr) (W : WX) (ta : TA) : TS := fun _ σ H => tMkLow C ta σ H fun cls d H' => W cls d σ H'
theorem ps_raiseLow {a : Expr} {ta : TA} {W : WX} {p pos pos2 : Pos} {k : Nat} (hc : X.calm = true) (T : PySem.LowX.LowTxt X.K X.mg xN C fI) (hr : Room k X.A) (tk : Takes X W) (ha : PA X [a] ta) (hg : Gl X xN := by rfl) (hdb : (xN == ("__debug__" : Str)) = false := by decide)
    (he : starEach (a :: []) X.env = (false, eval a X.env) :: starEach [] X.env := by rfl) (hpl : (backTo pos (starEach [] X.env)).any (·.1) = false := by rfl) :
    PS X (.Raise (some (.Call (.Name xN p) [a] [] pos)) none pos2) (tRaiseLow C W ta) := ps_raise hc tk (pmk_low T hr ha hg hdb he hpl)
/-- low.by, low the exception that the suite holds (at a; its class cls, its dict d) -/
def tByLow (C : Addr) (a : Addr) (cls : Value) (d : Option Addr) (te : TE) : TE := fun σ H Q => te σ H fun x H1 => x = .ref a ∧ cls = .ref C ∧ ∃ (dd : Addr) (v : V), d = some dd ∧ H1 dd = some (.xd [(("at" : Str), v)]) ∧ Q v H1
theorem pe_byLow {a : Addr} {oe : Obj} {cls : Value} {d : Option Addr} {pn : List (Addr × Obj)} {e : Expr} {te : TE} {pos : Pos} (T : PySem.LowX.LowTxt X.K X.mg xN C fI) (hz : Zc cls d oe) (hf : ∃ vs, oe.data = .fields vs) (he : PE (X.suite a ((a, oe) :: pn)) e te)
    (hb : attributeBase e "at" X.env (eval e X.env) = eval e X.env := by rfl) :
    PE (X.suite a ((a, oe) :: pn)) (.Attribute e "at" pos) (tByLow C a cls d te) := by
  refine ⟨fun pins s σ H Q I h => ?_⟩
  refine attr_of hb (thn (he.run pins s σ H _ I h) fun u s1 hh => ?_)
  obtain ⟨x, H1, I1, rx, ex, ec, dd, v, ed, ea, q⟩ := hh
  subst ex
  obtain rfl : u = Value.ref a := rx
  subst ec
  subst ed
  obtain ⟨ha, _⟩ := I1.pin (a, oe) (List.mem_append_left _ List.mem_cons_self)
  obtain ⟨vs, hd⟩ := hf
  have hx : ObjOk X.prog X.w H1 s1.heap dd (.xd [(("at" : Str), v)]) := I1.hok dd _ ea
  obtain ⟨mA, hns, hr⟩ := hx
  obtain ⟨od, ho, hl⟩ := lookIn_ns hns
  have l : List.lookup ("at" : Str) [(("at" : Str), v)] = some v := by simp [List.lookup]
  obtain ⟨u, hu, ru⟩ := RelO.some_of (v := v) (o := mA "at") (by rw [← l]; exact hr "at")
  have J : PySem.W.InstAt s1.heap a oe C (some od) := ⟨ha, hz.1, by unfold PySem.W.notCls; rw [hd] <;> rfl, by rw [hz.2]; exact ho⟩
  exact HandSPX.exc_get I1.kIn J T.ga T.gg T.exC (PySem.W.findObj_own T.hdC T.noN rfl (by rw [hl, hu])) (handed_of ru) ⟨v, H1, I1.tok _, ru, q⟩
end
end L2

namespace L2
open PySem PySem.Spec PyProof.Rows
/-- an if whose test is known -/
theorem if_true_of {c : Bool} {A B : Prop} (hc : c = true) (h : A) : if c = true then A else B := by
  rw [if_pos hc]
  exact h
theorem if_false_of {c : Bool} {A B : Prop} (hc : c = false) (h : B) : if c = true then A else B := by
  rw [hc, if_neg Bool.false_ne_true]
  exact h
end L2
namespace Ovc
open PySem PySem.Spec PyProof.Rows L2
/-! ### try with several clauses, each with a name or without one -/
/-- the ends of a suite whose name's slot is emptied behind it -/
def endsAs (i : Nat) (D : Ends) : Ends := { nx := fun σ H => D.nx (σ.set i none) H, rt := D.rt, bk := fun σ H => D.bk (σ.set i none) H, ct := fun σ H => D.ct (σ.set i none) H }
abbrev Clause := Value × Option Nat × (Addr → Value → Option Addr → TS)
def runClause (q : Clause) (a : Addr) (cls : Value) (d : Option Addr) (D : Ends) (σ : L2.St) (H : Hp) : Prop :=
  match q.2.1 with
  | none => q.2.2 a cls d D σ H
  | some i => q.2.2 a cls d (endsAs i D) (σ.set i (some (.ref a))) H
def wClauses (K : PySem.W.Frag) (Wout : WX) (D : Ends) : List Clause → WX
  | [] => Wout
  | q :: r => fun cls d σ H => ∃ b, PySem.W.exmOne K cls q.1 = some b ∧ (b = true → ∀ a, H a = none → runClause q a cls d D σ H) ∧ (b = false → wClauses K Wout D r cls d σ H)
inductive ClOk (X : Cx) : List ExceptHandler → List Clause → Prop
  | nil : ClOk X [] []
  | bare {x : Str} {c : Value} {ts : Addr → Value → Option Addr → TS} {st₀ : Stmt} {sts : List Stmt} {p1 p2 : Pos} {hds : List ExceptHandler} {l : List Clause} (hc : Names X x c)
      (suite : ∀ (a : Addr) (ob : Obj) (cls : Value) (d : Option Addr) (pn : List (Addr × Obj)), Zc cls d ob → (∃ fv, ob.data = .fields fv) → PSs (X.suite a ((a, ob) :: pn)) (st₀ :: sts) (ts a cls d)) (more : ClOk X hds l) :
      ClOk X (.ExceptHandler (some (.Name x p1)) none (st₀ :: sts) p2 :: hds) ((c, none, ts) :: l)
  | named {x n : Str} {c : Value} {i : Nat} {ts : Addr → Value → Option Addr → TS} {st₀ : Stmt} {sts : List Stmt} {p1 p2 : Pos} {hds : List ExceptHandler} {l : List Clause} (hN : X.N.Nodup) (hi : X.N[i]? = some n) (hln : X.env.kindOf n = some .local) (hc : Names X x c)
      (suite : ∀ (a : Addr) (ob : Obj) (cls : Value) (d : Option Addr) (pn : List (Addr × Obj)), Zc cls d ob → (∃ fv, ob.data = .fields fv) → PSs (X.suite a ((a, ob) :: pn)) (st₀ :: sts) (ts a cls d)) (more : ClOk X hds l) :
      ClOk X (.ExceptHandler (some (.Name x p1)) (some n) (st₀ :: sts) p2 :: hds) ((c, some i, ts) :: l)
section
variable {X : Cx} {body : List Stmt} {hd₀ : ExceptHandler} {hds : List ExceptHandler} {l : List Clause} {pos : Pos} {tb : WX → TS} {Wout : WX}
theorem ps_try_cl (hsk : X.stack = X.env :: X.outer) (hfm : X.env.frame = some X.env.locals) (tk : Takes X Wout)
    (hb : ∀ (W : WX) (pn : List (Addr × Obj)) (xe : Value → Shared → Prop), Takes (X.tr pn xe) W → PassesOwn (model X.prog X.w) X.A X.env xe → PSs (X.tr pn xe) body (tb W))
    (hcl : ClOk X (hd₀ :: hds) l) : PS X (.Try body (hd₀ :: hds) [] [] pos) (fun D σ H => tb (wClauses X.K Wout D l) D σ H) := by
  refine ⟨fun pins s σ H D I0 hr => ?_⟩
  have okX := I0.ok
  have frA : X.A.frames = some (X.env :: X.outer) := by rw [okX.frames, hsk]
  refine wpAny_Try_except (wpAny_mono ((hb (wClauses X.K Wout D l) (X.pn ++ pins) (fun e t₁ => wpAny (model X.prog X.w) X.A (noteFrame e X.env) (fun _ t₂ => wpAny (model X.prog X.w) X.A (setFlight e none) (fun _ t₃ =>
    wpAny (model X.prog X.w) X.A (handleBy e X.env (hd₀ :: hds)) (SP X pins D) X.xe t₃) X.xe t₂) X.xe t₁) (fun u t xx => ?caught) PassesOwn.looking).run [] s σ H D (I0.toTry _) hr) (fun fl t hsp => ?after) (fun e t he => he))
  case after =>
    cases fl with
    | next => exact let ⟨σ1, H1, I1, z⟩ := hsp; wpAny_execs_nil ⟨σ1, H1, I1.ofTry okX, z⟩
    | brk => exact let ⟨σ1, H1, I1, z⟩ := hsp; ⟨σ1, H1, I1.ofTry okX, z⟩
    | cont => exact let ⟨σ1, H1, I1, z⟩ := hsp; ⟨σ1, H1, I1.ofTry okX, z⟩
    | ret u => exact let ⟨v, σ1, H1, I1, r, z⟩ := hsp; ⟨v, σ1, H1, I1.ofTry okX, r, z⟩
  case caught =>
    obtain ⟨a, B, sI, pins1, σ1, H1, cls, d, rfl, I1', nb, up, sky, na, os, ag, wish⟩ := xx
    have I1 : Inv X pins σ1 H1 sI := I1'.ofTry okX
    have skyF : Sky B (X.env :: X.outer) a (Zc cls d) X.env.locals t.heap := by rw [← hsk]; exact sky
    refine Sky.land Zc.steady frA hfm skyF fun h3 fl3 up3 => ?_
    have I3 : Inv X pins σ1 H1 { t with heap := h3 } := I1.landed nb fl3.1 (up.trans up3) os ag
    obtain ⟨ob3, fv3, at3, z3, dat3⟩ := fl3.there
    have off : a ∉ frs (X.env :: X.outer) := fun hm => by
      obtain ⟨_, o', e', hnf⟩ := fl3.2.2.1.mem hm
      rw [at3] at e'
      cases e'
      exact hnf _ dat3
    have offL : a ≠ X.env.locals := fun z => off (List.mem_filterMap.mpr ⟨X.env, List.mem_cons_self, by rw [hfm, z]⟩)
    have offF : a ∉ X.fs := fun hm => let ⟨en, hen, z⟩ := List.mem_filterMap.mp hm; off (List.mem_filterMap.mpr ⟨en, List.mem_cons_of_mem _ hen, z⟩)
    have SU3 := I3.suite at3 dat3 na offL offF
    have test : ∀ {x : Str} {c : Value} {p1 : Pos} {Q : Value → Shared → Prop} {E : Value → Shared → Prop}, Names X x c → Q c { t with heap := h3 } →
        wpAny (model X.prog X.w) (X.A.mark (some (.ref a))) (eval (.Name x p1) X.env) Q E { t with heap := h3 } := fun {x c p1 Q E} hc z => by
      obtain ⟨hg, hdb, hm | ⟨hm, hv, hne⟩⟩ := hc
      · exact ld_glob (X := X.suite a ((a, ob3) :: (X.pn ++ pins))) SU3 hg hm z hdb
      · exact ld_blt (X := X.suite a ((a, ob3) :: (X.pn ++ pins))) SU3 hg hm hv z hne hdb
    have looks : PySem.W.Looks (model X.prog X.w) h3 (typeOf (.ref a)) cls := fun A Q E s1 keep z => wpAny_typeOf_ref (keep _ _ at3) (by rw [z3.1]; exact z)
    suffices go : ∀ {hs1 : List ExceptHandler} {l1 : List Clause}, ClOk X hs1 l1 → wClauses X.K Wout D l1 cls d σ1 H1 → wpAny (model X.prog X.w) X.A (handleBy (.ref a) X.env hs1) (SP X pins D) X.xe { t with heap := h3 } from go hcl wish
    intro hs1 l1 hk
    induction hk with
    | nil =>
      intro wo
      refine wpAny_handleBy_nil ?_
      obtain ⟨k1, k2, k3, ob, fv, T, oT, tv, heT, hzT, hdT, hT1, hTr⟩ := id fl3
      unfold PySem.passOn
      refine wpAny_bind (wpAny_field heT hdT hT1 ?_)
      rw [if_neg (show ¬ (Value.ref T == Value.none) = true from by simp)]
      have fin : wpAny (model X.prog X.w) X.A (setFlight (.ref a) X.env.frame) (fun _ t4 => wpAny (model X.prog X.w) X.A (throw (.ref a) : Sem Flow) (SP X pins D) X.xe t4) X.xe { t with heap := h3 } := by
        rw [hfm]
        exact HandSPX.setFlight_upZ fl3 fun h4 held4 up4 => wpAny_throw (tk _ _ ⟨a, B, sI, pins, σ1, H1, cls, d, rfl, I1, nb, (up.trans up3).trans up4, .inr (.inr (by rw [hsk]; exact held4)), na, os, ag, wo⟩)
      first | exact wpAny_bind (wpAny_pure (wpAny_bind fin)) | exact wpAny_bind fin
    | @bare x c ts st₀ sts p1 p2 hs2 l2 hc suite more ih =>
      rintro ⟨b, hb1, yes, no⟩
      refine wpAny_handleBy_cons (codeAny_handlers_test (test hc ((PySem.W.exm_one (M := model X.prog X.w) I3.kIn looks hb1).here ?_))) (by intro q; cases q)
      cases b with
      | false => exact ih (no rfl)
      | true =>
        refine codeAny_handlers_suite (HandSPX.lands_againZ fl3 fun h4 fl4 up4 => ?_)
        have I4 : Inv X pins σ1 H1 { t with heap := h4 } := I1.landed nb fl4.1 ((up.trans up3).trans up4) os ag
        obtain ⟨ob4, fv4, at4, z4, dat4⟩ := fl4.there
        refine wpAny_mono ((suite a ob4 cls d (X.pn ++ pins) z4 ⟨_, dat4⟩).run [] _ _ H1 _ (I4.suite at4 dat4 na offL offF) (yes rfl a na)) (fun f t6 hsp => ?_) (fun _ _ z => False.elim z)
        cases f with
        | next => exact let ⟨σ6, H6, S6, z6⟩ := hsp; ⟨_, _, S6.unsuite okX, z6⟩
        | brk => exact let ⟨σ6, H6, S6, z6⟩ := hsp; ⟨_, _, S6.unsuite okX, z6⟩
        | cont => exact let ⟨σ6, H6, S6, z6⟩ := hsp; ⟨_, _, S6.unsuite okX, z6⟩
        | ret u => exact let ⟨v6, σ6, H6, S6, r6, z6⟩ := hsp; ⟨_, _, _, S6.unsuite okX, r6, z6⟩
    | @named x n c i ts st₀ sts p1 p2 hs2 l2 hN hi hln hc suite more ih =>
      rintro ⟨b, hb1, yes, no⟩
      refine wpAny_handleBy_cons (codeAny_handlers_test (test hc ((PySem.W.exm_one (M := model X.prog X.w) I3.kIn looks hb1).here ?_))) (by intro q; cases q)
      cases b with
      | false => exact ih (no rfl)
      | true =>
        refine codeAny_handlers_suite_as (HandSPX.lands_againZ fl3 fun h4 fl4 up4 => ?_)
        have I4 : Inv X pins σ1 H1 { t with heap := h4 } := I1.landed nb fl4.1 ((up.trans up3).trans up4) os ag
        obtain ⟨ob4, fv4, at4, z4, dat4⟩ := fl4.there
        refine store_ok (X := X.suite a ((a, ob4) :: (X.pn ++ pins))) (v := .ref a) (I4.suite at4 dat4 na offL offF) hN hi (.inl hln) rfl (fun t5 S5 => ?_) (.inr hln)
        refine wpAny_mono ((suite a ob4 cls d (X.pn ++ pins) z4 ⟨_, dat4⟩).run [] t5 _ H1 _ S5 (yes rfl a na)) (fun f t6 hsp => ?_) (fun _ _ z => False.elim z)
        have off6 : ∀ {σ6 : L2.St} {H6 : Hp} {Q : Shared → Prop}, Inv (X.suite a ((a, ob4) :: (X.pn ++ pins))) [] σ6 H6 t6 → (∀ t7, Inv X pins (σ6.set i none) H6 t7 → Q t7) →
            wpAny (model X.prog X.w) X.A (do bindName X.env n .none; unbindBehindTheSuite X.env n p2) (fun _ t7 => Q t7) X.xe t6 := fun {σ6 H6 Q} S6 hq => gone_ok (S6.unsuite okX) hN hi hln hq
        cases f with
        | next => exact let ⟨σ6, H6, S6, z6⟩ := hsp; off6 S6 fun t7 I7 => ⟨_, _, I7, z6⟩
        | brk => exact let ⟨σ6, H6, S6, z6⟩ := hsp; off6 S6 fun t7 I7 => ⟨_, _, I7, z6⟩
        | cont => exact let ⟨σ6, H6, S6, z6⟩ := hsp; off6 S6 fun t7 I7 => ⟨_, _, I7, z6⟩
        | ret u => exact let ⟨v6, σ6, H6, S6, r6, z6⟩ := hsp; off6 S6 fun t7 I7 => ⟨_, _, _, I7, r6, z6⟩
end
/-! ### a < b < c < d as a test -/
def tTest3 (r1 r2 r3 : R2) (ta tb tc td : TE) : TT := fun σ H Q => ta σ H fun x H1 => tb σ H1 fun y H2 => r1 x y H2 fun z H3 => ∃ k, z = .bl k ∧
  (if k = true then tc σ H3 fun u H4 => r2 y u H4 fun z2 H5 => ∃ k2, z2 = .bl k2 ∧ (if k2 = true then td σ H5 fun v H6 => r3 u v H6 fun z3 H7 => ∃ k3, z3 = .bl k3 ∧ Q k3 H7 else Q false H5) else Q false H3)
theorem pt_chain3 {X : Cx} {a b c d : Expr} {ta tb tc td : TE} {o1 o2 o3 : CmpOp} {r1 r2 r3 : R2} {pos : Pos} (h1 : OpR X (compareOp o1) r1) (h2 : OpR X (compareOp o2) r2) (h3 : OpR X (compareOp o3) r3) (ha : PE X a ta) (hb : PE X b tb) (hc : PE X c tc) (hd : PE X d td)
    (hm : lastMarks [o1, o2, o3] [b, c, d] = false := by with_unfolding_all rfl) : PT X (.Compare a [o1, o2, o3] [b, c, d] pos) (tTest3 r1 r2 r3 ta tb tc td) := by
  refine ⟨fun pins s σ H Q I0 hr => isTrue_chain (thn (ha.run pins s σ H _ I0 hr) fun v1 s1 ⟨x, H1, I1, e1, q1⟩ => test_link (thn (hb.run pins s1 σ H1 _ I1 q1) fun v2 s2 ⟨y, H2, I2, e2, q2⟩ =>
    thn (h1 pins s2 σ H2 x y v1 v2 _ I2 e1 e2 q2) fun v3 s3 ⟨z, H3, I3, e3, k, ez, q3⟩ => ?_)) hm⟩
  subst ez
  cases e3
  refine wpAny_truthy_bool ?_
  cases k with
  | false => exact ite_ff ⟨H3, I3, q3⟩
  | true =>
    refine ite_tt (test_link (thn (hc.run pins s3 σ H3 _ I3 q3) fun v4 s4 ⟨u, H4, I4, e4, q4⟩ => thn (h2 pins s4 σ H4 y u v2 v4 _ I4 e2 e4 q4) fun v5 s5 ⟨z2, H5, I5, e5, k2, ez2, q5⟩ => ?_))
    subst ez2
    cases e5
    refine wpAny_truthy_bool ?_
    cases k2 with
    | false => exact ite_ff ⟨H5, I5, q5⟩
    | true =>
      refine ite_tt (test_last (thn (hd.run pins s5 σ H5 _ I5 q5) fun v6 s6 ⟨v, H6, I6, e6, q6⟩ => thn (h3 pins s6 σ H6 u v v4 v6 _ I6 e4 e6 q6) fun v7 s7 ⟨z3, H7, I7, e7, k3, ez3, q7⟩ => ?_))
      subst ez3
      cases e7
      exact wpAny_truthy_bool ⟨H7, I7, q7⟩
theorem an_chain3 {σ : L2.St} {H : Hp} {g1 g2 g3 : Int → Int → Bool} {ta tb tc td : TE} {p q r s : Int} (ha : Vl ta σ H (.int p)) (hb : Vl tb σ H (.int q)) (hc : Vl tc σ H (.int r)) (hd : Vl td σ H (.int s)) :
    An (tTest3 (rI0 fun i j => .bl (g1 i j)) (rI0 fun i j => .bl (g2 i j)) (rI0 fun i j => .bl (g3 i j)) ta tb tc td) σ H (g1 p q && (g2 q r && g3 r s)) := fun Q k =>
  ha _ (hb _ ⟨p, q, rfl, rfl, _, rfl, by
    show if g1 p q = true then _ else _
    revert k
    cases g1 p q with
    | false => exact fun k => iteF k
    | true => exact fun k => iteT (hc _ ⟨q, r, rfl, rfl, _, rfl, by
        show if g2 q r = true then _ else _
        revert k
        cases g2 q r with
        | false => exact fun k => iteF k
        | true => exact fun k => iteT (hd _ ⟨r, s, rfl, rfl, _, rfl, k⟩)⟩)⟩)
/-! ### tests that make objects on their way -/
def Ax (t : TT) (σ : L2.St) (H : Hp) (b : Bool) : Prop := ∀ Q : Bool → Hp → Prop, (∀ H', Same H H' → Q b H') → t σ H Q
section
variable {K : PySem.W.Frag} {σ : L2.St} {H : Hp} {t u : TT} {D : Ends} {tz tu tw : TS} {ta tb tc : TE}
theorem ax_of {b : Bool} (h : An t σ H b) : Ax t σ H b := fun Q q => h Q (q H (Same.refl H))
theorem ax_not {b : Bool} (h : Ax t σ H b) : Ax (tNot t) σ H (!b) := fun Q q => h _ fun H' s => q H' s
theorem ax_and {k m : Bool} (h1 : Ax t σ H k) (h2 : k = true → ∀ H', Same H H' → Ax u σ H' m) : Ax (tAnd t u) σ H (k && m) := fun Q q => h1 _ fun H1 s1 => by
  cases k with
  | true => exact iteT (h2 rfl H1 s1 _ fun H2 s2 => q H2 (s1.trans s2))
  | false => exact iteF (q H1 s1)
theorem ax_or {k m : Bool} (h1 : Ax t σ H k) (h2 : k = false → ∀ H', Same H H' → Ax u σ H' m) : Ax (tOr t u) σ H (k || m) := fun Q q => h1 _ fun H1 s1 => by
  cases k with
  | true => exact iteT (q H1 s1)
  | false => exact iteF (h2 rfl H1 s1 _ fun H2 s2 => q H2 (s1.trans s2))
theorem Ax.is {k m : Bool} (h : Ax t σ H k) (e : k = m) : Ax t σ H m := e ▸ h
theorem g_ifx {b : Bool} (h : Ax t σ H b) (h1 : b = true → ∀ H', Same H H' → tz D σ H') (h2 : b = false → ∀ H', Same H H' → tu D σ H') : tIfS t tz tu D σ H := h _ fun H' s => by
  cases b with
  | true => exact iteT (h1 rfl H' s)
  | false => exact iteF (h2 rfl H' s)
theorem q_ifx {b : Bool} (h : Ax t σ H b) (h1 : b = true → ∀ H', Same H H' → tz { D with nx := tw D } σ H') (h2 : b = false → ∀ H', Same H H' → tu { D with nx := tw D } σ H') : tSeq (tIfS t tz tu) tw D σ H := g_ifx (D := { D with nx := tw D }) h h1 h2
theorem q_whenx {b : Bool} (h : Ax t σ H b) (h1 : b = true → ∀ H', Same H H' → tz { D with nx := tw D } σ H') (h2 : b = false → ∀ H', Same H H' → tw D σ H') : tSeq (tIfS t tz tNext) tw D σ H := g_ifx (D := { D with nx := tw D }) h h1 h2
theorem g_whenx {b : Bool} (h : Ax t σ H b) (h1 : b = true → ∀ H', Same H H' → tz D σ H') (h2 : b = false → ∀ H', Same H H' → D.nx σ H') : tIfS t tz tNext D σ H := g_ifx h h1 h2
theorem lexAt2 {a b c d : Int} : Ob.lexAt (fun j => decide ([a, b].getD j 0 = [c, d].getD j 0)) (fun j => decide ([a, b].getD j 0 ≤ [c, d].getD j 0)) (decide ([a, b].length ≤ [c, d].length)) 0 (min [a, b].length [c, d].length) = decide (a < c ∨ (a = c ∧ b ≤ d)) := by
  show (if decide (a = c) = true then (if decide (b = d) = true then decide (2 ≤ 2) else decide (b ≤ d)) else decide (a ≤ c)) = _
  by_cases h1 : a = c
  · rw [if_pos (decide_eq_true h1)]
    by_cases h2 : b = d
    · rw [if_pos (decide_eq_true h2), decide_eq_true (Nat.le_refl 2), decide_eq_true (.inr ⟨h1, by omega⟩)]
    · rw [if_neg (fun h => h2 (of_decide_eq_true h)), Bool.eq_iff_iff]
      simp only [decide_eq_true_eq]
      omega
  · rw [if_neg (fun h => h1 (of_decide_eq_true h)), Bool.eq_iff_iff]
    simp only [decide_eq_true_eq]
    omega
/-- (a, b) <= t, t a tuple of two ints -/
theorem ax_leT {a b c d : Int} {T : Addr} (ha : Vl ta σ H (.int a)) (hb : Vl tb σ H (.int b)) (hc : ∀ H', Same H H' → Vl tc σ H' (.ref T)) (hT : SqT K H T [.int c, .int d]) : Ax (tTest (tOp (rLeT K) (tTup (tCons ta (tCons tb tNil))) tc)) σ H (decide (a < c ∨ (a = c ∧ b ≤ d))) := fun Q q =>
  ha _ (hb _ ⟨by show 2 ≤ sizeLine; decide, fun S nS => hc _ (same_upd nS) _ ⟨S, T, [a, b], [c, d], rfl, rfl, .of upd_same, seqT (same_upd nS) hT, _, rfl, by
    rw [lexAt2]
    exact q _ (same_upd nS)⟩⟩)
/-- (a, b) == (c, d), the tuples made on the way -/
theorem ax_eqTT {td : TE} {p q r s : Int} (ha : ∀ H', Same H H' → Vl ta σ H' (.int p)) (hb : ∀ H', Same H H' → Vl tb σ H' (.int q)) (hc : ∀ H', Same H H' → Vl tc σ H' (.int r)) (hd : ∀ H', Same H H' → Vl td σ H' (.int s)) :
    Ax (tTest (tOp (rEqD K) (tTup (tCons ta (tCons tb tNil))) (tTup (tCons tc (tCons td tNil))))) σ H (decide (p = r ∧ q = s)) := fun Q k =>
  ha H (Same.refl H) _ (hb H (Same.refl H) _ ⟨by show 2 ≤ sizeLine; decide, fun T nT => by
    have s1 : Same H (upd H T (.tup [.int p, .int q])) := same_upd nT
    refine hc _ s1 _ (hd _ s1 _ ⟨by show 2 ≤ sizeLine; decide, fun S nS => ?_⟩)
    have s2 : Same (upd H T (.tup [.int p, .int q])) (upd (upd H T (.tup [.int p, .int q])) S (.tup [.int r, .int s])) := same_upd nS
    refine ⟨.tuple [.int p, .int q], .tuple [.int r, .int s], .tup (.of (s2 _ _ upd_same)) (.cons (.int _) (.cons (.int _) .nil)), .tup (.of upd_same) (.cons (.int _) (.cons (.int _) .nil)), by rfl, by rfl, _, rfl, ?_⟩
    rw [show PyData.eqv (.tuple [.int p, .int q]) (.tuple [.int r, .int s]) = decide (p = r ∧ q = s) by
      show (p == r && (q == s && true)) = _
      rw [Bool.and_true, Bool.eq_iff_iff]
      simp]
    exact k _ (s1.trans s2)⟩)
/-- t == (c, d), t a tuple of two ints -/
theorem ax_eqRT {p q r s : Int} {T : Addr} (ha : Vl ta σ H (.ref T)) (hT : SqT K H T [.int p, .int q]) (hb : Vl tb σ H (.int r)) (hc : Vl tc σ H (.int s)) :
    Ax (tTest (tOp (rEqD K) ta (tTup (tCons tb (tCons tc tNil))))) σ H (decide (p = r ∧ q = s)) := fun Q k =>
  ha _ (hb _ (hc _ ⟨by show 2 ≤ sizeLine; decide, fun S nS => by
    have s2 : Same H (upd H S (.tup [.int r, .int s])) := same_upd nS
    refine ⟨.tuple [.int p, .int q], .tuple [.int r, .int s], .tup (seqT s2 hT) (.cons (.int _) (.cons (.int _) .nil)), .tup (.of upd_same) (.cons (.int _) (.cons (.int _) .nil)), by rfl, by rfl, _, rfl, ?_⟩
    rw [show PyData.eqv (.tuple [.int p, .int q]) (.tuple [.int r, .int s]) = decide (p = r ∧ q = s) by
      show (p == r && (q == s && true)) = _
      rw [Bool.and_true, Bool.eq_iff_iff]
      simp]
    exact k _ s2⟩))
/-- (a, b) == t, t a tuple of two ints -/
theorem ax_eqTR {p q r s : Int} {T : Addr} (ha : Vl ta σ H (.int p)) (hb : Vl tb σ H (.int q)) (hc : ∀ H', Same H H' → Vl tc σ H' (.ref T)) (hT : SqT K H T [.int r, .int s]) :
    Ax (tTest (tOp (rEqD K) (tTup (tCons ta (tCons tb tNil))) tc)) σ H (decide (p = r ∧ q = s)) := fun Q k =>
  ha _ (hb _ ⟨by show 2 ≤ sizeLine; decide, fun S nS => by
    have s2 : Same H (upd H S (.tup [.int p, .int q])) := same_upd nS
    refine hc _ s2 _ ⟨.tuple [.int p, .int q], .tuple [.int r, .int s], .tup (.of upd_same) (.cons (.int _) (.cons (.int _) .nil)), .tup (seqT s2 hT) (.cons (.int _) (.cons (.int _) .nil)), by rfl, by rfl, _, rfl, ?_⟩
    rw [show PyData.eqv (.tuple [.int p, .int q]) (.tuple [.int r, .int s]) = decide (p = r ∧ q = s) by
      show (p == r && (q == s && true)) = _
      rw [Bool.and_true, Bool.eq_iff_iff]
      simp]
    exact k _ s2⟩)
/-- assignments of a new tuple -/
theorem q_asgTup {i : Nat} {tr : TA} {xs : List V} (h : Va tr σ H xs) (hz : xs.length ≤ sizeLine) (k : ∀ T, H T = none → tw D (σ.set i (some (.ref T))) (upd H T (.tup xs))) : tSeq (tAsg (tTup tr) (gName i)) tw D σ H := h _ ⟨hz, k⟩
theorem g_asgTup {i : Nat} {tr : TA} {xs : List V} (h : Va tr σ H xs) (hz : xs.length ≤ sizeLine) (k : ∀ T, H T = none → D.nx (σ.set i (some (.ref T))) (upd H T (.tup xs))) : tAsg (tTup tr) (gName i) D σ H := h _ ⟨hz, k⟩
end
/-! ### defs that may raise, by their names -/
structure KalX (P : Program) (w : World) (K : PySem.W.Frag) (mg : Str → Option Value) (base : Heap) (k : Nat) (x : Str) (ps : List Str) (sp : Sp) : Prop where
  ex : ∃ (f : Addr) (fd : FuncData), FnOk P w K mg base (L2.CX P w) k f fd ps sp ∧ mg x = some (.ref f) ∧ PySem.W.keepIn K (.ref f) = true ∧ Binds K fd ps []
theorem kalx_of {P : Program} {w : World} {K : PySem.W.Frag} {mg : Str → Option Value} {base : Heap} {k : Nat} {x : Str} {st : Stmt} {ps : List Str} {sp : Sp} (A : Df K mg x st ps)
    (ok : ∀ f fd, Fun K x x st f fd → FnOk P w K mg base (L2.CX P w) k f fd ps sp) : KalX P w K mg base k x ps sp := by
  obtain ⟨f, fd, F, g, b⟩ := A.ex
  exact ⟨f, fd, ok f fd F, g, F.kp, b⟩
/-- called in a def that may raise -/
theorem pe_kx {X : Cx} {k j : Nat} {x : Str} {ps : List Str} {sp : Sp} {p pos : Pos} {e : Expr} {es : List Expr} {t : TA} {E : XK} (c : KalX X.prog X.w X.K X.mg X.base k x ps sp) (hr : Room j X.A) (hk : k ≤ j) (hg : Gl X x) (tk : Takes X (fun cls d _ H => E cls d H)) (ha : PA X (e :: es) t)
    (hdb : (x == ("__debug__" : Str)) = false := by decide) (he : starEach (e :: es) X.env = (false, eval e X.env) :: starEach es X.env := by rfl) (hpl : (backTo pos (starEach es X.env)).any (·.1) = false := by rfl) :
    PE X (.Call (.Name x p) (e :: es) [] pos) (tCall sp [] E t) := by
  obtain ⟨f, fd, F, hm, kp, b⟩ := c.ex
  exact pe_call F (hr.mono hk) hg hm kp b .nil (passes_call tk fun _ _ _ _ h => h) ha hdb he hpl
/-- called within a try -/
theorem pe_ks {X : Cx} {k j : Nat} {x : Str} {ps : List Str} {sp : Sp} {p pos : Pos} {e : Expr} {es : List Expr} {t : TA} {W : WX} (c : KalX X.prog X.w X.K X.mg X.base k x ps sp) (hr : Room j X.A) (hk : k ≤ j) (hg : Gl X x) (tk : Takes X W) (ha : PA X (e :: es) t)
    (hdb : (x == ("__debug__" : Str)) = false := by decide) (he : starEach (e :: es) X.env = (false, eval e X.env) :: starEach es X.env := by rfl) (hpl : (backTo pos (starEach es X.env)).any (·.1) = false := by rfl) :
    PE X (.Call (.Name x p) (e :: es) [] pos) (tCallS sp (WE W) t) := by
  obtain ⟨f, fd, F, hm, kp, b⟩ := c.ex
  exact pe_callS F (hr.mono hk) hg hm kp b (fun σ => passAt tk σ) ha hdb he hpl
/-! ### for link in links -/
section
variable {K : PySem.W.Frag} {σ : L2.St} {H : Hp} {a : Addr} {D : Ends} {tz tw : TS}
theorem g_forLk {j : Nat} {Hb : Hp} {xs : List V} {ls : List Lnk} {tl : TE} (h : Vl tl σ H (.ref a)) (hx : SqL K Hb a xs) (hL : DpAll K Hb xs (ls.map lnkD)) (hb : Same Hb H) (Pv : Nat → L2.St → Hp → Prop) (h0 : Pv 0 σ H) (hl : ∀ i σ' H', Pv i σ' H' → Same Hb H')
    (hs : ∀ (i : Nat) l t σ H, ls[i]? = some l → SqT K Hb t (lnkV l) → Pv i σ H → tz { D with nx := Pv (i + 1), ct := Pv (i + 1), bk := D.nx } (σ.set j (some (.ref t))) H) (hd : ∀ σ H, Pv ls.length σ H → D.nx σ H) :
    tFor (iList K tl) (gName j) tz D σ H := h _ ⟨a, rfl, ⟨_, hb.seq hx⟩, for_list (xs := xs) Pv h0 (fun i σ H _ p => (hl i σ H p).seq hx) (fun i x σ H hi p => by
      have e := DpAll.len hL
      rw [List.length_map] at e
      have hlt := (List.getElem?_eq_some_iff.mp hi).1
      have hg : ls[i]? = some ls[i] := List.getElem?_eq_getElem (by omega)
      obtain ⟨v, hv, dv⟩ := DpAll.get (i := i) (d := lnkD ls[i]) hL (by
        rw [List.getElem?_map, hg]
        rfl)
      cases hi.symm.trans hv
      obtain ⟨t, rfl, ht⟩ := Dp.lnk_inv dv
      exact hs i _ t σ H hg ht p) (fun σ H p => by
      have e := DpAll.len hL
      rw [List.length_map] at e
      rw [e] at p
      exact hd σ H p)⟩
theorem q_forLk {j : Nat} {Hb : Hp} {xs : List V} {ls : List Lnk} {tl : TE} (h : Vl tl σ H (.ref a)) (hx : SqL K Hb a xs) (hL : DpAll K Hb xs (ls.map lnkD)) (hb : Same Hb H) (Pv : Nat → L2.St → Hp → Prop) (h0 : Pv 0 σ H) (hl : ∀ i σ' H', Pv i σ' H' → Same Hb H')
    (hs : ∀ (i : Nat) l t σ H, ls[i]? = some l → SqT K Hb t (lnkV l) → Pv i σ H → tz { D with nx := Pv (i + 1), ct := Pv (i + 1), bk := tw D } (σ.set j (some (.ref t))) H) (hd : ∀ σ H, Pv ls.length σ H → tw D σ H) :
    tSeq (tFor (iList K tl) (gName j) tz) tw D σ H := g_forLk (D := { D with nx := tw D }) h hx hL hb Pv h0 hl hs hd
/-- a, b, c, d = e, a link -/
theorem q_asgLnk {j1 j2 j3 j4 : Nat} {te : TE} {t : Addr} {l : Lnk} (h : Vl te σ H (.ref t)) (ht : SqT K H t (lnkV l)) (k : tw D ((((σ.set j1 (some (.int l.a))).set j2 (some (.int l.b))).set j3 (some (oV l.t))).set j4 (some (oV l.k))) H) :
    tSeq (tAsg te (gTup K 4 (gCons (gName j1) (gCons (gName j2) (gCons (gName j3) (gCons (gName j4) gNil)))))) tw D σ H := h _ ⟨t, _, rfl, ht, rfl, _, _, rfl, _, _, rfl, _, _, rfl, _, _, rfl, rfl, k⟩
/-- a tuple made in one of two ways -/
theorem if_tup {t : TT} {r1 r2 : TA} {b : Bool} {x1 x2 zs : List V} {Q : VK} (h : An t σ H b) (h1 : Va r1 σ H x1) (h2 : Va r2 σ H x2) (e1 : b = true → x1 = zs) (e2 : b = false → x2 = zs) (hz : zs.length ≤ sizeLine)
    (k : ∀ T, H T = none → Q (.ref T) (upd H T (.tup zs))) : tIf t (tTup r1) (tTup r2) σ H Q := h _ (by
  cases b with
  | true =>
    cases e1 rfl
    exact iteT (h1 _ ⟨hz, k⟩)
  | false =>
    cases e2 rfl
    exact iteF (h2 _ ⟨hz, k⟩))
end
/-! ### errors that leave a def -/
def RaiseTo (E : XK) (H : Hp) (C : Addr) (i : Int) : Prop := ∀ H' d, Same H H' → H' d = some (.xd [("at", .int i)]) → E (.ref C) (some d) H'
theorem RaiseTo.to {E : XK} {H H' : Hp} {C : Addr} {i : Int} (h : RaiseTo E H C i) (s : Same H H') : RaiseTo E H' C i := fun H2 d s2 hd => h H2 d (s.trans s2) hd
theorem raise_now {E : XK} {C : Addr} {i : Int} {ta : TA} {σ : L2.St} {H : Hp} {D : Ends} (h : Va ta σ H [.int i]) (r : RaiseTo E H C i) : tRaiseLow C (fun cls d _ H => E cls d H) ta D σ H := h _ ⟨_, rfl, fun d nd => r _ d (same_upd nd) upd_same⟩
/-- for i, x in enumerate(xs) -/
theorem for_en {K : PySem.W.Frag} {a : Addr} {xs : List V} {g : TG} {tb : TS} {D : Ends} {σ : L2.St} {H : Hp} (Pv : Nat → L2.St → Hp → Prop) (h0 : Pv 0 σ H) (hq : ∀ i σ H, Pv i σ H → SqL K H a xs)
    (hs : ∀ (i : Nat) x T σ H, xs[i]? = some x → Pv i σ H → H T = none → g (.ref T) σ (upd H T (.tup [.int (i : Nat), x])) fun σ2 H2 => tb { D with nx := Pv (i + 1), ct := Pv (i + 1), bk := D.nx } σ2 H2) (hd : ∀ σ H, Pv xs.length σ H → D.nx σ H) :
    ∃ W : Nat → Nat → L2.St → Hp → Prop, (∃ m, W 0 m σ H) ∧ ∀ i m σ H, W i m σ H → ((Ite K a).stop i H ∧ D.nx σ H) ∨
      ((Ite K a).go i H ∧ ∃ N : L2.St → Hp → Prop, (∀ σ' H', N σ' H' → ∃ m', m' < m ∧ W (i + 1) m' σ' H') ∧ ∀ v H', (Ite K a).yld i H v H' → g v σ H' fun σ2 H2 => tb { D with nx := N, ct := N, bk := D.nx } σ2 H2) := by
  refine ⟨fun i m σ H => m + i = xs.length ∧ Pv i σ H, ⟨xs.length, rfl, h0⟩, fun i m σ H hW => ?_⟩
  obtain ⟨em, p⟩ := hW
  have qx := hq i σ H p
  by_cases hlt : i < xs.length
  · refine .inr ⟨⟨xs, xs[i], qx, List.getElem?_eq_getElem hlt⟩, Pv (i + 1), fun σ' H' p' => ⟨m - 1, by omega, by omega, p'⟩, fun v H' yy => ?_⟩
    obtain ⟨T, x', rfl, hT, rfl, f1⟩ := yy
    exact hs i x' T σ H (f1 xs qx) p hT
  · have e : i = xs.length := by omega
    rw [e] at p
    exact .inl ⟨⟨xs, qx, by omega⟩, hd σ H p⟩
theorem take_snoc {α : Type} {xs : List α} {i : Nat} {x : α} (h : xs[i]? = some x) : xs.take (i + 1) = xs.take i ++ [x] := by
  rw [List.take_add_one, h]
  rfl
theorem vl_orV {K : PySem.W.Frag} {σ : L2.St} {H : Hp} {ta tb : TE} {k m : Bool} (h1 : Vl ta σ H (.bl k)) (h2 : k = false → Vl tb σ H (.bl m)) : Vl (tOrV ta tb) σ H (.bl (k || m)) := fun Q q => h1 _ ⟨k, rfl, by
  cases k with
  | true => exact iteT q
  | false => exact iteF (h2 rfl _ q)⟩
/-! ### values with a heap that grows on the way -/
def Ve (te : TE) (σ : L2.St) (H : Hp) (v : V) : Prop := ∀ Q : VK, (∀ H', Same H H' → Q v H') → te σ H Q
section
variable {K : PySem.W.Frag} {σ : L2.St} {H : Hp} {ta tb te tl t0 t1 t2 t3 : TE} {D : Ends} {tw : TS} {v x y z : V} {tt : TT}
theorem ve_of (h : Vl te σ H v) : Ve te σ H v := fun Q q => h Q (q H (Same.refl H))
theorem Ve.is {w : V} (h : Ve te σ H v) (e : v = w) : Ve te σ H w := e ▸ h
theorem q_asgV {i : Nat} (h : Ve te σ H v) (k : ∀ H', Same H H' → tw D (σ.set i (some v)) H') : tSeq (tAsg te (gName i)) tw D σ H := h _ k
theorem g_asgV {i : Nat} (h : Ve te σ H v) (k : ∀ H', Same H H' → D.nx (σ.set i (some v)) H') : tAsg te (gName i) D σ H := h _ k
theorem g_retV (h : Ve te σ H v) (k : ∀ H', Same H H' → D.rt v H') : tRet te D σ H := h _ k
theorem ve_ixNew {xs : List V} {p : Int} (ha : Vn ta σ H xs) (hb : ∀ H', Same H H' → Vl tb σ H' (.int p)) (hg : atI xs p = some z) : Ve (tOp (rIxL K) ta tb) σ H z := fun Q k =>
  ha _ fun a H1 s1 np e => hb H1 s1 _ ⟨a, xs, p, z, rfl, rfl, .of e, hg, k H1 s1⟩
theorem vn_lc {j : Nat} {xs ys : List V} (hl : ∀ Q : VK, (∀ a H1, Same H H1 → SqL K H1 a xs → Q (.ref a) H1) → tl σ H Q) (hxy : xs.length = ys.length) (hz : ys.length ≤ 1000000)
    (he : ∀ (i : Nat) x y H', Same H H' → xs[i]? = some x → ys[i]? = some y → Ve te ((σ.set j none).set j (some x)) H' y) : Vn (tLc (iList K tl) (gName j) tYes te [j]) σ H ys := fun Q q => by
  refine hl _ fun a H1 s1 hx => ⟨a, rfl, ⟨xs, hx⟩, fun D nD => lc_list (xs := xs) (fun i H' => H' D = some (.lst (ys.take i)) ∧ Same H1 H') ⟨upd_same, same_upd nD⟩ (fun i H' _ hP => hP.2.seq hx) (fun i x H2 hi hP => ?_) (fun H2 hP => ?_)⟩
  · obtain ⟨hD, s2⟩ := hP
    have hi2 := (List.getElem?_eq_some_iff.mp hi).1
    have hy : ys[i]? = some ys[i] := List.getElem?_eq_getElem (by omega)
    refine ⟨?_, ?_⟩
    · show ((σ.set j none).set j (some x)).set j none = σ.set j none
      rw [List.set_set, List.set_set]
    · refine iteT (B := H2 D = some (.lst (ys.take (i + 1))) ∧ Same H1 H2) (he i x _ H2 (s1.trans s2) hi hy _ fun H3 s3 => ⟨_, s3 _ _ hD, ?_, ?_, ?_⟩)
      · exact Nat.lt_of_le_of_lt (m := 1000000) (Nat.le_trans (by rw [List.length_take]; exact Nat.min_le_right _ _) hz) (by decide)
      · rw [upd_same, take_snoc hy]
      · exact same_upd' (s2.trans s3) nD
  · obtain ⟨hD, s2⟩ := hP
    rw [hxy, List.take_length] at hD
    exact q D H2 (s1.trans s2) (Same.free s1 nD) hD
theorem vx_list {a : Addr} {xs : List V} (h : Vl tl σ H (.ref a)) (hx : SqL K H a xs) : ∀ Q : VK, (∀ a H1, Same H H1 → SqL K H1 a xs → Q (.ref a) H1) → tl σ H Q := fun Q q => h _ (q a H (Same.refl H) hx)
theorem vx_new {xs : List V} (h : Vn tl σ H xs) : ∀ Q : VK, (∀ a H1, Same H H1 → SqL K H1 a xs → Q (.ref a) H1) → tl σ H Q := fun Q q => h _ fun a H1 s1 _ e => q a H1 s1 (.of e)
end
section
variable {K : PySem.W.Frag} {σ : L2.St} {H : Hp} {te : TE} {D : Ends} {tz tw : TS} {P : Int → Prop}
theorem q_forRI {j : Nat} (h : Vi te σ H P) (hb : ∀ n, P n → -(2 ^ 62) ≤ n ∧ n < 2 ^ 62) (Pv : Nat → L2.St → Hp → Prop) (h0 : Pv 0 σ H)
    (hs : ∀ n, P n → ∀ (i : Nat) σ H, (i : Int) < n → Pv i σ H → tz { D with nx := Pv (i + 1), ct := Pv (i + 1), bk := tw D } (σ.set j (some (.int i))) H) (hd : ∀ n, P n → ∀ σ H, Pv n.toNat σ H → tw D σ H) :
    tSeq (tFor (iRng1 (tCons te tNil)) (gName j) tz) tw D σ H := h _ fun n hn => ⟨n, rfl, (hb n hn).1, (hb n hn).2, for_range (lo := 0) (n := n.toNat) Pv h0 (fun i σ H hi p => by
      show tz _ (σ.set j (some (.int (0 + i)))) H
      rw [Int.zero_add]
      exact hs n hn i σ H (by omega) p) (hd n hn)⟩
end
section
variable {K : PySem.W.Frag} {σ : L2.St} {H : Hp} {ta tb te tl t0 t1 t2 t3 : TE} {D : Ends} {tw : TS} {v x y z : V} {tt : TT}
theorem g_appV {l : Addr} {xs : List V} (ho : Vl ta σ H (.ref l)) (hl : H l = some (.lst xs)) (h : Ve te σ H v) (hz : xs.length < sizeLine) (k : ∀ H', Same H H' → D.nx σ (upd H' l (.lst (xs ++ [v])))) :
    tDrop (tBM K "list" rAppend ta (tCons te tNil)) D σ H := ho _ ⟨.inl ⟨rfl, _, .inl (.inl hl)⟩, h _ fun H' s' => ⟨l, xs, v, rfl, rfl, s' _ _ hl, hz, k H' s'⟩⟩
theorem lc_filter {j : Nat} {xs : List V} {pb : V → Bool} (hj : j < σ.length) (hl : ∀ Q : VK, (∀ a H1, Same H H1 → SqL K H1 a xs → Q (.ref a) H1) → tl σ H Q) (hz : xs.length ≤ 1000000)
    (ht : ∀ x ∈ xs, ∀ H', An tt ((σ.set j none).set j (some x)) H' (pb x)) (Q : VK) (q : ∀ D H' acc, Same H H' → H' D = some (.lst acc) → acc.length = (xs.filter pb).length → Q (.ref D) H') : tLc (iList K tl) (gName j) tt (tVar j) [j] σ H Q := by
  refine hl _ fun a H1 s1 hx => ⟨a, rfl, ⟨xs, hx⟩, fun D nD => lc_list (xs := xs) (fun i H' => ∃ acc, H' D = some (.lst acc) ∧ Same H1 H' ∧ acc.length = ((xs.take i).filter pb).length) ⟨[], upd_same, same_upd nD, rfl⟩ (fun i H' _ hP => hP.choose_spec.2.1.seq hx) (fun i x H2 hi hP => ?_) (fun H2 hP => ?_)⟩
  · obtain ⟨acc, hD, s2, ha⟩ := hP
    have e : (xs.take (i + 1)).filter pb = (xs.take i).filter pb ++ [x].filter pb := by
      rw [take_snoc hi]
      exact List.filter_append ..
    refine ⟨?_, ht x (List.mem_of_getElem? hi) H2 _ ?_⟩
    · show ((σ.set j none).set j (some x)).set j none = σ.set j none
      rw [List.set_set, List.set_set]
    · cases hp : pb x with
      | true =>
        have e2 : [x].filter pb = [x] := by
          rw [List.filter_cons, hp]
          rfl
        refine iteT ⟨x, ?_, acc, hD, ?_, _, upd_same, same_upd' s2 nD, ?_⟩
        · exact List.getElem?_set_self (by
            show j < (σ.set j none).length
            rw [List.length_set]
            exact hj)
        · have h1 : ((xs.take i).filter pb).length ≤ xs.length := Nat.le_trans (List.length_filter_le _ _) (by rw [List.length_take]; exact Nat.min_le_right _ _)
          exact Nat.lt_of_le_of_lt (m := 1000000) (by omega) (by decide)
        · rw [e, e2, List.length_append, List.length_append, ha]
      | false =>
        have e2 : [x].filter pb = [] := by
          rw [List.filter_cons, hp]
          rfl
        refine iteF ⟨acc, hD, s2, ?_⟩
        rw [e, e2, List.append_nil]
        exact ha
  · obtain ⟨acc, hD, s2, ha⟩ := hP
    rw [List.take_length] at ha
    exact q D H2 acc (s1.trans s2) hD ha
theorem vl_inL {a : Addr} {xs : List V} (h : Vl te σ H (.ref a)) (hx : SqL K H a xs) (f1 : flatV x = true) (f2 : xs.all flatV = true) : Vl (tOp (rIn K false) (tC x) te) σ H (.bl (inV x xs)) := vl_op vl_c h fun _ k => ⟨a, xs, rfl, .inl hx, f1, f2, k⟩
theorem flat_o (o : Option Int) : flatV (oV o) = true := by cases o <;> rfl
theorem ax_leLT {a T : Addr} {p q r s : Int} (h : Vl te σ H (.ref a)) (hx : SqL K H a [.int p, .int q]) (hb : ∀ H', Same H H' → Vl tb σ H' (.ref T)) (hT : SqT K H T [.int r, .int s]) :
    Ax (tTest (tOp (rLeT K) (tCB (fun xs H Q => ∃ p ys, xs = [V.ref p] ∧ ((SqL K H p ys ∧ ∀ l, H l = none → Q (.ref l) (upd H l (.tup ys))) ∨ (SqT K H p ys ∧ Q (.ref p) H))) (tCons te tNil)) tb)) σ H (decide (p < r ∨ (p = r ∧ q ≤ s))) := fun Q k =>
  h _ ⟨a, _, rfl, .inl ⟨hx, fun S nS => hb _ (same_upd nS) _ ⟨S, T, [p, q], [r, s], rfl, rfl, .of upd_same, seqT (same_upd nS) hT, _, rfl, by
    rw [lexAt2]
    exact k _ (same_upd nS)⟩⟩⟩
theorem ve_tup4 {v0 v1 v2 v3 : V} (h0 : Ve t0 σ H v0) (h1 : ∀ H', Same H H' → Ve t1 σ H' v1) (h2 : ∀ H', Same H H' → Ve t2 σ H' v2) (h3 : ∀ H', Same H H' → Ve t3 σ H' v3) (Q : VK) (q : ∀ R H', Same H H' → H' R = some (.tup [v0, v1, v2, v3]) → Q (.ref R) H') :
    tTup (tCons t0 (tCons t1 (tCons t2 (tCons t3 tNil)))) σ H Q := h0 _ fun H1 s1 => h1 H1 s1 _ fun H2 s2 => h2 H2 (s1.trans s2) _ fun H3 s3 => h3 H3 ((s1.trans s2).trans s3) _ fun H4 s4 => ⟨by show 4 ≤ sizeLine; decide, fun R nR => q R _ ((((s1.trans s2).trans s3).trans s4).trans (same_upd nR)) upd_same⟩
end
theorem ret_pairE {te : TE} {x : Str} {D : Ends} {σ : L2.St} {H : Hp} (h : te σ H fun v H1 => [V.str x, v].length ≤ sizeLine ∧ ∀ p, H1 p = none → D.rt (.ref p) (upd H1 p (.tup [.str x, v]))) : tRet (tTup (tCons (tC (.str x)) (tCons te tNil))) D σ H := h
theorem nx_of {f : L2.St → Hp → Prop} {a b c} {σ : L2.St} {H : Hp} (h : f σ H) : (Ends.mk f a b c).nx σ H := h
theorem ax_isNV {σ : L2.St} {H : Hp} {te : TE} {v : V} (h : Ve te σ H v) : Ax (tTest (tOp (fun x y H Q => y = V.non ∧ Q (V.bl (decide (x = V.non))) H) te (tC .non))) σ H (decide (v = .non)) := fun Q k => h _ fun H' s' => ⟨rfl, _, rfl, k H' s'⟩
theorem last_get {α : Type} {l : List α} {d : α} (h : l ≠ []) : l[l.length - 1]? = some (l.getLast?.getD d) := by
  rw [List.getLast?_eq_getElem?]
  have : l.length - 1 < l.length := by
    have := List.length_pos_iff.mpr h
    omega
  rw [List.getElem?_eq_getElem this]
  rfl
theorem seqT_but {K : PySem.W.Frag} {H : Hp} {o R : Addr} {ys zs : List V} (h : SqT K H R zs) (ho : H o = some (.lst ys)) : SqT K (but H o) R zs := by
  rcases h with (h | ⟨u, h⟩) | h
  · have ne : R ≠ o := fun z => by
      rw [z, ho] at h
      cases h
    exact .inl (.inl (by rw [but_ne ne]; exact h))
  · have ne : R ≠ o := fun z => by
      rw [z, ho] at h
      cases h
    exact .inl (.inr ⟨u, by rw [but_ne ne]; exact h⟩)
  · exact .inr h
theorem vl_byLow {C a d : Addr} {te : TE} {σ : L2.St} {H : Hp} {v : V} (h : Vl te σ H (.ref a)) (hd : H d = some (.xd [("at", v)])) : Vl (tByLow C a (.ref C) (some d) te) σ H v := fun Q q => h _ ⟨rfl, rfl, d, v, rfl, hd, q⟩
def pairD (x : Str) (d : PyData) : PyData := .tuple [.str x, d]
theorem ret_pair {K : PySem.W.Frag} {σ : L2.St} {H : Hp} {D : Ends} {te : TE} {x : Str} {v : V} {d : PyData} (h : Vl te σ H v) (hd : Dp K H v d) (k : ∀ p H', Same H H' → Dp K H' (.ref p) (pairD x d) → D.rt (.ref p) H') :
    tRet (tTup (tCons (tC (.str x)) (tCons te tNil))) D σ H := h _ ⟨by show 2 ≤ sizeLine; decide, fun p np => k p _ (same_upd np) (.tup (.of upd_same) (.cons (.str x) (.cons (Dp.to hd (same_upd np)) .nil)))⟩
structure Apart (K : PySem.W.Frag) (C C' : Addr) : Prop where
  no : PySem.W.exmOne K (.ref C) (.ref C') = some false
structure NmAt (mg : Str → Option Value) (x : Str) (C : Addr) : Prop where
  gC : mg x = some (.ref C)
theorem lay_net (N : Net) : (netD N).canLay0 = true ∧ (netD N).depth ≤ 3 := by
  have h := lay_lnks N.ls
  constructor
  · show (true && (PyData.canLayAll0 (N.ls.map lnkD) && true)) = true
    rw [h.1]
    rfl
  · show max 0 (max (PyData.depthAll (N.ls.map lnkD) + 1) 0) + 1 ≤ 3
    have := h.2
    omega
theorem shaped_pair {x : Str} {d : PyData} (hx : PyData.canLay0 (.str x) = true) (h : d.canLay0 = true) (h2 : d.depth ≤ 3) : SeqAt.shaped (pairD x d) = true := by
  show ((PyData.canLay0 (.str x) && (d.canLay0 && true)) && decide (max 0 (max d.depth 0) + 1 ≤ 64)) = true
  rw [hx, h, decide_eq_true (by omega)]
  rfl
theorem refl_of {d : PyData} (h : SeqAt.shaped d = true) : PyData.eqv d d = true := SeqAt.eqv_refl _ (Bool.and_eq_true_iff.mp h).1
theorem ax_ne {K : PySem.W.Frag} {σ : L2.St} {H : Hp} {te te2 : TE} {d : PyData} (hd : SeqAt.shaped d = true) (h1 : ∀ Q : VK, (∀ v H', Same H H' → Dp K H' v d → Q v H') → te σ H Q) (h2 : ∀ H', Same H H' → ∀ Q : VK, (∀ v H2, Same H' H2 → Dp K H2 v d → Q v H2) → te2 σ H' Q) :
    Ax (tTest (tOp (rNeD K) te te2)) σ H false := fun Q k => h1 _ fun v H1 s1 d1 => h2 H1 s1 _ fun u H2 s2 d2 => ⟨d, d, Dp.to d1 s2, d2, hd, hd, _, rfl, by
  rw [refl_of hd]
  exact k H2 (s1.trans s2)⟩
theorem ax_neV {σ : L2.St} {H : Hp} {ta tb : TE} {x y : V} (ha : Vl ta σ H x) (hb : Ve tb σ H y) (hs : scal x y = true) : Ax (tTest (tOp rNe ta tb)) σ H (!decide (x = y)) := fun Q k => ha _ (hb _ fun H' s' => ⟨hs, _, rfl, k H' s'⟩)
theorem lay_ints : ∀ ns : List Int, PyData.canLayAll0 (ns.map PyData.int) = true ∧ PyData.depthAll (ns.map PyData.int) = 0
  | [] => ⟨rfl, rfl⟩
  | n :: ns => by
    have h := lay_ints ns
    constructor
    · show (true && PyData.canLayAll0 (ns.map PyData.int)) = true
      rw [h.1]
      rfl
    · show max 0 (PyData.depthAll (ns.map PyData.int)) = 0
      rw [h.2]
      rfl
theorem shaped_ints (ns : List Int) : SeqAt.shaped (.list (ns.map PyData.int)) = true := by
  have h := lay_ints ns
  show (PyData.canLayAll0 (ns.map PyData.int) && decide (PyData.depthAll (ns.map PyData.int) + 1 ≤ 64)) = true
  rw [h.1, h.2]
  rfl
/-! ### heaps with two objects that change -/
def B2 (H : Hp) (o q : Addr) : Hp := but (but H o) q
theorem b2_same {H : Hp} {o q : Addr} : Same (B2 H o q) H := but_same.trans but_same
theorem same_b2 {G H : Hp} {o q : Addr} (s : Same G H) (n : G o = none) (m : G q = none) : Same G (B2 H o q) := same_but (same_but s n) m
theorem b2_mono {H H' : Hp} {o q : Addr} (s : Same H H') : Same (B2 H o q) (B2 H' o q) := but_mono (but_mono s)
theorem b2_upd1 {H : Hp} {o q : Addr} {u : HO} : B2 (upd H o u) o q = B2 H o q := by
  unfold B2
  rw [but_upd]
theorem b2_upd2 {H : Hp} {o q : Addr} {u : HO} : B2 (upd H q u) o q = B2 H o q := by
  funext b
  unfold B2
  by_cases h : b = q
  · rw [h, but_at, but_at]
  · rw [but_ne h, but_ne h]
    by_cases h2 : b = o
    · rw [h2, but_at, but_at]
    · rw [but_ne h2, but_ne h2, upd_ne h]
theorem b2_get {H : Hp} {o q a : Addr} {u : HO} (h : H a = some u) (h1 : a ≠ o) (h2 : a ≠ q) : B2 H o q a = some u := by
  unfold B2
  rw [but_ne h2, but_ne h1]
  exact h
/-! ### comprehensions over ints -/
section
variable {K : PySem.W.Frag} {σ : L2.St} {H : Hp} {ta tb te tl td ty tv : TE} {tr : TA} {D : Ends} {tw : TS} {tt : TT} {v : V}
theorem an_yes : An tYes σ H true := fun _ q => q
theorem vn_lcI {j : Nat} {ns : List Int} {pb : Int → Bool} {f : Int → V} (hl : ∀ Q : VK, (∀ a H1, Same H H1 → SqL K H1 a (ns.map V.int) → Q (.ref a) H1) → tl σ H Q) (hz : ns.length ≤ 1000000)
    (ht : ∀ x ∈ ns, ∀ H', Same H H' → An tt ((σ.set j none).set j (some (.int x))) H' (pb x)) (he : ∀ x ∈ ns, ∀ H', Same H H' → Vl te ((σ.set j none).set j (some (.int x))) H' (f x)) :
    Vn (tLc (iList K tl) (gName j) tt te [j]) σ H ((ns.filter pb).map f) := fun Q q => by
  refine hl _ fun a H1 s1 hx => ⟨a, rfl, ⟨_, hx⟩, fun D nD => lc_list (xs := ns.map V.int) (fun i H' => H' D = some (.lst (((ns.take i).filter pb).map f)) ∧ Same H1 H') ⟨upd_same, same_upd nD⟩ (fun i H' _ hP => hP.2.seq hx) (fun i x H2 hi hP => ?_) (fun H2 hP => ?_)⟩
  · obtain ⟨hD, s2⟩ := hP
    rw [List.getElem?_map] at hi
    cases hg : ns[i]? with
    | none =>
      rw [hg] at hi
      cases hi
    | some n =>
      rw [hg] at hi
      cases hi
      have hm := List.mem_of_getElem? hg
      have e : (ns.take (i + 1)).filter pb = (ns.take i).filter pb ++ [n].filter pb := by
        rw [take_snoc hg]
        exact List.filter_append ..
      refine ⟨?_, ht n hm H2 (s1.trans s2) _ ?_⟩
      · show ((σ.set j none).set j (some (V.int n))).set j none = σ.set j none
        rw [List.set_set, List.set_set]
      · cases hp : pb n with
        | true =>
          have e2 : [n].filter pb = [n] := by
            rw [List.filter_cons, hp]
            rfl
          refine iteT (B := H2 D = some (.lst (((ns.take (i + 1)).filter pb).map f)) ∧ Same H1 H2) (he n hm H2 (s1.trans s2) _ ⟨_, hD, ?_, ?_, same_upd' s2 nD⟩)
          · rw [List.length_map]
            have h1 : ((ns.take i).filter pb).length ≤ ns.length := Nat.le_trans (List.length_filter_le _ _) (by rw [List.length_take]; exact Nat.min_le_right _ _)
            exact Nat.lt_of_le_of_lt (m := 1000000) (by omega) (by decide)
          · rw [upd_same, e, e2, List.map_append]
            rfl
        | false =>
          have e2 : [n].filter pb = [] := by
            rw [List.filter_cons, hp]
            rfl
          refine iteF ⟨?_, s2⟩
          rw [e, e2, List.append_nil]
          exact hD
  · obtain ⟨hD, s2⟩ := hP
    rw [List.length_map, List.take_length] at hD
    exact q D H2 (s1.trans s2) (Same.free s1 nD) hD
theorem vn_lcR {j : Nat} {n : Int} {pb : Int → Bool} {f : Int → V} (hl : Va tr σ H [.int n]) (h0 : 0 ≤ n) (hz : n ≤ 1000000)
    (ht : ∀ x : Int, 0 ≤ x → x < n → ∀ H', Same H H' → An tt ((σ.set j none).set j (some (.int x))) H' (pb x)) (he : ∀ x : Int, 0 ≤ x → x < n → ∀ H', Same H H' → Vl te ((σ.set j none).set j (some (.int x))) H' (f x)) :
    Vn (tLc (iRng1 tr) (gName j) tt te [j]) σ H (((((List.range n.toNat).map fun (i : Nat) => (i : Int))).filter pb).map f) := fun Q q => by
  refine hl _ ⟨n, rfl, by omega, by omega, fun D nD => lc_range (lo := 0) (n := n.toNat) (fun i H' => H' D = some (.lst ((((List.range i).map fun (i : Nat) => (i : Int)).filter pb).map f)) ∧ Same H H') ⟨upd_same, same_upd nD⟩ (fun i H2 hi hP => ?_) (fun H2 hP => ?_)⟩
  · obtain ⟨hD, s2⟩ := hP
    have e : (((List.range (i + 1)).map fun (i : Nat) => (i : Int)).filter pb) = ((List.range i).map fun (i : Nat) => (i : Int)).filter pb ++ [(i : Int)].filter pb := by
      rw [List.range_succ, List.map_append]
      exact List.filter_append ..
    rw [Int.zero_add]
    refine ⟨?_, ht i (by omega) (by omega) H2 s2 _ ?_⟩
    · show ((σ.set j none).set j (some (V.int i))).set j none = σ.set j none
      rw [List.set_set, List.set_set]
    · cases hp : pb (i : Int) with
      | true =>
        have e2 : [(i : Int)].filter pb = [(i : Int)] := by
          rw [List.filter_cons, hp]
          rfl
        refine iteT (B := H2 D = some (.lst ((((List.range (i + 1)).map fun (i : Nat) => (i : Int)).filter pb).map f)) ∧ Same H H2) (he i (by omega) (by omega) H2 s2 _ ⟨_, hD, ?_, ?_, same_upd' s2 nD⟩)
        · rw [List.length_map]
          have h1 : (((List.range i).map fun (i : Nat) => (i : Int)).filter pb).length ≤ i := Nat.le_trans (List.length_filter_le _ _) (by rw [List.length_map, List.length_range]; exact Nat.le_refl _)
          exact Nat.lt_of_le_of_lt (m := 1000000) (by omega) (by decide)
        · rw [upd_same, e, e2, List.map_append]
          rfl
      | false =>
        have e2 : [(i : Int)].filter pb = [] := by
          rw [List.filter_cons, hp]
          rfl
        refine iteF ⟨?_, s2⟩
        rw [e, e2, List.append_nil]
        exact hD
  · obtain ⟨hD, s2⟩ := hP
    exact q D H2 s2 nD hD
/-! ### dicts by ints -/
theorem vl_dgetI {o : Addr} {p : Int} {kvs : List (Key × V)} (ho : Vl td σ H (.ref o)) (hk : Vl ty σ H (.int p)) (hd : H o = some (.dK kvs)) (hv : valV kvs (.inl p) = some v) : Vl (tDGet td ty) σ H v := fun Q q => ho _ (hk _ ⟨o, v, rfl, by
  rw [← hv]
  exact DGet.k (k := .inl p) hd, q⟩)
theorem q_dnewK {i : Nat} (k : ∀ p, H p = none → tw D (σ.set i (some (.ref p))) (upd H p (.dK []))) : tSeq (tAsg tDNewK (gName i)) tw D σ H := k
theorem g_dputN {o : Addr} {p : Int} {kvs : List (Key × V)} {xs : List V} (hv : Vn tv σ H xs) (ho : ∀ H', Same H H' → Vl td σ H' (.ref o)) (hk : ∀ H', Same H H' → Vl ty σ H' (.int p)) (hd : H o = some (.dK kvs)) (hl : kvs.length < sizeLine)
    (k : ∀ a H', Same H H' → H a = none → H' a = some (.lst xs) → D.nx σ (upd H' o (.dK (putK kvs (.inl p) (.ref a))))) : sDPut td ty tv D σ H := hv _ fun a H' s' na ea => ho H' s' _ (hk H' s' _ ⟨o, _, rfl, DPut.k (k := .inl p) (s' _ _ hd) hl, k a H' s' na ea⟩)
theorem g_dputV {o : Addr} {p : Int} {kvs : List (Key × V)} (hv : Vl tv σ H v) (ho : Vl td σ H (.ref o)) (hk : Vl ty σ H (.int p)) (hd : H o = some (.dK kvs)) (hl : kvs.length < sizeLine)
    (k : D.nx σ (upd H o (.dK (putK kvs (.inl p) v)))) : sDPut td ty tv D σ H := hv _ (ho _ (hk _ ⟨o, _, rfl, DPut.k (k := .inl p) hd hl, k⟩))
end
theorem hu_of {k : Nat} {A : Around} (r : Room k A) : A.units + 1 < cLine := by
  have := r.units
  omega
theorem dI {i j : Int} : decide (V.int i = V.int j) = decide (i = j) := by
  rw [Bool.eq_iff_iff, decide_eq_true_eq, decide_eq_true_eq]
  exact ⟨fun z => V.int.inj z, fun z => by rw [z]⟩
theorem vn_catV {K : PySem.W.Frag} {σ : L2.St} {H : Hp} {ta tb : TE} {a : Addr} {xs ys : List V} (ha : Vn ta σ H xs) (hb : ∀ H', Same H H' → Vl tb σ H' (.ref a)) (hA : H a = some (.lst ys)) (hz : xs.length + ys.length ≤ sizeLine) : Vn (tOp rCat ta tb) σ H (xs ++ ys) := fun Q q => ha _ fun p H1 s1 np hp => hb H1 s1 _
  ⟨p, a, xs, ys, rfl, rfl, hp, s1 _ _ hA, hz, fun t nt => q t _ (s1.trans (same_upd nt)) (Same.free s1 nt) upd_same⟩
theorem putK_len {κ : Type} [DecidableEq κ] {kvs : List (κ × V)} {k : κ} {v : V} (h : (valV kvs k).isSome = true) : (putK kvs k v).length = kvs.length := by
  unfold putK
  rw [valV_any, if_pos h, List.length_map]
/-! ### a law's own def, called from without: nothing is being shown there -/
structure FnG (P : Program) (w : World) (K : PySem.W.Frag) (mg : Str → Option Value) (base : Heap) (f : Addr) (fd : FuncData) (ps : List Str) (sp : Sp) : Prop where
  go : ∀ (s : Shared) (H : Hp) (us : List Value) (vs : List V) (Q : VK) (E : XK), Env0 P w K mg base callerA [] s H → BindsTo s fd ⟨us, []⟩ (ps.zip us) → Vals vs us → sp vs H Q E → codeAny (model P w) callerA (.call (.ref f) ⟨us, []⟩) (CR CX0 [] P w H s Q E) s
section
variable {P : Program} {w : World} {K : PySem.W.Frag} {mg : Str → Option Value} {base : Heap}
theorem okG {x qual : Str} {st : Stmt} {f : Addr} {fd : FuncData} {N ps : List Str} {k : Nat} {sp : Sp} (F : Fun K x qual st f fd) (S : FnScope N ps (defScope st)) (room : Room (k + 1) callerA) (count : ∀ vs H Q E, sp vs H Q E → vs.length = ps.length)
    (body : ∀ (cdv : Value) (s : Shared) (H : Hp) (vs : List V) (Q : VK) (E : XK), Room k (callerA.deeper (envOfC qual (defScope st) s.heap.objs.size f cdv)) → sp vs H Q E →
      ∃ t, PSs (cxOf CX0 P w K mg base N qual (defScope st) f cdv callerA [] s H E).nox (defBody st) t ∧ t { nx := fun _ H' => Q .non H', rt := Q } (start N vs) H) : FnG P w K mg base f fd ps sp := by
  obtain ⟨oc, od, kV, doc, pm, an, cdv, ct, osl, efd, look, code⟩ := F.ex
  subst efd
  refine ⟨fun s H us vs Q E env bnd rel want => ?_⟩
  have old : ∀ b o, base.get? b = some o → s.heap.get? b = some o := fun b o e => (env.bs b o e).1
  have kin : K.In s.heap := env.mod.kin.keeps old
  have lims : s.heap.NoLimit := env.mod.nolimit.keeps old
  refine codeAny_call_function room.depth (kin _ _ look) rfl S.co S.gen rfl (PySem.W.codeRec_of kin code) (bnd _ _ _ _ ?_)
  refine wpAny_newFunctionEnv_cells S.kind (fun y hy => ?_) fun fresh same s1 made => ?_
  · obtain ⟨n, v⟩ := y
    cases S.par n (List.of_mem_zip hy).1 with
    | inl q => exact .inl q
    | inr q => exact .inr ⟨q, PySem.W.cellsFrom_some _ _ _ (.inl q)⟩
  cases same
  refine ⟨lims.keeps made.toInCall.keep, codeAny_func ?_⟩
  obtain ⟨t, prog, ends⟩ := body cdv s H vs Q E (room.deeper _) want
  have inv : Inv (cxOf CX0 P w K mg base N qual (defScope st) f cdv callerA [] s H E) [] (start N vs) H s1 := inv_start S room.hd env (count _ _ _ _ want) rel made
  refine wpAny_mono (prog.nox.run [] s1 (start N vs) H _ inv ends) (fun fl s2 got => ?_) fun e s2 got => got
  cases fl with
  | ret u => exact let ⟨v, _, H2, J, rv, q⟩ := got; ⟨v, H2, J.os, J.bare, J.base, J.hok, rv, q⟩
  | next => exact let ⟨_, H2, J, q⟩ := got; ⟨V.non, H2, J.os, J.bare, J.base, J.hok, rfl, q⟩
  | brk => exact let ⟨_, _, _, q⟩ := got; False.elim q
  | cont => exact let ⟨_, _, _, q⟩ := got; False.elim q
variable {mb : Str → Option Value} {fa a : Addr} {fd : FuncData} {x : Str} {sp : Sp} {s1 : Shared} {vs : List Value} {ns : List Int}
abbrev scr (vs : List Value) : Obj := { cls := .type "list", data := .seq vs.toArray }
/-- from a heap in which at most the script is told -/
theorem runG_core (kin : K.In s1.heap) (gl : s1.heap.Ns mainGlobals mg) (bl : s1.heap.Ns builtinsNs mb) (bo : ∀ x : Str, x ≠ "__name__" → mb x = bootBuiltins x) (lim : s1.heap.NoLimit) (gen : s1.gens = #[]) (ha : s1.heap.get? a = some (scr vs))
    (F : ∀ base : Heap, K.In base → base.Ns mainGlobals mg → FnG P w K mg base fa fd [x] sp) (bind : ∀ (s : Shared) (u : Value), BindsTo s fd ⟨[u], []⟩ [(x, u)]) {H : Hp} (only : Only H) (want : sp [.ref a] H (fun v _ => v = .bl true) fun _ _ _ => False) (hok : HOk P w H s1.heap)
    (alone : ∀ b, H b ≠ none → b = a) (free : H a ≠ none → K.lookup a = none) :
    codeAny (model P w) callerA (.call (.ref fa) ⟨[.ref a], []⟩) (fun r s' => r = .ok (.ret (.bool true)) ∧ OldK s1.heap s'.heap ∧ s'.os = s1.os ∧ AllBare s'.gens) s1 := by
  have none_of : ∀ {b : Addr} {o : Obj}, s1.heap.get? b = some o → (b = a → H a ≠ none → False) → (hidT s1.heap H).get? b = some o := fun {b o} e no => hidT_get e (by
    cases q : H b with
    | none => rfl
    | some u =>
      have n : H b ≠ none := by rw [q]; exact fun z => nomatch z
      have eb := alone b n
      subst eb
      exact (no rfl n).elim)
  have names : ∀ {b : Addr} {m : Str → Option Value}, s1.heap.Ns b m → (hidT s1.heap H).Ns b m := fun {b m} ⟨o, es, ep, e, d, r⟩ => ⟨o, es, ep, none_of e (fun eb _ => by
    subst eb
    rw [ha] at e
    cases e
    have d : Data.seq vs.toArray _ = Data.dict es ep := d
    cases d), d, r⟩
  have kin2 : K.In (hidT s1.heap H) := fun b o e => none_of (kin b o e) fun eb n => by
    subst eb
    rw [free n] at e
    cases e
  have mod : Mod K mg (hidT s1.heap H) := ⟨kin2, names gl, ⟨mb, names bl, bo⟩, let ⟨mc, h1, h2⟩ := lim; ⟨mc, names h1, h2⟩⟩
  have env : Env0 P w K mg (hidT s1.heap H) callerA [] s1 H := ⟨rfl, mod, fun b o e => of_hidT e, Nat.le_of_eq (hidT_size _ _), trivial, fun b hb => (nomatch (show b ∈ ([] : List Addr) from hb)), hok, .of_eq gen⟩
  refine codeAny_mono ((F _ kin2 (names gl)).go s1 H [.ref a] [.ref a] _ _ env (bind s1 (.ref a)) (.cons rfl .nil) want) fun r s2 got => ?_
  match r, got with
  | .ok (.ret u), got =>
    obtain ⟨v, H2, os, bare, un, hok2, rel, q⟩ := got
    have q : v = .bl true := q
    cases q
    have rel : u = Value.bool true := rel
    cases rel
    refine ⟨rfl, OldK.of_keep fun b o e => ?_, os, bare⟩
    rcases only b with z | ⟨ob, xs, z⟩
    · exact un.keep b o e z (fun m => (nomatch (show b ∈ ([] : List Addr) from m))) (fun m => (nomatch m))
    · obtain ⟨e1, _⟩ := hok b _ z
      obtain ⟨e2, _⟩ := hok2 b _ (un.frzs b ob _ z)
      rw [e] at e1
      cases e1
      exact e2
theorem runG (kin : K.In s1.heap) (gl : s1.heap.Ns mainGlobals mg) (bl : s1.heap.Ns builtinsNs mb) (bo : ∀ x : Str, x ≠ "__name__" → mb x = bootBuiltins x) (lim : s1.heap.NoLimit) (gen : s1.gens = #[]) (ha : s1.heap.get? a = some (scr vs)) (hin : IntsAre vs ns) (hl : ns.length ≤ sizeLine)
    (F : ∀ base : Heap, K.In base → base.Ns mainGlobals mg → FnG P w K mg base fa fd [x] sp) (bind : ∀ (s : Shared) (u : Value), BindsTo s fd ⟨[u], []⟩ [(x, u)]) (want : ∀ H : Hp, Only H → SqL K H a (ns.map V.int) → sp [.ref a] H (fun v _ => v = .bl true) fun _ _ _ => False) :
    codeAny (model P w) callerA (.call (.ref fa) ⟨[.ref a], []⟩) (fun r s' => r = .ok (.ret (.bool true)) ∧ OldK s1.heap s'.heap ∧ s'.os = s1.os ∧ AllBare s'.gens) s1 := by
  have rel := vals_ints hin
  have size : vs.toArray.size ≤ sizeLine := by
    rw [List.size_toArray, hin.length]
    exact hl
  cases hk : K.lookup a with
  | some o =>
    have e := (kin a o hk).symm.trans ha
    cases e
    have only : Only (fun _ : Addr => (none : Option HO)) := fun _ => .inl rfl
    exact runG_core kin gl bl bo lim gen ha F bind only (want _ only (.inr ⟨_, vs.toArray, _, hk, rfl, rfl, rfl, size, by simpa using rel⟩)) (fun b u z => (nomatch (show (none : Option HO) = some u from z))) (fun b z => absurd rfl z) fun z => absurd rfl z
  | none =>
    let H : Hp := fun b => if b = a then some (.frz (scr vs) (.lst (ns.map V.int))) else none
    have at_ : H a = some (.frz (scr vs) (.lst (ns.map V.int))) := if_pos rfl
    have off : ∀ b, b ≠ a → H b = none := fun b hb => if_neg hb
    have only : Only H := fun b => by
      by_cases hb : b = a
      · subst hb
        exact .inr ⟨_, _, at_⟩
      · exact .inl (off b hb)
    refine runG_core kin gl bl bo lim gen ha F bind only (want _ only (.inl (.inr ⟨scr vs, at_⟩))) (fun b u z => ?_) (fun b z => ?_) fun _ => hk
    · by_cases hb : b = a
      · subst hb
        cases at_.symm.trans z
        exact ⟨ha, by rw [List.length_map]; exact hl, vs, _, rel, ha⟩
      · cases (off b hb).symm.trans z
    · by_cases hb : b = a
      · exact hb
      · exact absurd (off b hb) z
end
/-- the head -/
theorem walkG {l : PySem.W.OpenLaw} {n : Nat} {q : Program} {loose : List Str} {XP : (Str → Option Value) → Heap → Prop} {YP : World → Heap → Prop} {d : DefRec} {K : Params → PySem.W.Frag} {sp : World → Sp} {x : Str} (hn : l.most = some n) (hn2 : n ≤ sizeLine) (hdf : d.params.defaults = []) (hY : ∀ (w : World) (h : Heap), YP w h → (K w.params).In h)
    (F : ∀ (w : World) (mg : Str → Option Value) (fa : Addr) (h : Heap), (K w.params).In h → h.Ns mainGlobals mg → mg d.name = some (.ref fa) → ∃ fd : FuncData, (∀ (s : Shared) (u : Value), BindsTo s fd ⟨[u], []⟩ [(x, u)]) ∧ ∀ base : Heap, (K w.params).In base → base.Ns mainGlobals mg → FnG l.prog w (K w.params) mg base fa fd [x] (sp w))
    (want : ∀ (w : World) (H : Hp) (a : Addr) (ns : List Int), ns.length ≤ n → Only H → SqL (K w.params) H a (ns.map V.int) → sp w [.ref a] H (fun v _ => v = .bl true) fun _ _ _ => False) : PySem.W.WalkO q loose XP YP l.row.toRowW d [] (fun f vs => PySem.call f vs) :=
  Att.attach_call hn hdf fun w s₀ s₁ mg mb fa o pm cd doc a vs ns G Y ho hd hcd hmg hobj hints hlen hg => by
    obtain ⟨fd, bnd, fn⟩ := F w mg fa _ (hY w _ Y) G.T.g hmg
    exact runG (hY w _ Y) G.T.g G.T.b G.T.builtins G.T.nolimit hg hobj hints (Nat.le_trans hlen hn2) fn bnd fun H o q => want w H a ns hlen o q
/-! ### repr of data -/
def rRepr (K : PySem.W.Frag) : List V → Hp → VK → Prop := fun xs H Q => ∃ a d, xs = [.ref a] ∧ Dp K H (.ref a) d ∧ d.showable = true ∧ d.hasDict = false ∧ d.depth ≤ 60 ∧ d.shown.length ≤ sizeLine ∧ Q (.str d.shown) H
theorem call_reprD {X : Cx} (hg : X.A.guards = some []) (hu : X.A.units + 64 < cLine) : CallR X (.builtin "repr") (rRepr X.K) := by
  intro pins s σ H xs us Q I r h
  obtain ⟨a, d, rfl, hd, sh, nd, dep, len, q⟩ := h
  obtain ⟨u, rfl, e⟩ := vals1 r
  cases e
  obtain ⟨as, rd⟩ := Dp.reads I d _ _ hd rfl
  exact repr_of_reads' rd sh (PyData.noDict_hsm nd) hg (by omega) (fun _ _ e => e) (fun h' u tk keep => ⟨.str d.shown, H, I.kept keep, ⟨u, rfl⟩, q⟩) len
theorem ve_repr {K : PySem.W.Frag} {σ : L2.St} {H : Hp} {tr : TA} {xs : List V} {d : PyData} (h : Va tr σ H xs) (hz : xs.length ≤ sizeLine) (hd : ∀ T H', Same H H' → H' T = some (.tup xs) → Dp K H' (.ref T) d) (h1 : d.showable = true) (h2 : d.hasDict = false) (h3 : d.depth ≤ 60) (h4 : d.shown.length ≤ sizeLine) :
    Ve (tCB (rRepr K) (tCons (tTup tr) tNil)) σ H (.str d.shown) := fun Q q => h _ ⟨hz, fun T nT => ⟨T, d, rfl, hd T _ (same_upd nT) upd_same, h1, h2, h3, h4, q _ (same_upd nT)⟩⟩
theorem ve_repr1 {K : PySem.W.Frag} {σ : L2.St} {H : Hp} {te : TE} {a : Addr} {d : PyData} (h : Vl te σ H (.ref a)) (hd : Dp K H (.ref a) d) (h1 : d.showable = true) (h2 : d.hasDict = false) (h3 : d.depth ≤ 60) (h4 : d.shown.length ≤ sizeLine) :
    Ve (tCB (rRepr K) (tCons te tNil)) σ H (.str d.shown) := fun Q q => h _ ⟨a, d, rfl, hd, h1, h2, h3, h4, q _ (Same.refl _)⟩
/-! ### orders -/
def rng (n : Int) : List Int := (List.range n.toNat).map fun (i : Nat) => (i : Int)
def OrdOk (n : Int) (os : List Int) : Prop := os.Perm (rng n)
theorem mem_rng {n x : Int} : x ∈ rng n ↔ 0 ≤ x ∧ x < n := by
  unfold rng
  rw [List.mem_map]
  constructor
  · rintro ⟨i, hi, rfl⟩
    rw [List.mem_range] at hi
    omega
  · intro h
    exact ⟨x.toNat, List.mem_range.mpr (by omega), by omega⟩
theorem len_rng {n : Int} : (rng n).length = n.toNat := by
  unfold rng
  rw [List.length_map, List.length_range]
theorem nodup_rng {n : Int} : (rng n).Nodup := by
  unfold rng
  show List.Pairwise (· ≠ ·) _
  rw [List.pairwise_map]
  exact List.Pairwise.imp (fun h z => h (Int.ofNat.inj z)) List.nodup_range
theorem rng_succ (i : Nat) : rng ((i + 1 : Nat) : Int) = rng (i : Nat) ++ [(i : Int)] := by
  unfold rng
  rw [Int.toNat_natCast, Int.toNat_natCast, List.range_succ, List.map_append]
  rfl
theorem OrdOk.mem {n x : Int} {os : List Int} (h : OrdOk n os) : x ∈ os ↔ 0 ≤ x ∧ x < n := (h.mem_iff).trans mem_rng
theorem OrdOk.nodup {n : Int} {os : List Int} (h : OrdOk n os) : os.Nodup := (List.Perm.nodup_iff h).mpr nodup_rng
theorem OrdOk.len {n : Int} {os : List Int} (h : OrdOk n os) : os.length = n.toNat := (List.Perm.length_eq h).trans len_rng
theorem perm_of_sub : ∀ (xs ys : List Int), xs.Nodup → (∀ x ∈ xs, x ∈ ys) → ys.length ≤ xs.length → xs.Perm ys
  | [], ys, _, _, hl => by
    rw [List.eq_nil_of_length_eq_zero (Nat.le_zero.mp hl)]
  | x :: xs, ys, hn, hs, hl => by
    have hx := hs x List.mem_cons_self
    have hn := List.nodup_cons.mp hn
    have e := List.length_erase_of_mem hx
    have h := perm_of_sub xs (ys.erase x) hn.2 (fun y hy => (List.mem_erase_of_ne (fun z => hn.1 (by rw [← z]; exact hy))).mpr (hs y (List.mem_cons_of_mem _ hy))) (by
      rw [e]
      rw [List.length_cons] at hl
      omega)
    exact (h.cons x).trans (List.perm_cons_erase hx).symm
theorem ord_of {n : Int} {os : List Int} (hn : os.Nodup) (hm : ∀ x ∈ os, 0 ≤ x ∧ x < n) (hl : os.length = n.toNat) : OrdOk n os :=
  perm_of_sub _ _ hn (fun x hx => mem_rng.mpr (hm x hx)) (by rw [len_rng, hl]; exact Nat.le_refl _)
section
variable {K : PySem.W.Frag} {σ : L2.St} {H : Hp} {ta tb te : TE} {D : Ends} {tw : TS} {xs : List V}
theorem g_asgN {i : Nat} (h : Vn te σ H xs) (k : ∀ p H', Same H H' → H p = none → H' p = some (.lst xs) → D.nx (σ.set i (some (.ref p))) H') : tAsg te (gName i) D σ H := h _ k
/-- slices and sums of lists of ints -/
theorem vn_toI {ns : List Int} {a : Addr} {j : Nat} (h : Vl te σ H (.ref a)) (hj : Vl tb σ H (.int (j : Nat))) (hx : SqL K H a (ns.map V.int)) (hl : j ≤ ns.length) : Vn (tSl (rSlL K) te tNoPart (tPart tb)) σ H ((ns.take j).map V.int) := by
  have e : cutV (ns.map V.int) none (some ((j : Nat) : Int)) = (ns.take j).map V.int := by
    rw [cut_to (by rw [List.length_map]; exact hl), List.map_take]
  rw [← e]
  exact vn_slice h (fun _ q => q) (fun Q q => hj _ ⟨_, rfl, q⟩) hx
theorem vn_fromI {ns : List Int} {a : Addr} {j : Nat} (h : Vl te σ H (.ref a)) (hj : Vl tb σ H (.int (j : Nat))) (hx : SqL K H a (ns.map V.int)) (hl : j ≤ ns.length) : Vn (tSl (rSlL K) te (tPart tb) tNoPart) σ H ((ns.drop j).map V.int) := by
  have e : cutV (ns.map V.int) (some ((j : Nat) : Int)) none = (ns.drop j).map V.int := by
    rw [cut_from (by rw [List.length_map]; exact hl), List.map_drop]
  rw [← e]
  exact vn_slice h (fun Q q => hj _ ⟨_, rfl, q⟩) (fun _ q => q) hx
theorem vn_oneI {n : Int} (h : Vl te σ H (.int n)) : Vn (tLst (tCons te tNil)) σ H (([n] : List Int).map V.int) := vn_lst (va_cons h va_nil) (by show 1 ≤ sizeLine; decide)
theorem vn_catI {ms ns : List Int} (ha : Vn ta σ H (ms.map V.int)) (hb : ∀ H', Same H H' → Vn tb σ H' (ns.map V.int)) (hz : ms.length + ns.length ≤ 1000000) : Vn (tOp rCat ta tb) σ H ((ms ++ ns).map V.int) := by
  rw [List.map_append]
  exact vn_cat ha hb (by
    rw [List.length_map, List.length_map]
    exact Nat.le_trans hz (by decide))
theorem inV_int {x : Int} {ns : List Int} : inV (.int x) (ns.map V.int) = decide (x ∈ ns) := by
  unfold inV
  induction ns with
  | nil => rfl
  | cons n r ih =>
    rw [List.map_cons, List.any_cons, ih]
    show ((n == x) || decide (x ∈ r)) = _
    rw [Bool.eq_iff_iff, Bool.or_eq_true, beq_iff_eq, decide_eq_true_eq, decide_eq_true_eq, List.mem_cons]
    constructor
    · rintro (h | h)
      · exact .inl h.symm
      · exact .inr h
    · rintro (h | h)
      · exact .inl h.symm
      · exact .inr h
theorem flat_ints (ns : List Int) : (ns.map V.int).all flatV = true := by
  rw [List.all_map, List.all_eq_true]
  intro x _
  rfl
theorem vl_inI {a : Addr} {x : Int} {ns : List Int} (ha : Vl ta σ H (.int x)) (h : Vl te σ H (.ref a)) (hx : SqL K H a (ns.map V.int)) : Vl (tOp (rIn K false) ta te) σ H (.bl (decide (x ∈ ns))) := vl_op ha h fun _ k => ⟨a, _, rfl, .inl hx, rfl, flat_ints ns, by
  rw [inV_int]
  exact k⟩
theorem vl_notInI {a : Addr} {x : Int} {ns : List Int} (ha : Vl ta σ H (.int x)) (h : Vl te σ H (.ref a)) (hx : SqL K H a (ns.map V.int)) : Vl (tOp (rIn K true) ta te) σ H (.bl (!decide (x ∈ ns))) := vl_op ha h fun _ k => ⟨a, _, rfl, .inl hx, rfl, flat_ints ns, by
  rw [inV_int]
  exact k⟩
theorem vl_ixI {a : Addr} {ns : List Int} {j : Nat} {x : Int} (ha : Vl ta σ H (.ref a)) (hb : Vl tb σ H (.int (j : Nat))) (h : SqL K H a (ns.map V.int)) (hg : ns[j]? = some x) : Vl (tOp (rIxL K) ta tb) σ H (.int x) := vl_ixL ha hb h (atI_nat (by
  rw [List.getElem?_map, hg]
  rfl))
theorem vl_lenI {a : Addr} {ns : List Int} (ha : Vl ta σ H (.ref a)) (h : SqL K H a (ns.map V.int)) : Vl (tCB (fun xs H Q => ∃ p ys, xs = [V.ref p] ∧ (SqL K H p ys ∨ SqT K H p ys) ∧ Q (V.int ys.length) H) (tCons ta tNil)) σ H (.int ns.length) := (vl_lenL ha h).is (by rw [List.length_map])
end
section
variable {K : PySem.W.Frag} {σ : L2.St} {H : Hp} {ta tb te : TE} {b k m : Bool}
theorem vn_catL {a : Addr} {ms ns : List Int} (ha : Vl ta σ H (.ref a)) (hA : H a = some (.lst (ms.map V.int))) (hb : Vn tb σ H (ns.map V.int)) (hz : ms.length + ns.length ≤ 1000000) : Vn (tOp rCat ta tb) σ H ((ms ++ ns).map V.int) := fun Q q =>
  ha _ (hb _ fun p H1 s1 np hp => ⟨a, p, _, _, rfl, rfl, s1 _ _ hA, hp, by
    rw [List.length_map, List.length_map]
    exact Nat.le_trans hz (by decide), fun t nt => by
    rw [← List.map_append]
    exact q t _ (s1.trans (same_upd nt)) (Same.free s1 nt) upd_same⟩)
theorem vn_lstRg {n : Int} (h : Vl ta σ H (.int n)) (h0 : 0 ≤ n) (h1 : n ≤ 1000000) : Vn (tLstRg (tRg1 ta)) σ H ((rng n).map V.int) := fun Q q => h _ ⟨n, rfl, RgOk.of_le (by omega) (by omega) (by omega) h0, fun p np => by
  have e : rgV 0 n = (rng n).map V.int := by
    unfold rgV rng
    rw [List.map_map, Int.sub_zero]
    exact List.map_congr_left fun i _ => by
      rw [Int.zero_add]
      rfl
  rw [e]
  exact q p _ (same_upd np) np upd_same⟩
theorem vl_andV (h1 : Vl ta σ H (.bl k)) (h2 : k = true → Vl tb σ H (.bl m)) : Vl (tAndV ta tb) σ H (.bl (k && m)) := fun Q q => h1 _ ⟨k, rfl, by
  cases k with
  | true => exact iteT (h2 rfl _ q)
  | false => exact iteF q⟩
theorem dB {i j : Bool} : decide (V.bl i = V.bl j) = decide (i = j) := by
  rw [Bool.eq_iff_iff, decide_eq_true_eq, decide_eq_true_eq]
  exact ⟨fun z => V.bl.inj z, fun z => by rw [z]⟩
end
theorem q_dputN {σ : L2.St} {H : Hp} {td ty tv : TE} {D : Ends} {tw : TS} {o : Addr} {p : Int} {kvs : List (Key × V)} {xs : List V} (hv : Vn tv σ H xs) (ho : ∀ H', Same H H' → Vl td σ H' (.ref o)) (hk : ∀ H', Same H H' → Vl ty σ H' (.int p)) (hd : H o = some (.dK kvs)) (hl : kvs.length < sizeLine)
    (k : ∀ a H', Same H H' → H a = none → H' a = some (.lst xs) → tw D σ (upd H' o (.dK (putK kvs (.inl p) (.ref a))))) : tSeq (sDPut td ty tv) tw D σ H := g_dputN (D := { D with nx := tw D }) hv ho hk hd hl k
def spOrder (K : PySem.W.Frag) : Sp := fun vs H Q _ => ∃ (d : Addr) (ds : List Int) (k n : Int), vs = [.ref d, .int k, .int n] ∧ SqL K H d (ds.map V.int) ∧ 0 ≤ k ∧ 0 ≤ n ∧ n ≤ 40 ∧ ∀ H' p os, Same H H' → H p = none → H' p = some (.lst (os.map V.int)) → OrdOk n os → Q (.ref p) H'
/-! ### ranks -/
def fb (m : Int) : List Int → List Int → Nat → Option Nat
  | _, [], _ => none
  | seen, x :: xs, k => if (0 ≤ x ∧ x < m) ∧ x ∉ seen then fb m (seen ++ [x]) xs (k + 1) else some k
def badAt (os : List Int) : Option Nat := fb os.length [] os 0
def posOf (x : Int) : List Int → Nat
  | [] => 0
  | y :: ys => if y = x then 0 else posOf x ys + 1
def rk (os : List Int) : List Int := (rng os.length).map fun p => (posOf p os : Int)
theorem posOf_get : ∀ {os : List Int} {i : Nat} {x : Int}, os.Nodup → os[i]? = some x → posOf x os = i
  | [], _, _, _, h => by simp at h
  | y :: ys, 0, x, _, h => if_pos (Option.some.inj h)
  | y :: ys, i + 1, x, hn, h => by
    have hn := List.nodup_cons.mp hn
    have h : ys[i]? = some x := h
    have ne : ¬ y = x := fun z => hn.1 (by rw [z]; exact List.mem_of_getElem? h)
    show (if y = x then 0 else posOf x ys + 1) = i + 1
    rw [if_neg ne, posOf_get hn.2 h]
theorem posOf_lt : ∀ {os : List Int} {x : Int}, x ∈ os → os[posOf x os]? = some x
  | y :: ys, x, h => by
    show (y :: ys)[if y = x then 0 else posOf x ys + 1]? = some x
    by_cases e : y = x
    · rw [if_pos e, e]
      rfl
    · rw [if_neg e]
      rcases List.mem_cons.mp h with h | h
      · exact absurd h.symm e
      · exact posOf_lt h
theorem fb_ok {m : Int} : ∀ {xs seen : List Int} {k : Nat}, fb m seen xs k = none → seen.Nodup → (∀ x ∈ seen, 0 ≤ x ∧ x < m) → (seen ++ xs).Nodup ∧ ∀ x ∈ seen ++ xs, 0 ≤ x ∧ x < m
  | [], seen, k, _, hn, hm => by
    rw [List.append_nil]
    exact ⟨hn, hm⟩
  | x :: xs, seen, k, h, hn, hm => by
    have h : (if (0 ≤ x ∧ x < m) ∧ x ∉ seen then fb m (seen ++ [x]) xs (k + 1) else some k) = none := h
    by_cases c : (0 ≤ x ∧ x < m) ∧ x ∉ seen
    · rw [if_pos c] at h
      have := fb_ok h (List.nodup_append.mpr ⟨hn, List.nodup_cons.mpr ⟨List.not_mem_nil, .nil⟩, fun a ha b hb e => c.2 (by
        rw [List.mem_singleton] at hb
        rw [← hb, ← e]
        exact ha)⟩) (fun y hy => by
        rcases List.mem_append.mp hy with hy | hy
        · exact hm y hy
        · rw [List.mem_singleton.mp hy]
          exact c.1)
      rw [List.append_assoc] at this
      exact this
    · rw [if_neg c] at h
      cases h
theorem bad_none {os : List Int} (h : badAt os = none) : OrdOk os.length os := by
  have := fb_ok h .nil (fun _ h => nomatch h)
  exact ord_of this.1 this.2 (Int.toNat_natCast _).symm
theorem fb_none {m : Int} : ∀ {xs seen : List Int} {k : Nat}, (seen ++ xs).Nodup → (∀ x ∈ xs, 0 ≤ x ∧ x < m) → fb m seen xs k = none
  | [], _, _, _, _ => rfl
  | x :: xs, seen, k, hn, hm => by
    have c : (0 ≤ x ∧ x < m) ∧ x ∉ seen := ⟨hm x List.mem_cons_self, fun z => (List.nodup_append.mp hn).2.2 x z x List.mem_cons_self rfl⟩
    show (if (0 ≤ x ∧ x < m) ∧ x ∉ seen then fb m (seen ++ [x]) xs (k + 1) else some k) = none
    rw [if_pos c]
    exact fb_none (by
      rw [List.append_assoc]
      exact hn) fun y hy => hm y (List.mem_cons_of_mem _ hy)
theorem bad_iff {os : List Int} : badAt os = none ↔ OrdOk os.length os := ⟨bad_none, fun h => fb_none (by
  rw [List.nil_append]
  exact h.nodup) fun x hx => h.mem.mp hx⟩
def outAt (os : List Int) (i : Nat) : List Int := (rng os.length).map fun p => if p ∈ os.take i then (posOf p os : Int) else 0
theorem rng_get {n : Int} {p : Nat} (h : p < (rng n).length) : (rng n)[p] = (p : Int) := by
  simp only [rng, List.getElem_map, List.getElem_range]
theorem out_zero {os : List Int} : outAt os 0 = os.map fun _ => (0 : Int) := by
  refine List.ext_getElem ?_ fun p h1 h2 => ?_
  · unfold outAt
    rw [List.length_map, List.length_map, len_rng, Int.toNat_natCast]
  · simp only [outAt, List.getElem_map, List.take_zero, List.not_mem_nil, if_false]
theorem out_succ {os : List Int} {i : Nat} {x : Int} (ok : OrdOk os.length os) (h : os[i]? = some x) : outAt os (i + 1) = (outAt os i).set x.toNat i := by
  have hx := ok.mem.mp (List.mem_of_getElem? h)
  refine List.ext_getElem ?_ fun p h1 h2 => ?_
  · unfold outAt
    rw [List.length_set, List.length_map, List.length_map]
  · rw [List.getElem_set]
    simp only [outAt, List.getElem_map, rng_get]
    rw [take_snoc h]
    by_cases e : x.toNat = p
    · have e2 : (p : Int) = x := by omega
      rw [if_pos e, e2, if_pos (List.mem_append.mpr (.inr (List.mem_singleton.mpr rfl))), posOf_get ok.nodup h]
    · have e2 : ¬ (p : Int) = x := fun z => e (by omega)
      rw [if_neg e]
      by_cases c : (p : Int) ∈ os.take i
      · rw [if_pos c, if_pos (List.mem_append.mpr (.inl c))]
      · rw [if_neg c, if_neg (fun z => by
          rcases List.mem_append.mp z with z | z
          · exact c z
          · exact e2 (List.mem_singleton.mp z))]
theorem out_end {os : List Int} (ok : OrdOk os.length os) : outAt os os.length = rk os := by
  unfold outAt rk
  rw [List.take_length]
  exact List.map_congr_left fun p hp => if_pos (ok.mem.mpr (mem_rng.mp hp))
def dueD (os : List Int) : PyData := match badAt os with
  | some k => .tuple [.str "bad", .int (k : Nat)]
  | none => .tuple [.str "ranks", .list ((rk os).map PyData.int)]
theorem shaped_due (os : List Int) : SeqAt.shaped (dueD os) = true := by
  unfold dueD
  split
  · exact shaped_pair (x := "bad") (by decide +kernel) rfl (Nat.zero_le _)
  · refine shaped_pair (x := "ranks") (by decide +kernel) ?_ ?_
    · exact (lay_ints _).1
    · show PyData.depthAll _ + 1 ≤ 3
      rw [(lay_ints _).2]
      decide
/-- what due's tuple holds -/
def DueAt (K : PySem.W.Frag) (H : Hp) (T : Addr) (os : List Int) : Prop := match badAt os with
  | some k => SqT K H T [.str "bad", .int (k : Nat)]
  | none => ∃ q, SqT K H T [.str "ranks", .ref q] ∧ SqL K H q ((rk os).map V.int)
theorem DueAt.dp {K : PySem.W.Frag} {H : Hp} {T : Addr} {os : List Int} (h : DueAt K H T os) : Dp K H (.ref T) (dueD os) := by
  unfold DueAt at h
  unfold dueD
  cases e : badAt os with
  | some k =>
    rw [e] at h
    exact .tup h (.cons (.str _) (.cons (.int _) .nil))
  | none =>
    rw [e] at h
    obtain ⟨q, h1, h2⟩ := h
    exact .tup h1 (.cons (.str _) (.cons (Dp.ints h2) .nil))
/-! ### neighbours -/
def nearF (a : Int) (l : Lnk) : Option Int := if l.a = a then some l.b else if l.b = a then some l.a else none
def nearOf (a : Int) (ls : List Lnk) : List Int := ls.filterMap (nearF a)
theorem nearF_sum {a : Int} {l : Lnk} : nearF a l = if (l.a = a ∨ l.b = a) then some (l.a + l.b - a) else none := by
  unfold nearF
  by_cases h1 : l.a = a
  · rw [if_pos h1, if_pos (.inl h1)]
    congr 1
    omega
  · rw [if_neg h1]
    by_cases h2 : l.b = a
    · rw [if_pos h2, if_pos (.inr h2)]
      congr 1
      omega
    · rw [if_neg h2, if_neg (by omega)]
theorem nearF_iff {a o : Int} {l : Lnk} (h : l.a < l.b) : nearF a l = some o ↔ (l.a = a ∧ l.b = o) ∨ (l.a = o ∧ l.b = a) := by
  rw [nearF_sum]
  by_cases c : l.a = a ∨ l.b = a
  · rw [if_pos c]
    constructor
    · intro e
      have := Option.some.inj e
      omega
    · intro e
      congr 1
      omega
  · rw [if_neg c]
    constructor
    · intro e
      cases e
    · intro e
      omega
def adj0 (ls : List Lnk) (x y : Int) : Bool := ls.any fun l => decide ((l.a = x ∧ l.b = y) ∨ (l.a = y ∧ l.b = x))
theorem adj0_iff {ls : List Lnk} {x y : Int} : adj0 ls x y = true ↔ ∃ l ∈ ls, (l.a = x ∧ l.b = y) ∨ (l.a = y ∧ l.b = x) := by
  unfold adj0
  rw [List.any_eq_true]
  constructor
  · rintro ⟨l, h, e⟩
    exact ⟨l, h, of_decide_eq_true e⟩
  · rintro ⟨l, h, e⟩
    exact ⟨l, h, decide_eq_true e⟩
theorem split_at {α : Type} {xs : List α} {i : Nat} {x : α} (h : xs[i]? = some x) : xs = xs.take i ++ x :: xs.drop (i + 1) := by
  have hi := (List.getElem?_eq_some_iff.mp h).1
  have e := List.take_append_drop i xs
  rw [List.drop_eq_getElem_cons hi, (List.getElem?_eq_some_iff.mp h).2] at e
  exact e.symm
theorem near_mem {N : Net} (ok : NetOk N) {a o : Int} : o ∈ nearOf a N.ls ↔ adj0 N.ls a o = true := by
  unfold nearOf
  rw [List.mem_filterMap, adj0_iff]
  constructor
  · rintro ⟨l, h, e⟩
    exact ⟨l, h, (nearF_iff (ok.ok l h).ab).mp e⟩
  · rintro ⟨l, h, e⟩
    exact ⟨l, h, (nearF_iff (ok.ok l h).ab).mpr e⟩
theorem near_lt {N : Net} (ok : NetOk N) (a : Int) : (nearOf a N.ls).Pairwise (· < ·) := by
  unfold nearOf
  rw [List.pairwise_filterMap]
  refine List.Pairwise.imp_of_mem (fun {l m} hl hm hlt x hx y hy => ?_) ok.lt
  have h1 := (ok.ok l hl).ab
  have h2 := (ok.ok m hm).ab
  have hx := (nearF_iff h1).mp hx
  have hy := (nearF_iff h2).mp hy
  unfold LnkLt at hlt
  omega
theorem near_nodup {N : Net} (ok : NetOk N) (a : Int) : (nearOf a N.ls).Nodup := (near_lt ok a).imp fun h z => by omega
theorem adj0_in {N : Net} (ok : NetOk N) {x y : Int} (h : adj0 N.ls x y = true) : (0 ≤ x ∧ x < N.n) ∧ (0 ≤ y ∧ y < N.n) ∧ x ≠ y := by
  obtain ⟨l, hl, e⟩ := adj0_iff.mp h
  have := (ok.ok l hl).a0
  have := (ok.ok l hl).ab
  have := (ok.ok l hl).bn
  omega
theorem adj0_sym {ls : List Lnk} {x y : Int} : adj0 ls x y = adj0 ls y x := by
  rw [Bool.eq_iff_iff, adj0_iff, adj0_iff]
  constructor
  · rintro ⟨l, h, e⟩
    exact ⟨l, h, e.symm⟩
  · rintro ⟨l, h, e⟩
    exact ⟨l, h, e.symm⟩
/-! ### the greedy order -/
def joinB (adj : Int → Int → Bool) (b x y : Int) : Bool := adj x y || (adj b x && (adj b y && !decide (x = y)))
def deg (L : List Int) (adj : Int → Int → Bool) (p : Int) : Nat := (L.filter (adj p)).length
def pick (f : Int → Nat) (b : Int) (xs : List Int) : Int := xs.foldl (fun b p => if f p < f b then p else b) b
def gr : Nat → List Int → (Int → Int → Bool) → List Int
  | 0, _, _ => []
  | _ + 1, [], _ => []
  | k + 1, p :: r, adj => pick (deg (p :: r) adj) p (p :: r) :: gr k ((p :: r).erase (pick (deg (p :: r) adj) p (p :: r))) (joinB adj (pick (deg (p :: r) adj) p (p :: r)))
def greedyOf (N : Net) : List Int := gr N.n.toNat (rng N.n) (adj0 N.ls)
theorem pick_or {f : Int → Nat} : ∀ {xs : List Int} {b : Int}, pick f b xs = b ∨ pick f b xs ∈ xs
  | [], b => .inl rfl
  | x :: xs, b => by
    show pick f (if f x < f b then x else b) xs = b ∨ pick f (if f x < f b then x else b) xs ∈ x :: xs
    by_cases c : f x < f b
    · rw [if_pos c]
      rcases pick_or (f := f) (xs := xs) (b := x) with h | h
      · right
        rw [h]
        exact List.mem_cons_self
      · exact .inr (List.mem_cons_of_mem _ h)
    · rw [if_neg c]
      rcases pick_or (f := f) (xs := xs) (b := b) with h | h
      · exact .inl h
      · exact .inr (List.mem_cons_of_mem _ h)
theorem pick_mem {f : Int → Nat} {p : Int} {r : List Int} : pick f p (p :: r) ∈ p :: r := by
  rcases pick_or (f := f) (xs := p :: r) (b := p) with h | h
  · rw [h]
    exact List.mem_cons_self
  · exact h
theorem pick_congr {f g : Int → Nat} : ∀ {xs : List Int} {b : Int}, (∀ x ∈ b :: xs, f x = g x) → pick f b xs = pick g b xs
  | [], _, _ => rfl
  | x :: xs, b, h => by
    show pick f (if f x < f b then x else b) xs = pick g (if g x < g b then x else b) xs
    rw [h x (List.mem_cons_of_mem _ List.mem_cons_self), h b List.mem_cons_self]
    refine pick_congr fun y hy => ?_
    rcases List.mem_cons.mp hy with e | e
    · by_cases c : g x < g b
      · rw [if_pos c] at e
        rw [e]
        exact h x (List.mem_cons_of_mem _ List.mem_cons_self)
      · rw [if_neg c] at e
        rw [e]
        exact h b List.mem_cons_self
    · exact h y (List.mem_cons_of_mem _ (List.mem_cons_of_mem _ e))
structure AdjOk (adj : Int → Int → Bool) : Prop where
  sym : ∀ x y, adj x y = adj y x
  irr : ∀ x, adj x x = false
theorem AdjOk.join {adj : Int → Int → Bool} (h : AdjOk adj) (b : Int) : AdjOk (joinB adj b) where
  sym := fun x y => by
    unfold joinB
    rw [h.sym x y, Bool.and_left_comm, show decide (x = y) = decide (y = x) by
      rw [Bool.eq_iff_iff, decide_eq_true_eq, decide_eq_true_eq]
      exact eq_comm]
  irr := fun x => by
    unfold joinB
    rw [h.irr x, decide_eq_true rfl]
    simp
theorem adj0_ok {N : Net} (ok : NetOk N) : AdjOk (adj0 N.ls) := ⟨fun _ _ => adj0_sym, fun x => by
  cases e : adj0 N.ls x x with
  | false => rfl
  | true => exact absurd rfl (adj0_in ok e).2.2⟩
/-- lists of neighbours that say what adj says of the places left -/
structure NearOk (L : List Int) (adj : Int → Int → Bool) (near : Int → List Int) : Prop where
  nd : ∀ p ∈ L, (near p).Nodup
  mem : ∀ p ∈ L, ∀ o, o ∈ near p ↔ o ∈ L ∧ adj p o = true
theorem sub_len : ∀ {xs ys : List Int}, xs.Nodup → (∀ x ∈ xs, x ∈ ys) → xs.length ≤ ys.length
  | [], _, _, _ => Nat.zero_le _
  | x :: xs, ys, hn, hs => by
    have hn := List.nodup_cons.mp hn
    have hx := hs x List.mem_cons_self
    have e := List.length_erase_of_mem hx
    have h := sub_len (ys := ys.erase x) hn.2 (fun y hy => (List.mem_erase_of_ne (fun z => hn.1 (by rw [← z]; exact hy))).mpr (hs y (List.mem_cons_of_mem _ hy)))
    have := List.length_pos_of_mem hx
    rw [List.length_cons]
    omega
theorem NearOk.deg {L : List Int} {adj : Int → Int → Bool} {near : Int → List Int} (h : NearOk L adj near) (hL : L.Nodup) {p : Int} (hp : p ∈ L) : (near p).length = Ovc.deg L adj p := by
  unfold Ovc.deg
  have hf : (L.filter (adj p)).Nodup := hL.filter _
  have m : ∀ o, o ∈ near p ↔ o ∈ L.filter (adj p) := fun o => by
    rw [h.mem p hp o, List.mem_filter]
  refine Nat.le_antisymm ?_ ?_
  · exact sub_len (h.nd p hp) fun o ho => (m o).mp ho
  · exact sub_len hf fun o ho => (m o).mpr ho
def nearTo (near : Int → List Int) (b p : Int) : List Int := (near p).filter (fun o => !decide (o = b)) ++ (near b).filter fun o => !decide (o = p) && !decide (o ∈ near p)
theorem NearOk.step {L : List Int} {adj : Int → Int → Bool} {near : Int → List Int} (h : NearOk L adj near) (ha : AdjOk adj) (hL : L.Nodup) {b : Int} (hb : b ∈ L) :
    NearOk (L.erase b) (joinB adj b) (fun p => if p ∈ near b then nearTo near b p else near p) where
  nd := fun p hp => by
    have hp2 := (hL.mem_erase_iff.mp hp).2
    show (if p ∈ near b then nearTo near b p else near p).Nodup
    by_cases c : p ∈ near b
    · rw [if_pos c]
      refine List.nodup_append.mpr ⟨(h.nd p hp2).filter _, (h.nd b hb).filter _, fun x hx y hy e => ?_⟩
      have h1 := (List.mem_filter.mp hx).1
      have h2 := (List.mem_filter.mp hy).2
      rw [Bool.and_eq_true, Bool.not_eq_true', Bool.not_eq_true', decide_eq_false_iff_not, decide_eq_false_iff_not] at h2
      exact h2.2 (by rw [← e]; exact h1)
    · rw [if_neg c]
      exact h.nd p hp2
  mem := fun p hp o => by
    have hpb := (hL.mem_erase_iff.mp hp).1
    have hp2 := (hL.mem_erase_iff.mp hp).2
    show o ∈ (if p ∈ near b then nearTo near b p else near p) ↔ o ∈ L.erase b ∧ joinB adj b p o = true
    have j : joinB adj b p o = true ↔ adj p o = true ∨ (adj b p = true ∧ adj b o = true ∧ o ≠ p) := by
      unfold joinB
      rw [Bool.or_eq_true, Bool.and_eq_true, Bool.and_eq_true, Bool.not_eq_true', decide_eq_false_iff_not]
      constructor
      · rintro (h | ⟨h1, h2, h3⟩)
        · exact .inl h
        · exact .inr ⟨h1, h2, fun z => h3 z.symm⟩
      · rintro (h | ⟨h1, h2, h3⟩)
        · exact .inl h
        · exact .inr ⟨h1, h2, fun z => h3 z.symm⟩
    rw [j, hL.mem_erase_iff]
    by_cases c : p ∈ near b
    · rw [if_pos c]
      unfold nearTo
      have hbp := ((h.mem b hb p).mp c).2
      rw [List.mem_append, List.mem_filter, List.mem_filter, Bool.and_eq_true, Bool.not_eq_true', Bool.not_eq_true', Bool.not_eq_true', decide_eq_false_iff_not, decide_eq_false_iff_not, decide_eq_false_iff_not, h.mem p hp2 o, h.mem b hb o]
      constructor
      · rintro (⟨⟨h1, h2⟩, h3⟩ | ⟨⟨h1, h2⟩, h3, h4⟩)
        · exact ⟨⟨h3, h1⟩, .inl h2⟩
        · have ne : o ≠ b := fun z => by
            rw [z, ha.irr] at h2
            cases h2
          exact ⟨⟨ne, h1⟩, .inr ⟨hbp, h2, h3⟩⟩
      · rintro ⟨⟨h1, h2⟩, h3 | ⟨h3, h4, h5⟩⟩
        · exact .inl ⟨⟨h2, h3⟩, h1⟩
        · by_cases d : adj p o = true
          · exact .inl ⟨⟨h2, d⟩, h1⟩
          · exact .inr ⟨⟨h2, h4⟩, h5, fun z => d z.2⟩
    · rw [if_neg c, h.mem p hp2 o]
      have hbp : adj b p ≠ true := fun z => c ((h.mem b hb p).mpr ⟨hp2, z⟩)
      constructor
      · rintro ⟨h1, h2⟩
        have ne : o ≠ b := fun z => by
          rw [z, ha.sym] at h2
          exact hbp h2
        exact ⟨⟨ne, h1⟩, .inl h2⟩
      · rintro ⟨⟨h1, h2⟩, h3 | ⟨h3, _⟩⟩
        · exact ⟨h2, h3⟩
        · exact absurd h3 hbp
theorem left_snoc {n b : Int} {acc : List Int} : (rng n).filter (fun p => !decide (p ∈ acc ++ [b])) = ((rng n).filter fun p => !decide (p ∈ acc)).erase b := by
  rw [List.Nodup.erase_eq_filter (show List.Nodup _ from nodup_rng.filter _) b, List.filter_filter]
  refine List.filter_congr fun p _ => ?_
  rw [Bool.eq_iff_iff]
  simp only [List.mem_append, List.mem_singleton, Bool.not_eq_true', decide_eq_false_iff_not, Bool.and_eq_true, bne_iff_ne, ne_eq, not_or]
  exact And.comm
/-! ### pairs of an order -/
inductive Rch (adj : Int → Int → Bool) (low : Int → Prop) : Int → Int → Prop
  | one {x y : Int} : adj x y = true → Rch adj low x y
  | step {x z y : Int} : Rch adj low x z → low z → adj z y = true → Rch adj low x y
section
variable {adj : Int → Int → Bool} {low low' : Int → Prop} {x y z : Int}
theorem Rch.mono (h : Rch adj low x y) (m : ∀ z, low z → low' z) : Rch adj low' x y := by
  induction h with
  | one a => exact .one a
  | step _ l a ih => exact .step ih (m _ l) a
theorem Rch.trans (h : Rch adj low x z) (l : low z) (k : Rch adj low z y) : Rch adj low x y := by
  induction k with
  | one a => exact .step h l a
  | step _ l2 a ih => exact .step ih l2 a
theorem Rch.sym (ok : AdjOk adj) (h : Rch adj low x y) : Rch adj low y x := by
  induction h with
  | one a => exact .one (by rw [ok.sym]; exact a)
  | step _ l a ih => exact Rch.trans (.one (by rw [ok.sym]; exact a)) l ih
theorem Rch.last (h : Rch adj low x y) : ∃ a, adj a y = true := by
  cases h with
  | one a => exact ⟨_, a⟩
  | step _ _ a => exact ⟨_, a⟩
theorem Rch.first (h : Rch adj low x y) : ∃ a, adj x a = true := by
  induction h with
  | one a => exact ⟨_, a⟩
  | step _ _ _ ih => exact ih
end
section
variable {adj : Int → Int → Bool} {pos : Int → Nat}
theorem floyd1 (inj : ∀ x y a b, adj a x = true → adj b y = true → pos x = pos y → x = y) {k : Nat} {x y : Int} (h : Rch adj (fun z => pos z < k + 1) x y) :
    Rch adj (fun z => pos z < k) x y ∨ ∃ w, pos w = k ∧ Rch adj (fun z => pos z < k) x w ∧ Rch adj (fun z => pos z < k) w y := by
  induction h with
  | one a => exact .inl (.one a)
  | @step z y hz l a ih =>
    by_cases e : pos z = k
    · rcases ih with h | ⟨w, hw, h1, h2⟩
      · exact .inr ⟨z, e, h, .one a⟩
      · obtain ⟨b, hb⟩ := h1.last
        obtain ⟨c, hc⟩ := hz.last
        have : w = z := inj w z b c hb hc (by omega)
        subst this
        exact .inr ⟨w, hw, h1, .one a⟩
    · rcases ih with h | ⟨w, hw, h1, h2⟩
      · exact .inl (.step h (by omega) a)
      · exact .inr ⟨w, hw, h1, .step h2 (by omega) a⟩
theorem floyd (inj : ∀ x y a b, adj a x = true → adj b y = true → pos x = pos y → x = y) : ∀ {k : Nat} {x y : Int}, Rch adj (fun z => pos z < k) x y →
    adj x y = true ∨ ∃ w, pos w < k ∧ Rch adj (fun z => pos z < pos w) x w ∧ Rch adj (fun z => pos z < pos w) w y
  | 0, x, y, h => by
    cases h with
    | one a => exact .inl a
    | step _ l _ => exact absurd l (Nat.not_lt_zero _)
  | k + 1, x, y, h => by
    rcases floyd1 inj h with h | ⟨w, hw, h1, h2⟩
    · rcases floyd inj h with h | ⟨w, hw, h1, h2⟩
      · exact .inl h
      · exact .inr ⟨w, by omega, h1, h2⟩
    · exact .inr ⟨w, by omega, by rw [hw]; exact h1, by rw [hw]; exact h2⟩
end
def PairP (ls : List Lnk) (os : List Int) (u v : Int) : Prop := posOf u os < posOf v os ∧ Rch (adj0 ls) (fun z => posOf z os < posOf u os) u v
theorem pos_inj {os : List Int} {x y : Int} (hx : x ∈ os) (hy : y ∈ os) (h : posOf x os = posOf y os) : x = y := by
  have h1 := posOf_lt hx
  rw [h, posOf_lt hy] at h1
  exact (Option.some.inj h1).symm
theorem pos_len {os : List Int} {x : Int} (hx : x ∈ os) : posOf x os < os.length := (List.getElem?_eq_some_iff.mp (posOf_lt hx)).1
section
variable {N : Net} {os : List Int} {u v w : Int}
theorem adj_inj (ok : NetOk N) (oo : OrdOk N.n os) : ∀ x y a b, adj0 N.ls a x = true → adj0 N.ls b y = true → posOf x os = posOf y os → x = y := fun x y a b h1 h2 h3 =>
  pos_inj (oo.mem.mpr (adj0_in ok h1).2.1) (oo.mem.mpr (adj0_in ok h2).2.1) h3
theorem PairP.ins (ok : NetOk N) (h : PairP N.ls os u v) : (0 ≤ u ∧ u < N.n) ∧ (0 ≤ v ∧ v < N.n) := by
  obtain ⟨a, ha⟩ := h.2.last
  obtain ⟨b, hb⟩ := h.2.first
  exact ⟨(adj0_in ok hb).1, (adj0_in ok ha).2.1⟩
theorem PairP.ne (h : PairP N.ls os u v) : u ≠ v := fun e => by
  have := h.1
  rw [e] at this
  exact Nat.lt_irrefl _ this
theorem pair_clique (ok : NetOk N) (h1 : PairP N.ls os u v) (h2 : PairP N.ls os u w) (hvw : posOf v os < posOf w os) : PairP N.ls os v w := by
  have m : ∀ z, posOf z os < posOf u os → posOf z os < posOf v os := fun z hz => Nat.lt_trans hz h1.1
  exact ⟨hvw, ((h1.2.sym (adj0_ok ok)).mono m).trans h1.1 (h2.2.mono m)⟩
theorem pair_rec (ok : NetOk N) (oo : OrdOk N.n os) : PairP N.ls os u v ↔ posOf u os < posOf v os ∧ (adj0 N.ls u v = true ∨ ∃ w, PairP N.ls os w u ∧ PairP N.ls os w v) := by
  constructor
  · intro h
    refine ⟨h.1, ?_⟩
    rcases floyd (adj_inj ok oo) h.2 with h2 | ⟨w, hw, h1, h2⟩
    · exact .inl h2
    · exact .inr ⟨w, ⟨hw, h1.sym (adj0_ok ok)⟩, ⟨Nat.lt_trans hw h.1, h2⟩⟩
  · rintro ⟨hl, h | ⟨w, h1, h2⟩⟩
    · exact ⟨hl, .one h⟩
    · have m : ∀ z, posOf z os < posOf w os → posOf z os < posOf u os := fun z hz => Nat.lt_trans hz h1.1
      exact ⟨hl, ((h1.2.sym (adj0_ok ok)).mono m).trans h1.1 (h2.2.mono m)⟩
theorem pair_link (ok : NetOk N) (oo : OrdOk N.n os) (h : adj0 N.ls u v = true) : PairP N.ls os u v ∨ PairP N.ls os v u := by
  have hi := adj0_in ok h
  have hne : posOf u os ≠ posOf v os := fun e => hi.2.2 (pos_inj (oo.mem.mpr hi.1) (oo.mem.mpr hi.2.1) e)
  rcases Nat.lt_or_gt_of_ne hne with h1 | h1
  · exact .inl ⟨h1, .one h⟩
  · exact .inr ⟨h1, .one (by rw [adj0_sym]; exact h)⟩
end
open Classical in
/-- the upper neighbours of a place, in the order of ranks -/
noncomputable def upP (ls : List Lnk) (os : List Int) (u : Int) : List Int := os.filter fun v => decide (PairP ls os u v)
section
variable {N : Net} {ls : List Lnk} {os : List Int} {u v w : Int}
open Classical in
theorem mem_up : v ∈ upP ls os u ↔ v ∈ os ∧ PairP ls os u v := by
  unfold upP
  rw [List.mem_filter, decide_eq_true_eq]
theorem mem_upP (ok : NetOk N) (oo : OrdOk N.n os) : v ∈ upP N.ls os u ↔ PairP N.ls os u v := by
  rw [mem_up]
  exact ⟨fun h => h.2, fun h => ⟨oo.mem.mpr (h.ins ok).2, h⟩⟩
open Classical in
theorem up_eq {fs : List Int} (oo : OrdOk N.n os) (h : ∀ v ∈ os, v ∈ fs ↔ PairP N.ls os u v) : os.filter (fun v => decide (v ∈ fs)) = upP N.ls os u := by
  unfold upP
  refine List.filter_congr fun v hv => ?_
  rw [Bool.eq_iff_iff, decide_eq_true_eq, decide_eq_true_eq]
  exact h v hv
theorem up_nodup (oo : OrdOk N.n os) : (upP N.ls os u).Nodup := oo.nodup.filter _
theorem up_len (ok : NetOk N) (oo : OrdOk N.n os) : (upP N.ls os u).length ≤ 40 := by
  have e := oo.len
  have := ok.n40
  have h2 : (upP N.ls os u).length ≤ os.length := List.length_filter_le _ _
  omega
theorem pos_sorted {os : List Int} (h : os.Nodup) : os.Pairwise fun a b => posOf a os < posOf b os := by
  rw [List.pairwise_iff_getElem]
  intro i j hi hj hij
  rw [posOf_get h (List.getElem?_eq_getElem hi), posOf_get h (List.getElem?_eq_getElem hj)]
  exact hij
theorem up_sorted (oo : OrdOk N.n os) : (upP N.ls os u).Pairwise fun a b => posOf a os < posOf b os := (pos_sorted oo.nodup).filter _
end
/-! ### a list of lists that are changed -/
structure NearL (G H : Hp) (o : Addr) (n : Nat) (refs : List V) (near : Int → List Int) : Prop where
  ho : H o = some (.lst refs)
  len : refs.length = n
  row : ∀ k : Nat, k < n → ∃ a, refs[k]? = some (.ref a) ∧ G a = none ∧ a ≠ o ∧ H a = some (.lst ((near k).map V.int))
  inj : ∀ (i j : Nat) (a : Addr), refs[i]? = some (.ref a) → refs[j]? = some (.ref a) → i = j
section
variable {G H H' : Hp} {o : Addr} {n : Nat} {refs : List V} {near : Int → List Int}
theorem NearL.to (h : NearL G H o n refs near) (s : Same H H') : NearL G H' o n refs near := ⟨s _ _ h.ho, h.len, fun k hk => let ⟨a, h1, h2, h3, h4⟩ := h.row k hk; ⟨a, h1, h2, h3, s _ _ h4⟩, h.inj⟩
theorem NearL.app (h : NearL G H o n refs near) {k : Nat} {a : Addr} {b : Int} (ha : refs[k]? = some (.ref a)) (hk : k < n) (hH : H a = some (.lst ((near k).map V.int))) : NearL G (upd H a (.lst ((near k).map V.int ++ [.int b]))) o n refs (fun x => if x = (k : Int) then near k ++ [b] else near x) := by
  obtain ⟨a', h1, h2, h3, h4⟩ := h.row k hk
  cases Option.some.inj (ha.symm.trans h1)
  refine ⟨by rw [upd_ne h3.symm]; exact h.ho, h.len, fun j hj => ?_, h.inj⟩
  obtain ⟨c, c1, c2, c3, c4⟩ := h.row j hj
  refine ⟨c, c1, c2, c3, ?_⟩
  by_cases e : j = k
  · subst e
    cases Option.some.inj (c1.symm.trans ha)
    rw [upd_same, if_pos rfl, List.map_append]
    rfl
  · have ne : c ≠ a := fun z => by
      subst z
      exact e (h.inj _ _ _ c1 ha)
    rw [upd_ne ne, if_neg (fun z => e (by omega))]
    exact c4
theorem NearL.put (h : NearL G H o n refs near) {k : Nat} {b : Addr} {ns : List Int} (s : Same H H') (hk : k < n) (nb : H b = none) (eb : H' b = some (.lst (ns.map V.int))) (nG : G b = none) : NearL G (upd H' o (.lst (refs.set k (.ref b)))) o n (refs.set k (.ref b)) (fun x => if x = (k : Int) then ns else near x) := by
  have bo : b ≠ o := (ne_of_none h.ho nb).symm
  have old : ∀ (j : Nat) (a : Addr), refs[j]? = some (.ref a) → j < n → a ≠ b := fun j a e hj z => by
    obtain ⟨c, c1, _, _, c4⟩ := h.row j hj
    cases Option.some.inj (e.symm.trans c1)
    rw [z, nb] at c4
    cases c4
  refine ⟨upd_same, by rw [List.length_set]; exact h.len, fun j hj => ?_, fun i j a e1 e2 => ?_⟩
  · by_cases e : j = k
    · subst e
      refine ⟨b, List.getElem?_set_self (by rw [h.len]; exact hk), nG, bo, ?_⟩
      rw [upd_ne bo, if_pos rfl]
      exact eb
    · obtain ⟨c, c1, c2, c3, c4⟩ := h.row j hj
      refine ⟨c, by rw [List.getElem?_set_ne (fun z => e z.symm)]; exact c1, c2, c3, ?_⟩
      rw [upd_ne c3, if_neg (fun z => e (by omega))]
      exact s _ _ c4
  · have il : ∀ {m : Nat}, (refs.set k (.ref b))[m]? = some (.ref a) → m < n := fun {m} e => by
      have := (List.getElem?_eq_some_iff.mp e).1
      rw [List.length_set, h.len] at this
      exact this
    by_cases ei : i = k
    · subst ei
      rw [List.getElem?_set_self (by rw [h.len]; exact hk)] at e1
      cases Option.some.inj e1
      by_cases ej : j = i
      · exact ej.symm
      · have := il e2
        rw [List.getElem?_set_ne (fun z => ej z.symm)] at e2
        exact absurd rfl (old j b e2 this)
    · have hi := il e1
      rw [List.getElem?_set_ne (fun z => ei z.symm)] at e1
      by_cases ej : j = k
      · subst ej
        rw [List.getElem?_set_self (by rw [h.len]; exact hk)] at e2
        cases Option.some.inj e2
        exact absurd rfl (old i b e1 hi)
      · rw [List.getElem?_set_ne (fun z => ej z.symm)] at e2
        exact h.inj _ _ _ e1 e2
theorem NearL.congr {near' : Int → List Int} (h : NearL G H o n refs near) (e : ∀ k : Nat, k < n → near k = near' k) : NearL G H o n refs near' := ⟨h.ho, h.len, fun k hk => let ⟨a, h1, h2, h3, h4⟩ := h.row k hk; ⟨a, h1, h2, h3, by rw [← e k hk]; exact h4⟩, h.inj⟩
end
/-! ### pairs by taking places out -/
def NearI (N : Net) (os : List Int) (i : Nat) (near : Int → List Int) : Prop := ∀ x y, x ∈ os → y ∈ os → i ≤ posOf x os → i ≤ posOf y os → (y ∈ near x ↔ x ≠ y ∧ (adj0 N.ls x y = true ∨ ∃ w, posOf w os < i ∧ PairP N.ls os w x ∧ PairP N.ls os w y))
section
variable {N : Net} {os : List Int} {i : Nat} {near : Int → List Int} {u : Int}
theorem near_up (ok : NetOk N) (oo : OrdOk N.n os) (h : NearI N os i near) (hu : os[i]? = some u) {x : Int} (hx : x ∈ os) (lt : i < posOf x os) : x ∈ near u ↔ PairP N.ls os u x := by
  have hp := posOf_get oo.nodup hu
  rw [h u x (List.mem_of_getElem? hu) hx (by omega) (by omega), pair_rec ok oo]
  constructor
  · rintro ⟨_, h1 | ⟨w, _, h2, h3⟩⟩
    · exact ⟨by omega, .inl h1⟩
    · exact ⟨by omega, .inr ⟨w, h2, h3⟩⟩
  · rintro ⟨_, h1 | ⟨w, h2, h3⟩⟩
    · exact ⟨fun z => by rw [z] at hp; omega, .inl h1⟩
    · have := h2.1
      exact ⟨fun z => by rw [z] at hp; omega, .inr ⟨w, by omega, h2, h3⟩⟩
open Classical in
theorem ups_eq (ok : NetOk N) (oo : OrdOk N.n os) (h : NearI N os i near) (hu : os[i]? = some u) : (os.drop (i + 1)).filter (fun x => decide (x ∈ near u)) = upP N.ls os u := by
  have hp := posOf_get oo.nodup hu
  unfold upP
  have e := List.take_append_drop (i + 1) os
  have e2 : os.filter (fun v => decide (PairP N.ls os u v)) = (os.take (i + 1)).filter (fun v => decide (PairP N.ls os u v)) ++ (os.drop (i + 1)).filter (fun v => decide (PairP N.ls os u v)) := by
    rw [← List.filter_append, e]
  have e3 : (os.take (i + 1)).filter (fun v => decide (PairP N.ls os u v)) = [] := by
    rw [List.filter_eq_nil_iff]
    intro x hx
    rw [decide_eq_true_eq]
    intro p
    obtain ⟨j, hj, ej⟩ := List.getElem_of_mem hx
    rw [List.length_take] at hj
    have hg : os[j]? = some x := by
      rw [List.getElem?_eq_getElem (by omega), ← ej, List.getElem_take]
    have := posOf_get oo.nodup hg
    have := p.1
    omega
  rw [e2, e3, List.nil_append]
  refine List.filter_congr fun x hx => ?_
  rw [Bool.eq_iff_iff, decide_eq_true_eq, decide_eq_true_eq]
  obtain ⟨j, hj, ej⟩ := List.getElem_of_mem hx
  rw [List.length_drop] at hj
  have hg : os[i + 1 + j]? = some x := by
    rw [List.getElem?_eq_getElem (by omega), ← ej, List.getElem_drop]
  have := posOf_get oo.nodup hg
  exact near_up ok oo h hu (List.mem_of_getElem? hg) (by omega)
def nearUp (near : Int → List Int) (ups : List Int) (x : Int) : List Int := near x ++ ups.filter fun w => !decide (w = x) && !decide (w ∈ near x)
theorem near_step (ok : NetOk N) (oo : OrdOk N.n os) (h : NearI N os i near) (hu : os[i]? = some u) : NearI N os (i + 1) (fun x => if x ∈ upP N.ls os u then nearUp near (upP N.ls os u) x else near x) := fun x y hx hy h1 h2 => by
  have hp := posOf_get oo.nodup hu
  have hI := h x y hx hy (by omega) (by omega)
  have key : (∃ w, posOf w os < i + 1 ∧ PairP N.ls os w x ∧ PairP N.ls os w y) ↔ (∃ w, posOf w os < i ∧ PairP N.ls os w x ∧ PairP N.ls os w y) ∨ (PairP N.ls os u x ∧ PairP N.ls os u y) := by
    constructor
    · rintro ⟨w, hw, p1, p2⟩
      by_cases e : posOf w os = i
      · have : w = u := pos_inj (oo.mem.mpr (p1.ins ok).1) (List.mem_of_getElem? hu) (by omega)
        subst this
        exact .inr ⟨p1, p2⟩
      · exact .inl ⟨w, by omega, p1, p2⟩
    · rintro (⟨w, hw, p⟩ | p)
      · exact ⟨w, by omega, p⟩
      · exact ⟨u, by omega, p⟩
  rw [key]
  show y ∈ (if x ∈ upP N.ls os u then nearUp near (upP N.ls os u) x else near x) ↔ _
  by_cases c : x ∈ upP N.ls os u
  · rw [if_pos c]
    unfold nearUp
    rw [List.mem_append, List.mem_filter, Bool.and_eq_true, Bool.not_eq_true', Bool.not_eq_true', decide_eq_false_iff_not, decide_eq_false_iff_not, mem_upP ok oo, hI]
    have cx := (mem_upP ok oo).mp c
    constructor
    · rintro (⟨h1, h2 | h2⟩ | ⟨h1, h2, _⟩)
      · exact ⟨h1, .inl h2⟩
      · exact ⟨h1, .inr (.inl h2)⟩
      · exact ⟨fun z => h2 z.symm, .inr (.inr ⟨cx, h1⟩)⟩
    · rintro ⟨h1, h2 | h2 | h2⟩
      · exact .inl ⟨h1, .inl h2⟩
      · exact .inl ⟨h1, .inr h2⟩
      · by_cases d : adj0 N.ls x y = true ∨ ∃ w, posOf w os < i ∧ PairP N.ls os w x ∧ PairP N.ls os w y
        · exact .inl ⟨h1, d⟩
        · exact .inr ⟨h2.2, fun z => h1 z.symm, fun z => d z.2⟩
  · rw [if_neg c, hI]
    have cx : ¬ PairP N.ls os u x := fun p => c ((mem_upP ok oo).mpr p)
    constructor
    · rintro ⟨h1, h2 | h2⟩
      · exact ⟨h1, .inl h2⟩
      · exact ⟨h1, .inr (.inl h2)⟩
    · rintro ⟨h1, h2 | h2 | h2⟩
      · exact ⟨h1, .inl h2⟩
      · exact ⟨h1, .inr h2⟩
      · exact absurd h2.1 cx
end
/-! ### lists of pairs -/
noncomputable def pairsL (ls : List Lnk) (os : List Int) : List (Int × Int) := os.flatMap fun u => (upP ls os u).map fun v => (u, v)
theorem mem_pairsL {N : Net} {os : List Int} (ok : NetOk N) (oo : OrdOk N.n os) {u v : Int} : (u, v) ∈ pairsL N.ls os ↔ PairP N.ls os u v := by
  unfold pairsL
  rw [List.mem_flatMap]
  constructor
  · rintro ⟨x, hx, h⟩
    obtain ⟨y, hy, e⟩ := List.mem_map.mp h
    cases e
    exact (mem_up.mp hy).2
  · intro h
    exact ⟨u, oo.mem.mpr (h.ins ok).1, List.mem_map.mpr ⟨v, (mem_upP ok oo).mpr h, rfl⟩⟩
/-- a list of new tuples of two ints -/
structure TupsAt (H : Hp) (ts : List V) (L : List (Int × Int)) : Prop where
  len : ts.length = L.length
  at_ : ∀ (i : Nat) (u v : Int), L[i]? = some (u, v) → ∃ t, ts[i]? = some (.ref t) ∧ H t = some (.tup [.int u, .int v])
theorem TupsAt.to {H H' : Hp} {ts : List V} {L : List (Int × Int)} (h : TupsAt H ts L) (s : Same H H') : TupsAt H' ts L := ⟨h.len, fun i u v e => let ⟨t, h1, h2⟩ := h.at_ i u v e; ⟨t, h1, s _ _ h2⟩⟩
def pairD2 (x : Int × Int) : PyData := .tuple [.int x.1, .int x.2]
theorem TupsAt.dp {K : PySem.W.Frag} {H : Hp} : ∀ {ts : List V} {L : List (Int × Int)}, TupsAt H ts L → DpAll K H ts (L.map pairD2)
  | [], [], _ => .nil
  | [], _ :: _, h => absurd h.len (by simp)
  | _ :: _, [], h => absurd h.len (by simp)
  | x :: ts, (u, v) :: L, h => by
    obtain ⟨t, h1, h2⟩ := h.at_ 0 u v rfl
    cases Option.some.inj h1
    exact .cons (.tup (.of h2) (.cons (.int u) (.cons (.int v) .nil))) (TupsAt.dp ⟨Nat.succ.inj h.len, fun i a b e => h.at_ (i + 1) a b e⟩)
theorem pairsL_len {N : Net} {os : List Int} (ok : NetOk N) (oo : OrdOk N.n os) : (pairsL N.ls os).length ≤ 1600 := by
  unfold pairsL
  have h : ∀ xs : List Int, (xs.flatMap fun u => (upP N.ls os u).map fun v => (u, v)).length ≤ xs.length * 40 := by
    intro xs
    induction xs with
    | nil => exact Nat.zero_le _
    | cons x r ih =>
      rw [List.flatMap_cons, List.length_append, List.length_map, List.length_cons, Nat.succ_mul]
      have := up_len (u := x) ok oo
      omega
  have := h os
  have := oo.len
  have := ok.n40
  omega
theorem TupsAt.upd {H : Hp} {ts zs : List V} {L : List (Int × Int)} {D : Addr} {u : HO} (h : TupsAt H ts L) (hD : H D = some (.lst zs)) : TupsAt (L2.upd H D u) ts L := ⟨h.len, fun i a b e => by
  obtain ⟨t, h1, h2⟩ := h.at_ i a b e
  refine ⟨t, h1, ?_⟩
  rw [upd_ne (fun z => by
    rw [z, hD] at h2
    cases h2)]
  exact h2⟩
theorem TupsAt.but {H : Hp} {ts zs : List V} {L : List (Int × Int)} {D : Addr} (h : TupsAt H ts L) (hD : H D = some (.lst zs)) : TupsAt (Ovc.but H D) ts L := ⟨h.len, fun i a b e => by
  obtain ⟨t, h1, h2⟩ := h.at_ i a b e
  refine ⟨t, h1, ?_⟩
  rw [but_ne (fun z => by
    rw [z, hD] at h2
    cases h2)]
  exact h2⟩
theorem TupsAt.app {H : Hp} {ts zs : List V} {L M : List (Int × Int)} (h : TupsAt H ts L) (k : TupsAt H zs M) : TupsAt H (ts ++ zs) (L ++ M) := ⟨by
  rw [List.length_append, List.length_append, h.len, k.len], fun i u v e => by
  by_cases hi : i < L.length
  · rw [List.getElem?_append_left hi] at e
    rw [List.getElem?_append_left (by rw [h.len]; exact hi)]
    exact h.at_ i u v e
  · rw [List.getElem?_append_right (by omega)] at e
    rw [List.getElem?_append_right (by rw [h.len]; omega), h.len]
    exact k.at_ _ u v e⟩
theorem TupsAt.nil {H : Hp} : TupsAt H [] [] := ⟨rfl, fun i u v e => by simp at e⟩
theorem TupsAt.one {H : Hp} {t : Addr} {u v : Int} (h : H t = some (.tup [.int u, .int v])) : TupsAt H [.ref t] [(u, v)] := ⟨rfl, fun i a b e => by
  cases i with
  | zero =>
    cases Option.some.inj e
    exact ⟨t, rfl, h⟩
  | succ i => simp at e⟩
section
variable {K : PySem.W.Frag} {σ : L2.St} {H : Hp} {ta tb te tl : TE} {tr : TA} {D : Ends} {tw : TS} {tt : TT} {x y : V}
/-- [e for x in range(n)], e told by f -/
theorem vn_lcRV {j : Nat} {n : Int} {f : Int → V} (hl : Va tr σ H [.int n]) (h0 : 0 ≤ n) (hz : n ≤ 1000000) (he : ∀ x : Int, 0 ≤ x → x < n → ∀ H', Same H H' → Ve te ((σ.set j none).set j (some (.int x))) H' (f x)) :
    Vn (tLc (iRng1 tr) (gName j) tYes te [j]) σ H ((rng n).map f) := fun Q q => by
  refine hl _ ⟨n, rfl, by omega, by omega, fun D nD => lc_range (lo := 0) (n := n.toNat) (fun i H' => H' D = some (.lst (((List.range i).map fun (i : Nat) => (i : Int)).map f)) ∧ Same H H') ⟨upd_same, same_upd nD⟩ (fun i H2 hi hP => ?_) (fun H2 hP => ?_)⟩
  · obtain ⟨hD, s2⟩ := hP
    rw [Int.zero_add]
    refine ⟨?_, iteT (B := H2 D = some (.lst (((List.range (i + 1)).map fun (i : Nat) => (i : Int)).map f)) ∧ Same H H2) (he i (by omega) (by omega) H2 s2 _ fun H3 s3 => ⟨_, s3 _ _ hD, ?_, ?_, same_upd' (s2.trans s3) nD⟩)⟩
    · show ((σ.set j none).set j (some (V.int i))).set j none = σ.set j none
      rw [List.set_set, List.set_set]
    · rw [List.length_map, List.length_map, List.length_range]
      exact Nat.lt_of_le_of_lt (m := 1000000) (by omega) (by decide)
    · rw [upd_same, List.range_succ, List.map_append, List.map_append]
      rfl
  · obtain ⟨hD, s2⟩ := hP
    exact q D H2 s2 nD hD
theorem ax_neV2 (ha : Ve ta σ H x) (hb : ∀ H', Same H H' → Vl tb σ H' y) (hs : scal x y = true) : Ax (tTest (tOp rNe ta tb)) σ H (!decide (x = y)) := fun Q k => ha _ fun H' s' => hb H' s' _ ⟨hs, _, rfl, k H' s'⟩
theorem q_appT2 {l : Addr} {xs : List V} {i j : Int} (ho : Vl ta σ H (.ref l)) (hl : H l = some (.lst xs)) (hz : xs.length < sizeLine) (k : ∀ T H', Same H H' → H T = none → tw D σ (L2.upd H' l (.lst (xs ++ [.ref T])))) :
    tSeq (tDrop (tBM K "list" rAppend ta (tCons (tTup (tCons (tC (.int i)) (tCons (tC (.int j)) tNil))) tNil))) tw D σ H := ho _ ⟨.inl ⟨rfl, _, .inl (.inl hl)⟩, by show 2 ≤ sizeLine; decide, fun T nT => ⟨l, xs, .ref T, rfl, rfl, same_upd nT _ _ hl, hz, k T _ (same_upd nT) nT⟩⟩
/-- [(u, v) for v in xs] -/
theorem vt_lcG {j : Nat} {u : Int} {ns : List Int} {a : Addr} (hu : ∀ x H', Same H H' → Vl ta ((σ.set j none).set j (some x)) H' (.int u)) (hw : ∀ x, ((σ.set j none).set j (some x))[j]? = some (some x)) (hl : Vl tl σ H (.ref a)) (hx : SqL K H a (ns.map V.int)) (hz : ns.length ≤ 10000) (Q : VK)
    (q : ∀ D H' zs, Same H H' → H D = none → H' D = some (.lst zs) → TupsAt H' zs (ns.map fun v => (u, v)) → Q (.ref D) H') : tLc (iList K tl) (gName j) tYes (tTup (tCons ta (tCons (tVar j) tNil))) [j] σ H Q := by
  refine hl _ ⟨a, rfl, ⟨_, hx⟩, fun D nD => lc_list (K := K) (a := a) (xs := ns.map V.int) (fun k H' => ∃ zs, H' D = some (.lst zs) ∧ Same H H' ∧ TupsAt H' zs ((ns.take k).map fun v => (u, v))) ⟨[], upd_same, same_upd nD, TupsAt.nil⟩ (fun k H' _ hP => hP.choose_spec.2.1.seq hx) (fun k x H' hk hP => ?_) (fun H' hP => ?_)⟩
  · obtain ⟨zs, hD, s', hT⟩ := hP
    rw [List.getElem?_map] at hk
    cases hg : ns[k]? with
    | none =>
      rw [hg] at hk
      cases hk
    | some v =>
      rw [hg] at hk
      cases hk
      refine ⟨?_, iteT (B := ∃ zs, H' D = some (.lst zs) ∧ Same H H' ∧ TupsAt H' zs ((ns.take (k + 1)).map fun v => (u, v))) ((hu _ H' s') _ ⟨_, hw _, by show 2 ≤ sizeLine; decide, fun T nT => ⟨zs, same_upd nT _ _ hD, ?_, zs ++ [.ref T], upd_same, same_upd' (s'.trans (same_upd nT)) nD, ?_⟩⟩)⟩
      · show ((σ.set j none).set j (some (V.int v))).set j none = σ.set j none
        rw [List.set_set, List.set_set]
      · rw [hT.len, List.length_map, List.length_take]
        exact Nat.lt_of_le_of_lt (m := 10000) (by omega) (by decide)
      · rw [take_snoc hg, List.map_append]
        exact ((hT.to (same_upd nT)).app (TupsAt.one upd_same)).upd (same_upd nT _ _ hD)
  · obtain ⟨zs, hD, s', hT⟩ := hP
    rw [List.length_map, List.take_length] at hT
    exact q D H' zs s' nD hD hT
/-- [order[j] for j in range(lo, len(order)) if ..] -/
theorem vn_lcIx {j lo : Nat} {os : List Int} {pb : Int → Bool} (hl : Va tr σ H [.int (lo : Nat), .int (os.length : Nat)]) (hlo : lo ≤ os.length) (hz : os.length ≤ 1000) (ht : ∀ (k : Nat) x, os[k]? = some x → ∀ H', Same H H' → An tt ((σ.set j none).set j (some (.int (k : Nat)))) H' (pb x))
    (he : ∀ (k : Nat) x, os[k]? = some x → ∀ H', Same H H' → Vl te ((σ.set j none).set j (some (.int (k : Nat)))) H' (.int x)) : Vn (tLc (iRng2 tr) (gName j) tt te [j]) σ H (((os.drop lo).filter pb).map V.int) := fun Q q => by
  refine hl _ ⟨(lo : Nat), (os.length : Nat), rfl, ⟨by omega, by omega, by omega, by omega⟩, fun D nD => lc_range (lo := (lo : Nat)) (n := ((os.length : Int) - (lo : Int)).toNat) (fun i H' => H' D = some (.lst ((((os.drop lo).take i).filter pb).map V.int)) ∧ Same H H') ⟨upd_same, same_upd nD⟩ (fun i H2 hi hP => ?_) (fun H2 hP => ?_)⟩
  · obtain ⟨hD, s2⟩ := hP
    have hil : lo + i < os.length := by omega
    have hg : os[lo + i]? = some os[lo + i] := List.getElem?_eq_getElem hil
    have hg2 : (os.drop lo)[i]? = some os[lo + i] := by
      rw [List.getElem?_drop]
      exact hg
    generalize os[lo + i] = n at hg hg2
    have e : ((os.drop lo).take (i + 1)).filter pb = ((os.drop lo).take i).filter pb ++ [n].filter pb := by
      rw [take_snoc hg2]
      exact List.filter_append ..
    have ek : ((lo : Nat) : Int) + (i : Int) = ((lo + i : Nat) : Int) := by omega
    rw [ek]
    refine ⟨?_, ht _ n hg H2 s2 _ ?_⟩
    · show ((σ.set j none).set j (some (V.int ((lo + i : Nat) : Int)))).set j none = σ.set j none
      rw [List.set_set, List.set_set]
    · cases hp : pb n with
      | true =>
        have e2 : [n].filter pb = [n] := by
          rw [List.filter_cons, hp]
          rfl
        refine iteT (B := H2 D = some (.lst ((((os.drop lo).take (i + 1)).filter pb).map V.int)) ∧ Same H H2) (he _ n hg H2 s2 _ ⟨_, hD, ?_, ?_, same_upd' s2 nD⟩)
        · rw [List.length_map]
          have h1 : (((os.drop lo).take i).filter pb).length ≤ os.length := Nat.le_trans (List.length_filter_le _ _) (by rw [List.length_take, List.length_drop]; omega)
          exact Nat.lt_of_le_of_lt (m := 10000) (by omega) (by decide)
        · rw [upd_same, e, e2, List.map_append]
          rfl
      | false =>
        have e2 : [n].filter pb = [] := by
          rw [List.filter_cons, hp]
          rfl
        refine iteF ⟨?_, s2⟩
        rw [e, e2, List.append_nil]
        exact hD
  · obtain ⟨hD, s2⟩ := hP
    rw [List.take_of_length_le (by rw [List.length_drop]; omega)] at hD
    exact q D H2 s2 nD hD
end
def spLPairs (K : PySem.W.Frag) : Sp := fun vs H Q _ => ∃ (v : V) (N : Net) (p : Addr) (os : List Int), vs = [v, .ref p] ∧ Dp K H v (netD N) ∧ NetOk N ∧ SqL K H p (os.map V.int) ∧ OrdOk N.n os ∧ ∀ H' q ts, Same H H' → H q = none → H' q = some (.lst ts) → TupsAt H' ts (pairsL N.ls os) → Q (.ref q) H'
theorem adj_take2 {ls : List Lnk} {i : Nat} {l : Lnk} (h : ls[i]? = some l) {x y : Int} : adj0 (ls.take (i + 1)) x y = true ↔ adj0 (ls.take i) x y = true ∨ (l.a = x ∧ l.b = y) ∨ (l.a = y ∧ l.b = x) := by
  rw [take_snoc h, adj0_iff, adj0_iff]
  constructor
  · rintro ⟨m, hm, e⟩
    rcases List.mem_append.mp hm with hm | hm
    · exact .inl ⟨m, hm, e⟩
    · rw [List.mem_singleton.mp hm] at e
      exact .inr e
  · rintro (⟨m, hm, e⟩ | e)
    · exact ⟨m, List.mem_append.mpr (.inl hm), e⟩
    · exact ⟨l, List.mem_append.mpr (.inr (List.mem_singleton.mpr rfl)), e⟩
section
variable {P : Program} {w : World} {K : PySem.W.Frag} {mg : Str → Option Value} {base : Heap}
end
/-! ### the program's ranks -/
def spRk (K : PySem.W.Frag) (CN : Addr) : Sp := fun vs H Q E => ∃ (p : Addr) (os : List Int), vs = [.ref p] ∧ SqL K H p (os.map V.int) ∧ os.length ≤ 100 ∧
  match badAt os with
  | some k => RaiseTo E H CN (k : Nat)
  | none => ∀ H' q, Same H H' → H q = none → H' q = some (.lst ((rk os).map V.int)) → Q (.ref q) H'
theorem posOf_new : ∀ {os : List Int} {i : Nat} {x : Int}, os[i]? = some x → x ∉ os.take i → posOf x os = i
  | [], _, _, h, _ => by simp at h
  | y :: ys, 0, x, h, _ => if_pos (Option.some.inj h)
  | y :: ys, i + 1, x, h, hn => by
    have h : ys[i]? = some x := h
    rw [List.take_succ_cons, List.mem_cons, not_or] at hn
    show (if y = x then 0 else posOf x ys + 1) = i + 1
    rw [if_neg (fun z => hn.1 z.symm), posOf_new h hn.2]
def fnd (os : List Int) (i : Nat) : List V := (rng os.length).map fun p => if p ∈ os.take i then V.int (posOf p os) else V.non
theorem fnd_len {os : List Int} {i : Nat} : (fnd os i).length = os.length := by
  unfold fnd
  rw [List.length_map, len_rng, Int.toNat_natCast]
theorem fnd_zero {os : List Int} : fnd os 0 = List.replicate os.length V.non := by
  refine List.ext_getElem (by rw [fnd_len, List.length_replicate]) fun p h1 h2 => ?_
  simp only [fnd, List.getElem_map, List.take_zero, List.not_mem_nil, if_false, List.getElem_replicate]
theorem fnd_get {os : List Int} {i : Nat} {x : Int} (h0 : 0 ≤ x) (h1 : x < (os.length : Int)) : (fnd os i)[x.toNat]? = some (if x ∈ os.take i then V.int (posOf x os) else V.non) := by
  have hl : x.toNat < (rng os.length).length := by
    rw [len_rng, Int.toNat_natCast]
    omega
  unfold fnd
  rw [List.getElem?_map, List.getElem?_eq_getElem hl, rng_get hl, show ((x.toNat : Nat) : Int) = x by omega]
  rfl
theorem fnd_succ {os : List Int} {i : Nat} {x : Int} (hx : 0 ≤ x ∧ x < (os.length : Int)) (h : os[i]? = some x) (hn : x ∉ os.take i) : fnd os (i + 1) = (fnd os i).set x.toNat (V.int i) := by
  refine List.ext_getElem (by rw [List.length_set, fnd_len, fnd_len]) fun p h1 h2 => ?_
  rw [List.getElem_set]
  simp only [fnd, List.getElem_map, rng_get]
  rw [take_snoc h]
  by_cases e : x.toNat = p
  · have e2 : (p : Int) = x := by omega
    rw [if_pos e, e2, if_pos (List.mem_append.mpr (.inr (List.mem_singleton.mpr rfl))), posOf_new h hn]
  · have e2 : ¬ (p : Int) = x := fun z => e (by omega)
    rw [if_neg e]
    by_cases c : (p : Int) ∈ os.take i
    · rw [if_pos c, if_pos (List.mem_append.mpr (.inl c))]
    · rw [if_neg c, if_neg (fun z => by
        rcases List.mem_append.mp z with z | z
        · exact c z
        · exact e2 (List.mem_singleton.mp z))]
theorem fnd_end {os : List Int} (ok : OrdOk os.length os) : fnd os os.length = (rk os).map V.int := by
  unfold fnd rk
  rw [List.take_length, List.map_map]
  exact List.map_congr_left fun p hp => if_pos (ok.mem.mpr (mem_rng.mp hp))
theorem flat_rep {x : V} : ∀ n : Nat, (List.replicate n [x]).flatten = List.replicate n x
  | 0 => rfl
  | n + 1 => by
    rw [List.replicate_succ, List.flatten_cons, flat_rep n]
    rfl
theorem vn_rep {σ : L2.St} {H : Hp} {ta tb : TE} {x : V} {n : Nat} (ha : Vl ta σ H x) (hb2 : ∀ H', Same H H' → Vl tb σ H' (.int (n : Nat))) (hn : n ≤ 1000) : Vn (tOp rRep (tLst (tCons ta tNil)) tb) σ H (List.replicate n x) := fun Q q =>
  ha _ ⟨by show 1 ≤ sizeLine; decide, fun p np => hb2 _ (same_upd np) _ ⟨p, _, _, rfl, rfl, upd_same, by omega, by omega, by
    rw [Int.toNat_natCast]
    show 1 * n ≤ sizeLine
    rw [Nat.one_mul]
    exact Nat.le_trans hn (by decide), fun t nt => by
    rw [Int.toNat_natCast, flat_rep]
    exact q t _ ((same_upd np).trans (same_upd nt)) (Same.free (same_upd np) nt) upd_same⟩⟩
abbrev sRanks : Stmt := topS 21
theorem scRanks : FnScope ["order", "n", "found", "rank", "place"] ["order"] (defScope sRanks) := ⟨rfl, rfl, rfl, by decide +kernel, rfl, by decide +kernel, by decide +kernel⟩
section
variable {P : Program} {w : World} {K : PySem.W.Frag} {mg : Str → Option Value} {base : Heap} {CN fI : Addr}
theorem ok_ranks {f : Addr} {fd : FuncData} (F : Fun K "ranks" "ranks" sRanks f fd) (hN : PySem.LowX.LowTxt K mg "NotAnOrder" CN fI) (ml : mg "len" = none) (me : mg "enumerate" = none) : FnOk P w K mg base (L2.CX P w) 2 f fd ["order"] (spRk K CN) := by
  refine F.okX scRanks (fun vs H Q E h => ?_) (fun cdv A outer s H vs Q E hr h => ?_)
  · obtain ⟨p, os, rfl, _⟩ := h
    rfl
  · obtain ⟨p, os, rfl, hS, hl, q⟩ := h
    refine ⟨_, pss_cons (ps_set (i := 1) scRanks.nd rfl (.inl rfl) (pe_callB call_len_seq (by rfl) ml PySem.boot_len (pa_cons (pv 0) pa_nil)))
      (pss_cons (ps_set (i := 2) scRanks.nd rfl (.inl rfl) (pe_op op_rep (pe_lst (pa_cons pe_non pa_nil)) (pv 1)))
      (pss_cons (ps_for (passes_of rfl) rfl (pi_enum (by rfl) me (pa_cons (pv 0) pa_nil)) (pg_tup rfl (pgs_cons (pg_name (i := 3) scRanks.nd rfl (.inl rfl)) (pgs_cons (pg_name (i := 4) scRanks.nd rfl (.inl rfl)) pgs_nil)))
      (pss_cons (ps_if (PW.pt (pw_or (pt_not (pt_chain op_le op_lt pe_int (pv 4) (pv 1))) (pw_or1 (pt_cmpR op_notN (pe_ix ix_list (pv 2) (pv 4) (fun _ _ => rfl)) pe_non (nomark _)))))
        (pss_one (ps_raiseLow rfl hN hr (takes_of rfl rfl rfl rfl) (by exact (pa_cons (pv 3) pa_nil))))
        pss_nil)
        (pss_one (ps_asg (pv 3) (pg_sub (pv 2) (pv 4) set_list)))))
      (pss_one (ps_ret (pv 2))))), ?_⟩
    refine q_asg (vl_lenI (vl_var rfl) hS) ?_
    refine q_asgN (xs := fnd os 0) (by
      rw [fnd_zero]
      exact vn_rep vl_c (fun _ _ => vl_var rfl) (by omega)) fun o H2 s2 no ho => ?_
    refine ⟨.ref p, rfl, p, _, rfl, s2.seq hS, for_en (xs := os.map V.int)
      (fun i σ H4 => ∃ y3 y4, σ = [some (.ref p), some (.int os.length), some (.ref o), y3, y4] ∧ Same H (but H4 o) ∧ H4 o = some (.lst (fnd os i)) ∧ badAt os = fb os.length (os.take i) (os.drop i) i)
      ⟨none, none, rfl, same_but s2 no, ho, rfl⟩ (fun i σ H4 hP => ?_) (fun i x T2 σ H4 hi hP nT2 => ?_) (fun σ H4 hP => ?_)⟩
    · obtain ⟨_, _, _, s4, _⟩ := hP
      exact (s4.trans but_same).seq hS
    · obtain ⟨y3, y4, rfl, s4, ho4, eb⟩ := hP
      have hi2 : i < os.length := by
        have := (List.getElem?_eq_some_iff.mp hi).1
        rw [List.length_map] at this
        exact this
      have hg : os[i]? = some os[i] := List.getElem?_eq_getElem hi2
      rw [List.getElem?_map, hg] at hi
      cases hi
      have ed : os.drop i = os[i] :: os.drop (i + 1) := List.drop_eq_getElem_cons hi2
      rw [ed] at eb
      generalize os[i] = x at hg eb ⊢
      have eb : badAt os = if (0 ≤ x ∧ x < (os.length : Int)) ∧ x ∉ os.take i then fb os.length (os.take i ++ [x]) (os.drop (i + 1)) (i + 1) else some i := eb
      have sH := s4.trans but_same
      refine ⟨T2, _, rfl, .of upd_same, rfl, _, _, rfl, _, _, rfl, rfl, ?_⟩
      have s6 : Same H4 (upd H4 T2 (.tup [.int (i : Nat), .int x])) := same_upd nT2
      have ho5 := s6 _ _ ho4
      have s46 : Same (but H4 o) (but (upd H4 T2 (.tup [.int (i : Nat), .int x])) o) := but_mono s6
      generalize upd H4 T2 (.tup [.int (i : Nat), .int x]) = H5 at s6 ho5 s46 ⊢
      refine q_when (b := !(decide ((0 : Int) ≤ x) && decide (x < (os.length : Int))) || decide (x ∈ os.take i)) ?_ (fun hb => ?_) (fun hb => ?_)
      · refine an_or (an_not (an_test (vl_chainI vl_c (vl_var rfl) (vl_var rfl)))) fun hk => ?_
        rw [Bool.not_eq_false', Bool.and_eq_true, decide_eq_true_eq, decide_eq_true_eq] at hk
        have g := atI_nat (fnd_get (i := i) hk.1 hk.2)
        rw [show ((x.toNat : Nat) : Int) = x by omega] at g
        refine (an_test (vl_notN (vl_ixL (K := K) (vl_var rfl) (vl_var rfl) (.of ho5) g))).is ?_
        by_cases c : x ∈ os.take i
        · rw [if_pos c, decide_eq_true c]
          rfl
        · rw [if_neg c, decide_eq_false c]
          rfl
      · rw [if_neg (fun c => by
          rw [decide_eq_true c.1.1, decide_eq_true c.1.2, decide_eq_false c.2] at hb
          exact absurd hb (by decide))] at eb
        rw [eb] at q
        exact raise_now (va_cons (vl_var rfl) va_nil) (q.to (sH.trans s6))
      · rw [Bool.or_eq_false_iff, Bool.not_eq_false', Bool.and_eq_true, decide_eq_true_eq, decide_eq_true_eq, decide_eq_false_iff_not] at hb
        rw [if_pos hb] at eb
        refine ⟨.int i, rfl, .ref o, rfl, .int x, rfl, o, _, x, x.toNat, rfl, rfl, ho5, ?_, ?_⟩
        · unfold ixN
          rw [if_pos hb.1.1, fnd_len, if_pos (by omega)]
        · refine ⟨_, _, rfl, ?_, ?_, ?_⟩
          · rw [but_upd]
            exact s4.trans s46
          · rw [upd_same, fnd_succ hb.1 hg hb.2]
          · rw [eb, take_snoc hg]
    · obtain ⟨y3, y4, rfl, s4, ho4, eb⟩ := hP
      rw [List.length_map] at ho4 eb
      rw [List.take_length, List.drop_length] at eb
      have eb : badAt os = none := eb
      rw [eb] at q
      rw [fnd_end (bad_none eb)] at ho4
      exact g_ret (vl_var rfl) (q H4 o (s4.trans but_same) no ho4)
end
end Ovc
namespace CpCmb
def cmbs {α : Type} : List α → List (α × α)
  | [] => []
  | x :: xs => xs.map (fun y => (x, y)) ++ cmbs xs
theorem cmbs_map {α β : Type} (f : α → β) : ∀ xs : List α, cmbs (xs.map f) = (cmbs xs).map fun p => (f p.1, f p.2)
  | [] => rfl
  | x :: xs => by
    show (xs.map f).map (fun y => (f x, y)) ++ cmbs (xs.map f) = (xs.map (fun y => (x, y)) ++ cmbs xs).map fun p => (f p.1, f p.2)
    rw [List.map_append, cmbs_map f xs, List.map_map, List.map_map]
    rfl
theorem mem_cmbs_lt {α : Type} : ∀ (xs : List α) (p : α × α), p ∈ cmbs xs → p.1 ∈ xs ∧ p.2 ∈ xs
  | x :: xs, p, h => by
    rcases List.mem_append.mp h with h | h
    · obtain ⟨y, hy, rfl⟩ := List.mem_map.mp h
      exact ⟨List.mem_cons_self, List.mem_cons_of_mem _ hy⟩
    · have := mem_cmbs_lt xs p h
      exact ⟨List.mem_cons_of_mem _ this.1, List.mem_cons_of_mem _ this.2⟩
def nx2 (n : Nat) (p : Nat × Nat) : Option (Nat × Nat) :=
  if p.2 ≠ n - 1 then some (p.1, p.2 + 1) else if p.1 ≠ n - 2 then some (p.1 + 1, p.1 + 2) else none
theorem nx2_run {n : Nat} : ∀ (m a k : Nat) (p : Nat × Nat), a + m = n → (cmbs (List.range' a m))[k]? = some p → nx2 n p = (cmbs (List.range' a m))[k + 1]?
  | 0, a, k, p, _, h => by cases h
  | m + 1, a, k, p, e, h => by
    have e1 : cmbs (List.range' a (m + 1)) = (List.range' (a + 1) m).map (fun y => (a, y)) ++ cmbs (List.range' (a + 1) m) := by
      rw [List.range'_succ] <;> rfl
    rw [e1] at h ⊢
    have hl : ((List.range' (a + 1) m).map fun y => (a, y)).length = m := by rw [List.length_map, List.length_range']
    by_cases hk : k < m
    · rw [List.getElem?_append_left (by rw [hl]; exact hk), List.getElem?_map, List.getElem?_range' hk] at h
      have hp : p = (a, a + 1 + 1 * k) := (Option.some.inj h).symm
      subst hp
      by_cases hk1 : k + 1 < m
      · rw [List.getElem?_append_left (by rw [hl]; exact hk1), List.getElem?_map, List.getElem?_range' hk1]
        show (if a + 1 + 1 * k ≠ n - 1 then some (a, a + 1 + 1 * k + 1) else _) = _
        rw [if_pos (by omega)]
        show some (a, a + 1 + 1 * k + 1) = some (a, a + 1 + 1 * (k + 1))
        congr 2
      · rw [List.getElem?_append_right (by rw [hl]; omega), hl]
        have ek : k + 1 - m = 0 := by omega
        rw [ek]
        show (if a + 1 + 1 * k ≠ n - 1 then _ else if a ≠ n - 2 then some (a + 1, a + 2) else none) = _
        rw [if_neg (by omega)]
        by_cases hm : m = 1
        · subst hm
          rw [if_neg (by omega)] <;> rfl
        · rw [if_pos (by omega)]
          obtain ⟨m2, rfl⟩ : ∃ m2, m = m2 + 2 := ⟨m - 2, by omega⟩
          rw [List.range'_succ, List.range'_succ] <;> rfl
    · rw [List.getElem?_append_right (by rw [hl]; omega), hl] at h
      rw [List.getElem?_append_right (by rw [hl]; omega), hl, show k + 1 - m = k - m + 1 by omega]
      exact nx2_run m (a + 1) (k - m) p (by omega) h
theorem nx2_at {n k : Nat} {p : Nat × Nat} (h : (cmbs (List.range n))[k]? = some p) : nx2 n p = (cmbs (List.range n))[k + 1]? := by
  rw [List.range_eq_range'] at h ⊢
  exact nx2_run n 0 k p (by omega) h
theorem cmbs_first {n : Nat} (h : 2 ≤ n) : (cmbs (List.range n))[0]? = some (0, 1) := by
  obtain ⟨m, rfl⟩ : ∃ m, n = m + 2 := ⟨n - 2, by omega⟩
  rw [List.range_eq_range', List.range'_succ, List.range'_succ] <;> rfl
theorem cmbs_none {n : Nat} (h : n < 2) : cmbs (List.range n) = [] := by
  match n, h with
  | 0, _ => rfl
  | 1, _ => rfl
theorem map_range_get {α : Type} (d : α) (xs : List α) : (List.range xs.length).map (fun i => xs.getD i d) = xs := by
  apply List.ext_getElem?
  intro i
  rw [List.getElem?_map]
  by_cases h : i < xs.length
  · rw [List.getElem?_range h, List.getElem?_eq_getElem h]
    show some (xs.getD i d) = _
    rw [List.getD_eq_getElem?_getD, List.getElem?_eq_getElem h] <;> rfl
  · rw [List.getElem?_eq_none (by rw [List.length_range]; omega), List.getElem?_eq_none (by omega)] <;> rfl
theorem cmbs_ix {α : Type} (d : α) (xs : List α) : cmbs xs = (cmbs (List.range xs.length)).map fun p => (xs.getD p.1 d, xs.getD p.2 d) := by
  exact (congrArg cmbs (map_range_get d xs)).symm.trans (cmbs_map _ _)
theorem cmbs_len {α : Type} (xs : List α) : (cmbs xs).length = (cmbs (List.range xs.length)).length := by
  cases xs with
  | nil => rfl
  | cons x xs => rw [cmbs_ix x, List.length_map]
end CpCmb
namespace CpCmb
open PySem PySem.Spec
open Sem (wp)
theorem mro_cmb : mroOf (.type "itertools.combinations") = pure [.type "itertools.combinations", .type "object"] := by rw [mroOf_type]; kernel_rfl
theorem lookup_cmb_new : typeLookup (.type "itertools.combinations") "__new__" = pure (some (.builtin "itertools.combinations.__new__")) := by rw [typeLookup_type, builtinLookup_eq_fast]; kernel_rfl
theorem slot_cmb_init : Slot "itertools.combinations" "__init__" "object.__init__" :=
  .of (owner := "object") (n := "__init__") (by rw [typeLookup_type, builtinLookup_eq_fast]; kernel_rfl) (by decide +kernel) (by decide +kernel) (by decide +kernel)
    (by first | exact .inl (by decide +kernel) | exact .inr (by decide +kernel)) (by rw [isSubtype_type]; kernel_rfl)
theorem sub_cmb : isSubtype (.type "itertools.combinations") (.type "itertools.combinations") = pure true := by rw [isSubtype_type]; kernel_rfl
theorem called_cmb : TypeCalled "itertools.combinations" "itertools.combinations.__new__" "object.__init__" :=
  ⟨by decide +kernel, by decide +kernel, ⟨_, _, mro_cmb⟩, madeBy_type mro_cmb lookup_cmb_new (by decide +kernel), by decide +kernel, sub_cmb, slot_cmb_init⟩
theorem plain_cmb_new : plainId "itertools.combinations.__new__" = true := by decide +kernel
theorem typeCall_cmb_2 (a b : Value) : checkTypeCall "itertools.combinations" ⟨[a, b], []⟩ = pure () := by kernel_rfl
theorem newCall_cmb_2 (a b : Value) : checkBuiltinCall "itertools.combinations.__new__" ⟨[.type "itertools.combinations", a, b], []⟩ = pure () := by kernel_rfl
theorem entry_cmb_new : entryFor table "itertools.combinations.__new__" = some Builtin.«itertools.combinations.__new__» := entryFor_of_tree (by kernel_rfl)
theorem slot_cmb_iter : Slot "itertools.combinations" "__iter__" "itertools.combinations.__iter__" :=
  .of (owner := "itertools.combinations") (n := "__iter__") (by rw [typeLookup_type, builtinLookup_eq_fast]; kernel_rfl) (by decide +kernel) (by decide +kernel) (by decide +kernel)
    (by first | exact .inl (by decide +kernel) | exact .inr (by decide +kernel)) sub_cmb
theorem slot_cmb_next : Slot "itertools.combinations" "__next__" "itertools.combinations.__next__" :=
  .of (owner := "itertools.combinations") (n := "__next__") (by rw [typeLookup_type, builtinLookup_eq_fast]; kernel_rfl) (by decide +kernel) (by decide +kernel) (by decide +kernel)
    (by first | exact .inl (by decide +kernel) | exact .inr (by decide +kernel)) sub_cmb
theorem entry_cmb_iter : entryFor table "itertools.combinations.__iter__" = some Builtin.«dict_keyiterator.__iter__» :=
  entryFor_alias (id' := "dict_keyiterator.__iter__") (by kernel_rfl) (by first | rfl | decide +kernel | (unfold String.splitOn; simp +decide [String.splitOnAux])) (by decide +kernel) (by kernel_rfl)
theorem entry_cmb_next : entryFor table "itertools.combinations.__next__" = some Builtin.«itertools.combinations.__next__» := entryFor_of_tree (by kernel_rfl)
theorem owner_cmb : Manifest.owners.lookup (String.ofList ['s', 'n', 'o', 'i', 't', 'a', 'n', 'i', 'b', 'm', 'o', 'c', '.', 's', 'l', 'o', 'o', 't', 'r', 'e', 't', 'i'].reverse) = some Manifest.sig_itertools_combinations := by kernel_rfl
theorem args_cmb_iter (a : Value) : argsOk "itertools.combinations.__iter__" ⟨[a], []⟩ := by
  unfold argsOk; rw [signature?_of (id := "itertools.combinations.__iter__") (n := ['_', '_', 'r', 'e', 't', 'i', '_', '_']) (o := ['s', 'n', 'o', 'i', 't', 'a', 'n', 'i', 'b', 'm', 'o', 'c', '.', 's', 'l', 'o', 'o', 't', 'r', 'e', 't', 'i']) (by kernel_rfl) owner_cmb]; kernel_rfl
theorem args_cmb_next (a : Value) : argsOk "itertools.combinations.__next__" ⟨[a], []⟩ := by
  unfold argsOk; rw [signature?_of (id := "itertools.combinations.__next__") (n := ['_', '_', 't', 'x', 'e', 'n', '_', '_']) (o := ['s', 'n', 'o', 'i', 't', 'a', 'n', 'i', 'b', 'm', 'o', 'c', '.', 's', 'l', 'o', 'o', 't', 'r', 'e', 't', 'i']) (by kernel_rfl) owner_cmb]; kernel_rfl
theorem noDict_cmb : typeHasDict (.type "itertools.combinations") = false := by decide +kernel

/-- the object: the tuple it goes over, where it stands (0 new, 1 going, 2 at its end), the last result, the two numbers -/
abbrev IsCmb (h : Heap) (it pool : Addr) (st : Int) (last : Value) (i j : Nat) : Prop := h.get? it = some { cls := .type "itertools.combinations", dict := none, data := .fields #[.ref pool, .int st 0, last, .int i 0, .int j 0], slots := #[] }
abbrev IsPool (h : Heap) (pool : Addr) (vs : Array Value) : Prop := h.get? pool = some { cls := .type "tuple", data := .seq vs }
section
variable {prog : Program} {w : World} {A : Around} {E : Value → Shared → Prop} {s : Shared}
theorem code_cmb_new {l : Addr} {vs : List Value} {t : Tok} {Q₁ : Value → Shared → Prop} (hl : s.heap.IsList l vs.toArray) (hsz : vs.length ≤ sizeLine)
    (h : ∀ h' it pool, s.heap.objs.size ≤ pool → s.heap.objs.size ≤ it → pool ≠ it → IsPool h' pool vs.toArray → IsCmb h' it pool (if 2 > vs.length then 2 else 0) .none 0 1 → (∀ b o, s.heap.get? b = some o → h'.get? b = some o) → Q₁ (.ref it) { s with heap := h' }) :
    codeAny (model prog w) A (.call (.builtin "itertools.combinations.__new__") ⟨[.type "itertools.combinations", .ref l, .int 2 t], []⟩) (wants Q₁ E) s := by
  refine codeAny_of_tree ?_
  show wpAny _ A.in1 (do checkBuiltinCall "itertools.combinations.__new__" ⟨[.type "itertools.combinations", .ref l, .int 2 t], []⟩; again (.builtin "itertools.combinations.__new__" ⟨[.type "itertools.combinations", .ref l, .int 2 t], []⟩)) _ _ s
  refine wpAny_bind (wpAny_of_eq (newCall_cmb_2 _ _) (wpAny_pure ⟨plainId_quiet plain_cmb_new _, codeAny_builtin entry_cmb_new ?_⟩))
  rw [Around.under_plainId plain_cmb_new _]
  have hsub := sub_cmb
  have hd := noDict_cmb
  obtain ⟨hp, g, dd, tk, os⟩ := s
  have hcol : ∀ (A : Around) (E : Value → Shared → Prop) (Q : List Value → Shared → Prop), Q vs { heap := (hp.push (PyProof.Rows.seqObj "list" #[] 0)).update hp.objs.size (Obj.mapSeq (· ++ vs.toArray)), gens := g, drawn := dd, toks := tk, os := os } → wpAny (model prog w) A (collect (.ref l)) Q E ⟨hp, g, dd, tk, os⟩ :=
    fun A E Q q => PyProof.Rows.collect_list hl q hsz
  have hcat : ("itertools." ++ "combinations" : String) = "itertools.combinations" := by decide +kernel
  refine wpAny_bind ?_
  show wpAny _ _ (Builtin.Itertools.itClassAndRest "combinations" _ >>= _) _ _ _
  refine wpAny_bind ?_
  unfold Builtin.Itertools.itClassAndRest
  simp only [hcat]
  repeat (first
    | (refine hcol _ _ _ ?_)
    | wp_step
    | simp only [List.head?_cons, Option.some_or, List.getElem?_cons_succ, List.getElem?_cons_zero, List.length_cons, List.length_nil, List.forIn_nil])
  have hz : ∀ (h : Heap) (a : Addr) (f : Obj → Obj), (h.update a f).objs.size = h.objs.size := fun h a f => by
    unfold Heap.update
    simp
  refine h _ _ ((hp.push (PyProof.Rows.seqObj "list" #[] 0)).update hp.objs.size (Obj.mapSeq (· ++ vs.toArray))).objs.size ?_ ?_ ?_ (Heap.get?_push_of_some _ (Heap.get?_push_size _ rfl)) (Heap.get?_push_size _ rfl) fun b o e => ?_
  · rw [hz, Heap.size_push]
    exact Nat.le_succ _
  · rw [Heap.size_push, hz, Heap.size_push]
    show hp.objs.size ≤ _
    omega
  · rw [Heap.size_push]
    omega
  · refine Heap.get?_push_of_some _ (Heap.get?_push_of_some _ ?_)
    exact (Heap.get?_update_other _ _ (Nat.ne_of_gt (Heap.lt_size e))).trans (Heap.get?_push_of_some _ e)
theorem call_cmb {l : Addr} {vs : List Value} {t : Tok} {Q : Value → Shared → Prop} (hl : s.heap.IsList l vs.toArray) (hsz : vs.length ≤ sizeLine)
    (h : ∀ h' it pool, s.heap.objs.size ≤ pool → s.heap.objs.size ≤ it → pool ≠ it → IsPool h' pool vs.toArray → IsCmb h' it pool (if 2 > vs.length then 2 else 0) .none 0 1 → (∀ b o, s.heap.get? b = some o → h'.get? b = some o) → Q (.ref it) { s with heap := h' }) :
    wpAny (model prog w) A (call (.type "itertools.combinations") [.ref l, .int 2 t]) Q E s := by
  refine callType_codes (Q₁ := fun obj s₁ => s₁.TypeIs obj "itertools.combinations" ∧ Q obj s₁) called_cmb (typeCall_cmb_2 _ _) F.entry_object_init
    (code_cmb_new (A := A.in1) hl hsz fun h' it pool e1 e2 e3 hp hc hk => ⟨⟨_, hc, rfl⟩, h h' it pool e1 e2 e3 hp hc hk⟩) fun obj s₁ h₁ => ?_
  exact ⟨h₁.1, F.args_object_init_3 obj _ _, object_init_meets called_cmb.init.lookup called_cmb.made (by decide) prog w A.in1 _ s₁ ⟨h₁.1, rfl, h₁.2⟩⟩
theorem iter_cmb {it pool : Addr} {st : Int} {last : Value} {i j : Nat} {Q : Value → Shared → Prop} (hit : IsCmb s.heap it pool st last i j) (h : Q (.ref it) s) : wpAny (model prog w) A (pyIter (.ref it)) Q E s := by
  have hT : s.TypeIs (.ref it) "itertools.combinations" := ⟨_, hit, rfl⟩
  refine wpAny_pyIter_slot hT slot_cmb_iter (wpAny_call_entry slot_cmb_iter hT entry_cmb_iter ?_ (args_cmb_iter _))
  show wpAny _ _ (ret (.ref it)) _ _ s
  exact wpAny_pure ⟨_, rfl, "itertools.combinations", _, hT, slot_cmb_next.lookup, h⟩
/-- what is handed out -/
theorem next_cmb_0 {it pool : Addr} {vs : Array Value} {x y : Value} {last : Value} {i j : Nat} {Q : Option Value → Shared → Prop} (hne : pool ≠ it) (hit : IsCmb s.heap it pool 0 last i j) (hp : IsPool s.heap pool vs) (hx : vs.getD i .none = x) (hy : vs.getD j .none = y)
    (hQ : ∀ h', IsCmb h' it pool 1 (.ref s.heap.objs.size) i j → h'.get? s.heap.objs.size = some { cls := .type "tuple", data := .seq #[x, y] } → (∀ b o, b ≠ it → s.heap.get? b = some o → h'.get? b = some o) → Q (some (.ref s.heap.objs.size)) { s with heap := h' }) :
    wpAny (model prog w) A (pyNext (.ref it)) Q E s := by
  have hT : s.TypeIs (.ref it) "itertools.combinations" := ⟨_, hit, rfl⟩
  unfold pyNext
  refine wpAny_bind (wpAny_attempt (wpAny_callSpecial?_slot (name := Str.ofString "__next__") hT slot_cmb_next (wpAny_call_entry slot_cmb_next hT entry_cmb_next ?_ (args_cmb_next _))))
  show wpAny _ _ (field (.ref it) 0 >>= _) _ _ s
  refine wpAny_bind (wpAny_field hit rfl (x := .ref pool) rfl ?_)
  refine wpAny_bind ?_
  show wpAny _ _ (load it >>= _) _ _ s
  refine wpAny_bind (wpAny_load hit (wpAny_pure ?_))
  refine wpAny_bind ?_
  show wpAny _ _ (field (.ref it) 1 >>= _) _ _ s
  refine wpAny_bind (wpAny_field hit rfl (x := .int 0 0) rfl (wpAny_pure ?_))
  show wpAny _ _ (setField (.ref it) 1 (rawInt 1) >>= _) _ _ s
  refine wpAny_bind (wpAny_setField_rec hit (by simp) fun h₁ hit₁ hs₁ => ?_)
  replace hit₁ : IsCmb h₁ it pool 1 last i j := hit₁
  have hp₁ : IsPool h₁ pool vs := (hs₁.2 _ hne).trans hp
  refine wpAny_bind ?_
  show wpAny _ _ (Builtin.Itertools.itPoolItems (.ref pool) >>= _) _ _ _
  refine wpAny_bind ?_
  show wpAny _ _ (seqItems? (.ref pool) >>= _) _ _ _
  refine wpAny_bind (wpAny_seqItems hp₁ rfl (wpAny_pure ?_))
  show wpAny _ _ (newTuple [vs.getD i .none, vs.getD j .none]) _ _ _
  rw [hx, hy]
  refine wpAny_newTuple ?_ (by show 2 ≤ sizeLine; decide)
  have hit₂ : IsCmb (h₁.push { cls := .type "tuple", data := .seq #[x, y] }) it pool 1 last i j := Heap.get?_push_of_some _ hit₁
  refine wpAny_bind (wpAny_field hit₂ rfl (x := last) rfl ?_)
  refine wpAny_bind (wpAny_setField_rec hit₂ (by simp) fun h₃ hit₃ hs₃ => ?_)
  have hsz : h₁.objs.size = s.heap.objs.size := hs₁.1
  have hlt : it < s.heap.objs.size := Heap.lt_size hit
  refine wpAny_bind (wpAny_letGo ?_)
  refine wpAny_pure ⟨_, rfl, wpAny_pure ?_⟩
  show Q (some (.ref h₁.objs.size)) _
  rw [hsz]
  refine hQ h₃ ?_ ?_ fun b o hb e => ?_
  · replace hit₃ : IsCmb h₃ it pool 1 (.ref h₁.objs.size) i j := hit₃
    rw [← hsz]
    exact hit₃
  · rw [← hsz]
    exact (hs₃.2 _ (by rw [hsz]; exact Nat.ne_of_gt hlt)).trans (Heap.get?_push_size _ rfl)
  · exact (hs₃.2 _ hb).trans (Heap.get?_push_of_some _ ((hs₁.2 _ hb).trans e))
def nc (n : Nat) (indices : List Nat) : Option (List Nat) :=
  let r := indices.length
  match (List.range r).reverse.find? fun i => indices.getD i 0 != i + n - r with
  | none => none
  | some i => some (indices.take i ++ (List.range (r - i)).map (indices.getD i 0 + 1 + ·))
theorem nc_eq {n i j : Nat} (h : 2 ≤ n) : nc n [i, j] = (nx2 n (i, j)).map fun p => [p.1, p.2] := by
  have er : (List.range 2).reverse = [1, 0] := by decide
  have e1 : (1 + n - 2) = n - 1 := by omega
  have e0 : (0 + n - 2) = n - 2 := by omega
  show (match (List.range 2).reverse.find? fun k => [i, j].getD k 0 != k + n - 2 with
    | none => none
    | some k => some ([i, j].take k ++ (List.range (2 - k)).map ([i, j].getD k 0 + 1 + ·))) = _
  rw [er]
  unfold nx2
  by_cases h1 : j = n - 1
  · have b1 : ([i, j].getD 1 0 != 1 + n - 2) = false := by
      show (j != 1 + n - 2) = false
      rw [e1, h1]
      exact bne_self_eq_false _
    by_cases h2 : i = n - 2
    · have b2 : ([i, j].getD 0 0 != 0 + n - 2) = false := by
        show (i != 0 + n - 2) = false
        rw [e0, h2]
        exact bne_self_eq_false _
      rw [List.find?_cons, b1]
      dsimp only
      rw [List.find?_cons, b2]
      dsimp only
      rw [if_neg (by simpa using h1), if_neg (by simpa using h2)] <;> rfl
    · have b2 : ([i, j].getD 0 0 != 0 + n - 2) = true := by
        show (i != 0 + n - 2) = true
        rw [e0]
        exact bne_iff_ne.mpr h2
      rw [List.find?_cons, b1]
      dsimp only
      rw [List.find?_cons, b2]
      dsimp only
      rw [if_neg (by simpa using h1), if_pos (by simpa using h2)] <;> rfl
  · have b1 : ([i, j].getD 1 0 != 1 + n - 2) = true := by
      show (j != 1 + n - 2) = true
      rw [e1]
      exact bne_iff_ne.mpr h1
    rw [List.find?_cons, b1]
    dsimp only
    rw [if_pos (by simpa using h1)] <;> rfl
theorem next_cmb_1 {it pool : Addr} {vs : Array Value} {x y : Value} {last : Value} {i j i' j' : Nat} {Q : Option Value → Shared → Prop} (hne : pool ≠ it) (hit : IsCmb s.heap it pool 1 last i j) (hp : IsPool s.heap pool vs) (h2 : 2 ≤ vs.size) (hn : nx2 vs.size (i, j) = some (i', j')) (hx : vs.getD i' .none = x) (hy : vs.getD j' .none = y)
    (hQ : ∀ h', IsCmb h' it pool 1 (.ref s.heap.objs.size) i' j' → h'.get? s.heap.objs.size = some { cls := .type "tuple", data := .seq #[x, y] } → (∀ b o, b ≠ it → s.heap.get? b = some o → h'.get? b = some o) → Q (some (.ref s.heap.objs.size)) { s with heap := h' }) :
    wpAny (model prog w) A (pyNext (.ref it)) Q E s := by
  have hT : s.TypeIs (.ref it) "itertools.combinations" := ⟨_, hit, rfl⟩
  unfold pyNext
  refine wpAny_bind (wpAny_attempt (wpAny_callSpecial?_slot (name := Str.ofString "__next__") hT slot_cmb_next (wpAny_call_entry slot_cmb_next hT entry_cmb_next ?_ (args_cmb_next _))))
  show wpAny _ _ (field (.ref it) 0 >>= _) _ _ s
  refine wpAny_bind (wpAny_field hit rfl (x := .ref pool) rfl ?_)
  refine wpAny_bind ?_
  show wpAny _ _ (load it >>= _) _ _ s
  refine wpAny_bind (wpAny_load hit (wpAny_pure ?_))
  refine wpAny_bind ?_
  show wpAny _ _ (field (.ref it) 1 >>= _) _ _ s
  refine wpAny_bind (wpAny_field hit rfl (x := .int 1 0) rfl (wpAny_pure ?_))
  show wpAny _ _ (Builtin.Itertools.itPoolItems (.ref pool) >>= _) _ _ _
  refine wpAny_bind ?_
  show wpAny _ _ (seqItems? (.ref pool) >>= _) _ _ _
  refine wpAny_bind (wpAny_seqItems hp rfl (wpAny_pure ?_))
  have hnc : nc vs.size [i, j] = some [i', j'] := by rw [nc_eq h2, hn] <;> rfl
  split
  case h_2 hq => exact absurd (hq.symm.trans hnc) (by simp)
  case h_1 next hq =>
  have en : next = [i', j'] := Option.some.inj (hq.symm.trans hnc)
  subst en
  refine wpAny_bind ?_
  show wpAny _ _ (Builtin.Itertools.itSetNumbersFrom (.ref it) 3 [i', j']) _ _ _
  unfold Builtin.Itertools.itSetNumbersFrom
  try dsimp only
  refine wpAny_updateFields hit rfl ?_ (by rw [Array.size_append]; show _ ≤ sizeLine + 3; simp; decide)
  have hit₁ : IsCmb (s.heap.update it (Obj.mapFields fun fs => fs.extract 0 3 ++ (List.map (fun (n : Nat) => rawInt n) [i', j']).toArray)) it pool 1 last i' j' := by
    refine (Heap.get?_update_self _ hit rfl).trans ?_
    rfl
  have hs₁ : Heap.SameBut it s.heap (s.heap.update it (Obj.mapFields fun fs => fs.extract 0 3 ++ (List.map (fun (n : Nat) => rawInt n) [i', j']).toArray)) := Heap.SameBut.update ..
  generalize s.heap.update it (Obj.mapFields fun fs => fs.extract 0 3 ++ (List.map (fun (n : Nat) => rawInt n) [i', j']).toArray) = h₁ at hit₁ hs₁
  have hp₁ : IsPool h₁ pool vs := (hs₁.2 _ hne).trans hp
  refine wpAny_bind ?_
  show wpAny _ _ (Builtin.Itertools.itPoolItems (.ref pool) >>= _) _ _ _
  refine wpAny_bind ?_
  show wpAny _ _ (seqItems? (.ref pool) >>= _) _ _ _
  refine wpAny_bind (wpAny_seqItems hp₁ rfl (wpAny_pure ?_))
  show wpAny _ _ (newTuple [vs.getD i' .none, vs.getD j' .none]) _ _ _
  rw [hx, hy]
  refine wpAny_newTuple ?_ (by show 2 ≤ sizeLine; decide)
  have hit₂ : IsCmb (h₁.push { cls := .type "tuple", data := .seq #[x, y] }) it pool 1 last i' j' := Heap.get?_push_of_some _ hit₁
  refine wpAny_bind (wpAny_field hit₂ rfl (x := last) rfl ?_)
  refine wpAny_bind (wpAny_setField_rec hit₂ (by simp) fun h₃ hit₃ hs₃ => ?_)
  have hsz : h₁.objs.size = s.heap.objs.size := hs₁.1
  have hlt : it < s.heap.objs.size := Heap.lt_size hit
  refine wpAny_bind (wpAny_letGo ?_)
  refine wpAny_pure ⟨_, rfl, wpAny_pure ?_⟩
  show Q (some (.ref h₁.objs.size)) _
  rw [hsz]
  refine hQ h₃ ?_ ?_ fun b o hb e => ?_
  · replace hit₃ : IsCmb h₃ it pool 1 (.ref h₁.objs.size) i' j' := hit₃
    rw [← hsz]
    exact hit₃
  · rw [← hsz]
    exact (hs₃.2 _ (by rw [hsz]; exact Nat.ne_of_gt hlt)).trans (Heap.get?_push_size _ rfl)
  · exact (hs₃.2 _ hb).trans (Heap.get?_push_of_some _ ((hs₁.2 _ hb).trans e))
theorem stop_cmb {it : Addr} {Q : Option Value → Shared → Prop} (hh : A.handled = none) (hQ : ∀ h', (∀ b o, b ≠ it → s.heap.get? b = some o → h'.get? b = some o) → Q none { s with heap := h' }) :
    wpAny (model prog w) A.in1 (Builtin.Itertools.itStop (α := Fin)) (fun fin s' => ∃ v, fin = Fin.done (Flow.ret v) ∧ wpAny (model prog w) A (match (Except.ok (some v) : Except Value (Option Value)) with
      | Except.ok (some v) => pure (some v)
      | Except.ok none => unsupported "iter:the-iterator's-class-has-lost-its-__next__-amid-the-walk"
      | Except.error e => do
        let __do_lift ← isInstance e (Value.type "StopIteration")
        if __do_lift = true then pure none else throw e) Q E s')
      (fun e s' => wpAny (model prog w) A (match (Except.error e : Except Value (Option Value)) with
      | Except.ok (some v) => pure (some v)
      | Except.ok none => unsupported "iter:the-iterator's-class-has-lost-its-__next__-amid-the-walk"
      | Except.error e => do
        let __do_lift ← isInstance e (Value.type "StopIteration")
        if __do_lift = true then pure none else throw e) Q E s') s := by
  unfold Builtin.Itertools.itStop
  show wpAny _ _ (newExc (.type "StopIteration") [] >>= _) _ _ _
  refine wpAny_bind ?_
  simp only [newExc, newTuple]
  refine wpAny_bind (wpAny_newObj_type ?_ (by size_fits))
  refine wpAny_bind (m := firstArgMember _ _) (wpAny_of_eq (a := Value.none) (by first | rfl | (simp only [firstArgMember]; rfl)) ?_)
  refine wpAny_newObj_type ?_ (by size_fits)
  simp only [raiseNew]
  refine wpAny_bind (wpAny_handled ?_)
  first | rw [show A.in1.handled = none from hh] | rw [hh]
  refine wpAny_bind (wpAny_pure (wpAny_throw ?_))
  refine wpAny_bind (wpAny_isInstance (T := "StopIteration") (b := true) ⟨_, Heap.get?_push_size _ rfl, rfl⟩ isSubtype_stop ?_)
  refine wpAny_pure (hQ _ ?_)
  exact fun b o _ e => Heap.get?_push_of_some _ (Heap.get?_push_of_some _ e)
theorem next_cmb_end {it pool : Addr} {vs : Array Value} {last : Value} {i j : Nat} {Q : Option Value → Shared → Prop} (hh : A.handled = none) (hne : pool ≠ it) (hit : IsCmb s.heap it pool 1 last i j) (hp : IsPool s.heap pool vs) (h2 : 2 ≤ vs.size) (hn : nx2 vs.size (i, j) = none)
    (hQ : ∀ h', (∀ b o, b ≠ it → s.heap.get? b = some o → h'.get? b = some o) → Q none { s with heap := h' }) :
    wpAny (model prog w) A (pyNext (.ref it)) Q E s := by
  have hT : s.TypeIs (.ref it) "itertools.combinations" := ⟨_, hit, rfl⟩
  unfold pyNext
  refine wpAny_bind (wpAny_attempt (wpAny_callSpecial?_slot (name := Str.ofString "__next__") hT slot_cmb_next (wpAny_call_entry slot_cmb_next hT entry_cmb_next ?_ (args_cmb_next _))))
  show wpAny _ _ (field (.ref it) 0 >>= _) _ _ s
  refine wpAny_bind (wpAny_field hit rfl (x := .ref pool) rfl ?_)
  refine wpAny_bind ?_
  show wpAny _ _ (load it >>= _) _ _ s
  refine wpAny_bind (wpAny_load hit (wpAny_pure ?_))
  refine wpAny_bind ?_
  show wpAny _ _ (field (.ref it) 1 >>= _) _ _ s
  refine wpAny_bind (wpAny_field hit rfl (x := .int 1 0) rfl (wpAny_pure ?_))
  show wpAny _ _ (Builtin.Itertools.itPoolItems (.ref pool) >>= _) _ _ _
  refine wpAny_bind ?_
  show wpAny _ _ (seqItems? (.ref pool) >>= _) _ _ _
  refine wpAny_bind (wpAny_seqItems hp rfl (wpAny_pure ?_))
  have hnc : nc vs.size [i, j] = none := by rw [nc_eq h2, hn] <;> rfl
  split
  case h_1 next hq => exact absurd (hq.symm.trans hnc) (by simp)
  refine wpAny_bind (wpAny_setField_rec hit (by simp) fun h₁ hit₁ hs₁ => ?_)
  exact stop_cmb hh fun h' hk => hQ h' fun b o hb e => hk b o hb ((hs₁.2 _ hb).trans e)
theorem next_cmb_end2 {it pool : Addr} {last : Value} {i j : Nat} {Q : Option Value → Shared → Prop} (hh : A.handled = none) (hit : IsCmb s.heap it pool 2 last i j)
    (hQ : ∀ h', (∀ b o, b ≠ it → s.heap.get? b = some o → h'.get? b = some o) → Q none { s with heap := h' }) :
    wpAny (model prog w) A (pyNext (.ref it)) Q E s := by
  have hT : s.TypeIs (.ref it) "itertools.combinations" := ⟨_, hit, rfl⟩
  unfold pyNext
  refine wpAny_bind (wpAny_attempt (wpAny_callSpecial?_slot (name := Str.ofString "__next__") hT slot_cmb_next (wpAny_call_entry slot_cmb_next hT entry_cmb_next ?_ (args_cmb_next _))))
  show wpAny _ _ (field (.ref it) 0 >>= _) _ _ s
  refine wpAny_bind (wpAny_field hit rfl (x := .ref pool) rfl ?_)
  refine wpAny_bind ?_
  show wpAny _ _ (load it >>= _) _ _ s
  refine wpAny_bind (wpAny_load hit (wpAny_pure ?_))
  refine wpAny_bind ?_
  show wpAny _ _ (field (.ref it) 1 >>= _) _ _ s
  refine wpAny_bind (wpAny_field hit rfl (x := .int 2 0) rfl (wpAny_pure ?_))
  refine wpAny_bind (wpAny_rule ?_)
  exact stop_cmb hh hQ
end
end CpCmb
namespace L2
open PySem PySem.Spec PyProof.Rows
/-- the told pairs, each in a new tuple -/
def Itcm (ps : List (V × V)) : It :=
  ⟨fun i _ => i < ps.length, fun i H v H' => ∃ T x y, v = .ref T ∧ H T = none ∧ H' = upd H T (.tup [x, y]) ∧ ps[i]? = some (x, y), fun i _ => ps.length ≤ i⟩
/-- where the object stands ahead of turn k, n things in its tuple -/
def CmbAt (it pool : Addr) (vs : List Value) (k : Nat) (h : Heap) : Prop :=
  pool ≠ it ∧ CpCmb.IsPool h pool vs.toArray ∧ ∃ last i j, (k = 0 ∧ (i = 0 ∧ j = 1) ∧ CpCmb.IsCmb h it pool (if 2 > vs.length then 2 else 0) last i j) ∨ (∃ k', k = k' + 1 ∧ (CpCmb.cmbs (List.range vs.length))[k']? = some (i, j) ∧ CpCmb.IsCmb h it pool 1 last i j)
theorem turn_cmb {P : Program} {w : World} {K : PySem.W.Frag} {tg : Expr} {xs : List V} {vs : List Value} (rv : Vals xs vs) (it pool : Addr) :
    Turn P w K tg (Itcm (CpCmb.cmbs xs)) [it, pool] it (fun k h => CmbAt it pool vs k h) where
  mem := by simp
  obj := fun k h st b hb => by
    obtain ⟨hne, hp, last, i, j, hc⟩ := st
    have hi : ∃ st, CpCmb.IsCmb h it pool st last i j := by
      rcases hc with ⟨_, _, hc⟩ | ⟨_, _, _, hc⟩
      · exact ⟨_, hc⟩
      · exact ⟨_, hc⟩
    obtain ⟨st, hi⟩ := hi
    have e' : b = it ∨ b = pool := by simpa using hb
    rcases e' with z | z
    · rw [z]; exact ⟨_, hi, fun v q => nomatch q⟩
    · rw [z]; exact ⟨_, hp, fun v q => nomatch q⟩
  keep := fun k h h' st kk => by
    obtain ⟨hne, hp, last, i, j, hc⟩ := st
    refine ⟨hne, kk pool (by simp) _ hp, last, i, j, ?_⟩
    rcases hc with ⟨e1, e2, hc⟩ | ⟨k', e1, e2, hc⟩
    · exact .inl ⟨e1, e2, kk it (by simp) _ hc⟩
    · exact .inr ⟨k', e1, e2, kk it (by simp) _ hc⟩
  item := by
    intro X hP hw hK hc k pins s σ H E I hf st hg
    subst hP hw hK
    obtain ⟨hne, hp, last, i, j, hq⟩ := st
    have hlen : xs.length = vs.length := rv.length
    have hk : k < (CpCmb.cmbs (List.range vs.length)).length := by
      have e : k < (CpCmb.cmbs xs).length := hg
      rw [CpCmb.cmbs_len, hlen] at e
      exact e
    obtain ⟨p, hpk⟩ : ∃ p, (CpCmb.cmbs (List.range vs.length))[k]? = some p := ⟨_, List.getElem?_eq_getElem hk⟩
    obtain ⟨a, b⟩ := p
    have hmem := CpCmb.mem_cmbs_lt _ _ (List.mem_of_getElem? hpk)
    have ha : a < vs.length := List.mem_range.mp hmem.1
    have hb : b < vs.length := List.mem_range.mp hmem.2
    have h2 : 2 ≤ vs.length := by
      by_cases h2 : 2 ≤ vs.length
      · exact h2
      · rw [CpCmb.cmbs_none (by omega)] at hk
        exact absurd hk (Nat.not_lt_zero _)
    obtain ⟨u, hu, ru⟩ := rv.get (List.getElem?_eq_getElem (by omega : a < xs.length))
    obtain ⟨v, hv, rv2⟩ := rv.get (List.getElem?_eq_getElem (by omega : b < xs.length))
    have gu : vs.toArray.getD a .none = u := by
      have : vs.toArray[a]? = some u := by simpa using hu
      rw [Array.getD_eq_getD_getElem?, this] <;> rfl
    have gv : vs.toArray.getD b .none = v := by
      have : vs.toArray[b]? = some v := by simpa using hv
      rw [Array.getD_eq_getD_getElem?, this] <;> rfl
    have hxs : (CpCmb.cmbs xs)[k]? = some (xs[a], xs[b]) := by
      have hpk' : (CpCmb.cmbs (List.range xs.length))[k]? = some (a, b) := by
        rw [hlen]
        exact hpk
      rw [CpCmb.cmbs_ix V.non xs, List.getElem?_map, hpk']
      show some (xs.getD a V.non, xs.getD b V.non) = _
      rw [List.getD_eq_getElem?_getD, List.getD_eq_getElem?_getD, List.getElem?_eq_getElem (by omega : a < xs.length), List.getElem?_eq_getElem (by omega : b < xs.length)] <;> rfl
    have fin : ∀ h', CpCmb.IsCmb h' it pool 1 (.ref s.heap.objs.size) a b → h'.get? s.heap.objs.size = some { cls := .type "tuple", data := .seq #[u, v] } → (∀ c o, c ≠ it → s.heap.get? c = some o → h'.get? c = some o) →
        ∃ u', some (Value.ref s.heap.objs.size) = some u' ∧ wpAny (model X.prog X.w) X.A (letOwnedTupleGo tg (.ref it) u') (fun _ s2 => ∃ x H', Inv X pins σ H' s2 ∧ RelV x u' ∧ (Itcm (CpCmb.cmbs xs)).yld k H x H' ∧ CmbAt it pool vs (k + 1) s2.heap ∧ ∀ b ∈ [it, pool], H' b = none) E { s with heap := h' } := by
      intro h' hit' hT hkp
      have hil : it < s.heap.objs.size := by
        rcases hq with ⟨_, _, q⟩ | ⟨_, _, _, q⟩
        · exact Heap.lt_size q
        · exact Heap.lt_size q
      have new : ObjOk X.prog X.w (upd H s.heap.objs.size (.tup [xs[a], xs[b]])) h' s.heap.objs.size (.tup [xs[a], xs[b]]) :=
        ⟨by show 2 ≤ sizeLine; decide, [u, v], .cons ru (.cons rv2 .nil), ⟨_, hT, rfl, _, rfl⟩⟩
      have I1 : Inv X pins σ (upd H s.heap.objs.size (.tup [xs[a], xs[b]])) { s with heap := h' } :=
        I.turnedNew (t' := s.toks) (ch := [it]) (fun c o hc q => hkp c o (fun z => hc (by simp [z])) q) (fun c hc => hf c (by simp at hc; simp [hc])) (Nat.le_refl _) new
      refine ⟨_, rfl, go_of (s := { s with heap := h' }) hit' rfl rfl (by decide) ⟨.ref s.heap.objs.size, _, I1, rfl, ⟨_, _, _, rfl, I.hok.fresh (Nat.le_refl _), rfl, hxs⟩, ⟨hne, hkp pool _ hne hp, _, a, b, .inr ⟨k, rfl, hpk, hit'⟩⟩, fun c hcm => ?_⟩⟩
      have hlt : c < s.heap.objs.size := by
        have e' : c = it ∨ c = pool := by simpa using hcm
        rcases e' with z | z
        · rw [z]; exact hil
        · rw [z]; exact Heap.lt_size hp
      rw [upd_ne (Nat.ne_of_lt hlt)]
      exact (hf c hcm).1
    have hvz : vs.toArray.size = vs.length := List.size_toArray
    rcases hq with ⟨e1, ⟨e2, e3⟩, q⟩ | ⟨k', e1, e2, q⟩
    · subst e1 e2 e3
      rw [if_neg (by omega)] at q
      have e4 := hpk.symm.trans (CpCmb.cmbs_first h2)
      cases e4
      exact CpCmb.next_cmb_0 hne q hp gu gv fin
    · subst e1
      have e3 := CpCmb.nx2_at e2
      rw [hpk] at e3
      exact CpCmb.next_cmb_1 hne q hp (by rw [hvz]; exact h2) (by rw [hvz]; exact e3) gu gv fin
  done := by
    intro X hP hw hK hc k pins s σ H E I hf st hg
    subst hP hw hK
    obtain ⟨hne, hp, last, i, j, hq⟩ := st
    have hlen : xs.length = vs.length := rv.length
    have hk : (CpCmb.cmbs (List.range vs.length)).length ≤ k := by
      have e : (CpCmb.cmbs xs).length ≤ k := hg
      rw [CpCmb.cmbs_len, hlen] at e
      exact e
    have hvz : vs.toArray.size = vs.length := List.size_toArray
    have fin : ∀ h', (∀ b o, b ≠ it → s.heap.get? b = some o → h'.get? b = some o) → (none : Option Value) = none ∧ Inv X pins σ H { s with heap := h' } := fun h' hkp =>
      ⟨rfl, I.turnedL (t' := s.toks) (ch := [it]) (fun c o hc q => hkp c o (fun z => hc (by simp [z])) q) (fun c hc => hf c (by simp at hc; simp [hc]))⟩
    rcases hq with ⟨e1, ⟨e2, e3⟩, q⟩ | ⟨k', e1, e2, q⟩
    · subst e1
      by_cases h2 : 2 > vs.length
      · rw [if_pos h2] at q
        exact CpCmb.next_cmb_end2 (I.ok.hd hc) q fin
      · have e4 := CpCmb.cmbs_first (n := vs.length) (by omega)
        rw [List.getElem?_eq_none hk] at e4
        cases e4
    · subst e1
      have e3 := CpCmb.nx2_at e2
      rw [List.getElem?_eq_none hk] at e3
      have h2 : 2 ≤ vs.length := by
        by_cases h2 : 2 ≤ vs.length
        · exact h2
        · rw [CpCmb.cmbs_none (by omega)] at e2
          cases e2
      exact CpCmb.next_cmb_end (I.ok.hd hc) hne q hp (by rw [hvz]; exact h2) (by rw [hvz]; exact e3) fin
  self := fun A k s Q E st h => by
    obtain ⟨hne, hp, last, i, j, hq⟩ := st
    rcases hq with ⟨_, _, q⟩ | ⟨_, _, _, q⟩
    · exact CpCmb.iter_cmb q h
    · exact CpCmb.iter_cmb q h
def iCmb (K : PySem.W.Frag) (ta : TA) : TI := fun σ H R => ta σ H fun vs H1 => ∃ a xs, vs = [.ref a, .int 2] ∧ SqL K H1 a xs ∧ R (Itcm (CpCmb.cmbs xs)) H1
theorem pi_cmb {X : Cx} {e e2 tg : Expr} {ta : TA} {p pos : Pos} (hg : Gl X "combinations") (hm : X.mg "combinations" = some (.type "itertools.combinations")) (ha : PA X [e, e2] ta)
    (hs : starEach [e, e2] X.env = (false, eval e X.env) :: starEach [e2] X.env := by rfl) (hpl : (backTo pos (starEach [e2] X.env)).any (·.1) = false := by rfl) :
    PI X tg (.Call (.Name "combinations" p) [e, e2] [] pos) (iCmb X.K ta) := by
  refine ⟨fun pins s σ H R I h => ?_⟩
  refine Call_ (ld_glob I hg hm (PyProof.Rows.callWith_type1 (thn (ha.run pos pins s σ H _ I h) fun us s1 ⟨vs, H1, I1, r1, q1⟩ => ?_) hs hpl))
  obtain ⟨a, xs, ex, hq, q⟩ := q1
  subst ex
  cases r1 with
  | cons r rr =>
    cases rr with
    | cons r2 rr =>
      cases rr
      cases r
      obtain ⟨tk, r2⟩ := r2
      subst r2
      obtain ⟨its, rv, p', hz⟩ := I1.list hq
      refine CpCmb.call_cmb p'.isList (by simpa [rv.length] using hz) fun h' it pool e1 e2 e3 hp hc hk => ?_
      have I2 : Inv X pins σ H1 { s1 with heap := h' } := I1.kept (t' := s1.toks) hk
      refine CpCmb.iter_cmb (s := { s1 with heap := h' }) hc ?_
      refine ⟨it, [it, pool], _, _, H1, rfl, I2, turn_cmb rv it pool, ⟨e3, hp, _, 0, 1, .inl ⟨rfl, ⟨rfl, rfl⟩, hc⟩⟩, fun b hb => ?_, q⟩
      have hle : s1.heap.objs.size ≤ b := by
        have e' : b = it ∨ b = pool := by simpa using hb
        rcases e' with z | z
        · rw [z]; exact e2
        · rw [z]; exact e1
      exact I1.fpOk hle (I1.hok.fresh hle)
end L2
namespace Ovc
open PySem PySem.Spec PyProof.Rows L2
/-! ### the program's way to the pairs: a matrix by ranks -/
def oA (os : List Int) (i : Nat) : Int := os.getD i 0
theorem oA_get {os : List Int} {i : Nat} (h : i < os.length) : os[i]? = some (oA os i) := by
  unfold oA
  rw [List.getD_eq_getElem?_getD, List.getElem?_eq_getElem h] <;> rfl
theorem oA_pos {os : List Int} (hn : os.Nodup) {i : Nat} (h : i < os.length) : posOf (oA os i) os = i := posOf_get hn (oA_get h)
theorem oA_of {os : List Int} {x : Int} (h : x ∈ os) : oA os (posOf x os) = x := by
  have := oA_get (pos_len h)
  rw [posOf_lt h] at this
  exact (Option.some.inj this).symm
theorem oA_map (os : List Int) : (List.range os.length).map (oA os) = os := CpCmb.map_range_get 0 os
def Lk (ls : List Lnk) (os : List Int) (t i k : Nat) : Bool := decide (i < k) && adj0 (ls.take t) (oA os i) (oA os k)
open Classical in
noncomputable def Jm (ls : List Lnk) (os : List Int) (m i k : Nat) : Bool := decide (i < k ∧ (adj0 ls (oA os i) (oA os k) = true ∨ ∃ w, w < m ∧ PairP ls os (oA os w) (oA os i) ∧ PairP ls os (oA os w) (oA os k)))
open Classical in
theorem Jm_iff {ls : List Lnk} {os : List Int} {m i k : Nat} : Jm ls os m i k = true ↔ i < k ∧ (adj0 ls (oA os i) (oA os k) = true ∨ ∃ w, w < m ∧ PairP ls os (oA os w) (oA os i) ∧ PairP ls os (oA os w) (oA os k)) := by
  unfold Jm
  rw [decide_eq_true_eq]
theorem Lk_zero {ls : List Lnk} {os : List Int} : Lk ls os 0 = fun _ _ => false := by
  funext i k
  unfold Lk
  rw [List.take_zero]
  exact Bool.and_false _
theorem Lk_end {ls : List Lnk} {os : List Int} : Lk ls os ls.length = Jm ls os 0 := by
  funext i k
  rw [Bool.eq_iff_iff, Jm_iff]
  unfold Lk
  rw [List.take_length, Bool.and_eq_true, decide_eq_true_eq]
  constructor
  · rintro ⟨h1, h2⟩
    exact ⟨h1, .inl h2⟩
  · rintro ⟨h1, h2 | ⟨w, hw, _⟩⟩
    · exact ⟨h1, h2⟩
    · exact absurd hw (Nat.not_lt_zero _)
theorem Lk_succ {ls : List Lnk} {os : List Int} {t i k : Nat} {l : Lnk} (hn : os.Nodup) (hg : ls[t]? = some l) (ha : l.a ∈ os) (hb : l.b ∈ os) (hi : i < os.length) (hk : k < os.length) :
    Lk ls os (t + 1) i k = (Lk ls os t i k || (decide (i = min (posOf l.a os) (posOf l.b os)) && decide (k = max (posOf l.a os) (posOf l.b os)) && decide (l.a ≠ l.b))) := by
  have pa := oA_of ha
  have pb := oA_of hb
  have qi := oA_pos hn hi
  have qk := oA_pos hn hk
  have e : adj0 (ls.take (t + 1)) (oA os i) (oA os k) = (adj0 (ls.take t) (oA os i) (oA os k) || decide ((l.a = oA os i ∧ l.b = oA os k) ∨ (l.a = oA os k ∧ l.b = oA os i))) := by
    unfold adj0
    rw [take_snoc hg, List.any_append, List.any_cons, List.any_nil, Bool.or_false]
  unfold Lk
  rw [e, Bool.and_or_distrib_left]
  congr 1
  rw [Bool.eq_iff_iff, Bool.and_eq_true, Bool.and_eq_true, Bool.and_eq_true, decide_eq_true_eq, decide_eq_true_eq, decide_eq_true_eq, decide_eq_true_eq, decide_eq_true_eq]
  constructor
  · rintro ⟨h1, ⟨h2, h3⟩ | ⟨h2, h3⟩⟩
    · rw [← h2] at qi
      rw [← h3] at qk
      refine ⟨⟨by omega, by omega⟩, fun z => ?_⟩
      rw [z] at qi
      omega
    · rw [← h3] at qi
      rw [← h2] at qk
      refine ⟨⟨by omega, by omega⟩, fun z => ?_⟩
      rw [z] at qk
      omega
  · rintro ⟨⟨h1, h2⟩, h3⟩
    have hne : posOf l.a os ≠ posOf l.b os := fun z => h3 (pos_inj ha hb z)
    rcases Nat.lt_or_gt_of_ne hne with h | h
    · have e1 : i = posOf l.a os := by omega
      have e2 : k = posOf l.b os := by omega
      rw [e1, e2]
      exact ⟨h, .inl ⟨pa.symm, pb.symm⟩⟩
    · have e1 : i = posOf l.b os := by omega
      have e2 : k = posOf l.a os := by omega
      rw [e1, e2]
      exact ⟨h, .inr ⟨pa.symm, pb.symm⟩⟩
section
variable {N : Net} {os : List Int} {m i k : Nat}
theorem PairP.lt (h : PairP N.ls os (oA os i) (oA os k)) (hn : os.Nodup) (hi : i < os.length) (hk : k < os.length) : i < k := by
  have := h.1
  rw [oA_pos hn hi, oA_pos hn hk] at this
  exact this
theorem Jm_row (ok : NetOk N) (oo : OrdOk N.n os) (hm : m < os.length) (hk : k < os.length) : Jm N.ls os m m k = true ↔ PairP N.ls os (oA os m) (oA os k) := by
  rw [Jm_iff, pair_rec ok oo, oA_pos oo.nodup hm, oA_pos oo.nodup hk]
  refine and_congr_right fun _ => or_congr_right ⟨fun ⟨w, _, h1, h2⟩ => ⟨_, h1, h2⟩, fun ⟨w, h1, h2⟩ => ?_⟩
  have hw : w ∈ os := oo.mem.mpr (h1.ins ok).1
  have hl := h1.1
  rw [oA_pos oo.nodup hm] at hl
  exact ⟨posOf w os, hl, by rw [oA_of hw]; exact h1, by rw [oA_of hw]; exact h2⟩
theorem aboveOf (ok : NetOk N) (oo : OrdOk N.n os) (hm : m < os.length) : ((List.range' (m + 1) (os.length - (m + 1))).filter (Jm N.ls os m m)).map (oA os) = upP N.ls os (oA os m) := by
  have e1 : upP N.ls os (oA os m) = (((List.range os.length).map (oA os)).filter fun v => @decide (PairP N.ls os (oA os m) v) (Classical.propDecidable _)) := by
    rw [oA_map]
    rfl
  have e2 : List.range os.length = List.range' 0 (m + 1) ++ List.range' (m + 1) (os.length - (m + 1)) := by
    rw [List.range_eq_range']
    have := List.range'_append_1 (s := 0) (m := m + 1) (n := os.length - (m + 1))
    rw [Nat.zero_add, show m + 1 + (os.length - (m + 1)) = os.length by omega] at this
    exact this.symm
  rw [e1, List.filter_map, e2, List.filter_append]
  have e3 : (List.range' 0 (m + 1)).filter ((fun v => @decide (PairP N.ls os (oA os m) v) (Classical.propDecidable _)) ∘ oA os) = [] := by
    rw [List.filter_eq_nil_iff]
    intro x hx h
    have hx := (List.mem_range'_1.mp hx)
    have h := @of_decide_eq_true _ (Classical.propDecidable _) h
    have := h.lt oo.nodup hm (by omega)
    omega
  rw [e3, List.nil_append]
  congr 1
  refine List.filter_congr fun x hx => ?_
  have hx := List.mem_range'_1.mp hx
  rw [Bool.eq_iff_iff, Jm_row ok oo hm (by omega)]
  exact (@decide_eq_true_iff _ (Classical.propDecidable _)).symm
theorem mem_cmbs : ∀ {l : List Nat} {p : Nat × Nat}, l.Pairwise (· < ·) → (p ∈ CpCmb.cmbs l ↔ p.1 < p.2 ∧ p.1 ∈ l ∧ p.2 ∈ l)
  | [], p, _ => ⟨fun h => (nomatch h), fun h => (nomatch h.2.1)⟩
  | x :: l, (a, b), h => by
    have h1 := List.pairwise_cons.mp h
    show (a, b) ∈ l.map (fun y => (x, y)) ++ CpCmb.cmbs l ↔ _
    rw [List.mem_append, List.mem_map, mem_cmbs h1.2]
    constructor
    · rintro (⟨y, hy, e⟩ | ⟨h2, h3, h4⟩)
      · cases e
        exact ⟨h1.1 _ hy, List.mem_cons_self, List.mem_cons_of_mem _ hy⟩
      · exact ⟨h2, List.mem_cons_of_mem _ h3, List.mem_cons_of_mem _ h4⟩
    · rintro ⟨h2, h3, h4⟩
      rcases List.mem_cons.mp h3 with e | e
      · rcases List.mem_cons.mp h4 with e2 | e2
        · exact absurd h2 (by
            show ¬ a < b
            have e : a = x := e
            have e2 : b = x := e2
            omega)
        · exact .inl ⟨b, e2, by
            have e : a = x := e
            rw [e]⟩
      · rcases List.mem_cons.mp h4 with e2 | e2
        · have := h1.1 _ e
          exact absurd h2 (by
            show ¬ a < b
            have e2 : b = x := e2
            have this : x < a := this
            omega)
        · exact .inr ⟨h2, e, e2⟩
def abv (M : Nat → Nat → Bool) (m n : Nat) : List Nat := (List.range' (m + 1) (n - (m + 1))).filter (M m)
theorem abv_asc {M : Nat → Nat → Bool} {m n : Nat} : (abv M m n).Pairwise (· < ·) := by
  unfold abv
  exact List.Pairwise.filter _ List.pairwise_lt_range'
theorem mem_abv {M : Nat → Nat → Bool} {m n x : Nat} : x ∈ abv M m n ↔ (m < x ∧ x < n) ∧ M m x = true := by
  unfold abv
  rw [List.mem_filter, List.mem_range'_1]
  constructor
  · rintro ⟨h1, h2⟩
    exact ⟨⟨by omega, by omega⟩, h2⟩
  · rintro ⟨h1, h2⟩
    exact ⟨⟨by omega, by omega⟩, h2⟩
theorem Jm_succ (ok : NetOk N) (oo : OrdOk N.n os) (hm : m < os.length) (hi : i < os.length) (hk : k < os.length) : Jm N.ls os (m + 1) i k = (Jm N.ls os m i k || decide ((i, k) ∈ CpCmb.cmbs (abv (Jm N.ls os m) m os.length))) := by
  rw [Bool.eq_iff_iff, Bool.or_eq_true, decide_eq_true_eq, mem_cmbs abv_asc, mem_abv, mem_abv, Jm_iff, Jm_iff, Jm_row ok oo hm hi, Jm_row ok oo hm hk]
  constructor
  · rintro ⟨h1, h2 | ⟨w, hw, h2, h3⟩⟩
    · exact .inl ⟨h1, .inl h2⟩
    · by_cases e : w = m
      · subst e
        exact .inr ⟨h1, ⟨⟨h2.lt oo.nodup hm hi, hi⟩, h2⟩, ⟨h3.lt oo.nodup hm hk, hk⟩, h3⟩
      · exact .inl ⟨h1, .inr ⟨w, by omega, h2, h3⟩⟩
  · rintro (⟨h1, h2 | ⟨w, hw, h2, h3⟩⟩ | ⟨h1, ⟨_, h2⟩, _, h3⟩)
    · exact ⟨h1, .inl h2⟩
    · exact ⟨h1, .inr ⟨w, by omega, h2, h3⟩⟩
    · exact ⟨h1, .inr ⟨m, by omega, h2, h3⟩⟩
end
structure RowsAt (H H' : Hp) (q : Addr) (rs : List V) (N : Net) (os : List Int) : Prop where
  len : rs.length = N.n.toNat
  row : ∀ x : Int, 0 ≤ x → x < N.n → ∃ a, rs[x.toNat]? = some (.ref a) ∧ H a = none ∧ a ≠ q ∧ H' a = some (.lst ((upP N.ls os x).map V.int))
def spUpper (K : PySem.W.Frag) : Sp := fun vs H Q _ => ∃ (v : V) (N : Net) (p : Addr) (os : List Int), vs = [v, .ref p] ∧ Dp K H v (netD N) ∧ NetOk N ∧ SqL K H p (os.map V.int) ∧ OrdOk N.n os ∧ ∀ H' q rs, Same H H' → H q = none → H' q = some (.lst rs) → RowsAt H H' q rs N os → Q (.ref q) H'
/-- what changes -/
noncomputable def msk (T : Addr → Prop) (H : Hp) : Hp := fun b => @ite _ (T b) (Classical.propDecidable _) none (H b)
theorem msk_ne {T : Addr → Prop} {H : Hp} {b : Addr} (h : ¬ T b) : msk T H b = H b := if_neg h
theorem msk_at {T : Addr → Prop} {H : Hp} {b : Addr} (h : T b) : msk T H b = none := if_pos h
theorem msk_same {T : Addr → Prop} {H : Hp} : Same (msk T H) H := fun b x e => by
  by_cases h : T b
  · rw [msk_at h] at e
    cases e
  · rw [msk_ne h] at e
    exact e
theorem msk_mono {T : Addr → Prop} {G H : Hp} (s : Same G H) : Same (msk T G) (msk T H) := fun b x e => by
  by_cases h : T b
  · rw [msk_at h] at e
    cases e
  · rw [msk_ne h] at e ⊢
    exact s b x e
theorem msk_upd {T : Addr → Prop} {H : Hp} {a : Addr} {u : HO} (h : T a) : msk T (upd H a u) = msk T H := by
  funext b
  by_cases hb : T b
  · rw [msk_at hb, msk_at hb]
  · rw [msk_ne hb, msk_ne hb, upd_ne (fun e => hb (by rw [e]; exact h))]
theorem msk_get {T : Addr → Prop} {G H : Hp} {a : Addr} {x : HO} (s : Same (msk T G) (msk T H)) (h : G a = some x) (n : ¬ T a) : H a = some x := msk_same _ _ (s _ _ (by rw [msk_ne n]; exact h))
/-! ### comprehensions that make a list each turn; pairs of a list -/
section
variable {K : PySem.W.Frag} {σ : L2.St} {H : Hp} {te tl : TE} {tr : TA} {tt : TT}
theorem lc_rows {j : Nat} {xs ys : List V} {Q : VK} (hl : ∀ Q : VK, (∀ a H1, Same H H1 → SqL K H1 a xs → Q (.ref a) H1) → tl σ H Q) (hz : xs.length ≤ 1000)
    (he : ∀ x H', Same H H' → Vn te ((σ.set j none).set j (some x)) H' ys)
    (q : ∀ D H' (rw : List Addr), Same H H' → H D = none → H' D = some (.lst (rw.map V.ref)) → rw.length = xs.length → rw.Nodup → D ∉ rw → (∀ a ∈ rw, H a = none ∧ H' a = some (.lst ys)) → Q (.ref D) H') : tLc (iList K tl) (gName j) tYes te [j] σ H Q := by
  refine hl _ fun a H1 s1 hx => ⟨a, rfl, ⟨xs, hx⟩, fun D nD => lc_list (xs := xs) (fun i H' => ∃ rw : List Addr, H' D = some (.lst (rw.map V.ref)) ∧ Same H1 H' ∧ rw.length = i ∧ rw.Nodup ∧ D ∉ rw ∧ ∀ a ∈ rw, H a = none ∧ H' a = some (.lst ys))
    ⟨[], upd_same, same_upd nD, rfl, .nil, List.not_mem_nil, fun _ h => (nomatch h)⟩ (fun i H' _ hP => hP.choose_spec.2.1.seq hx) (fun i x H2 hi hP => ?_) (fun H2 hP => ?_)⟩
  · obtain ⟨rw_, hD, s2, hlen, hnd, hDn, hr⟩ := hP
    have hi2 := (List.getElem?_eq_some_iff.mp hi).1
    refine ⟨?_, ?_⟩
    · show ((σ.set j none).set j (some x)).set j none = σ.set j none
      rw [List.set_set, List.set_set]
    · refine iteT (B := ∃ rw : List Addr, H2 D = some (.lst (rw.map V.ref)) ∧ Same H1 H2 ∧ rw.length = i + 1 ∧ rw.Nodup ∧ D ∉ rw ∧ ∀ a ∈ rw, H a = none ∧ H2 a = some (.lst ys)) (he x H2 (s1.trans s2) _ fun p H3 s3 np hp => ⟨_, s3 _ _ hD, ?_, rw_ ++ [p], ?_, ?_, ?_, ?_, ?_, fun b hb => ?_⟩)
      · rw [List.length_map]
        exact Nat.lt_of_le_of_lt (m := 1000000) (by omega) (by decide)
      · rw [upd_same, List.map_append]
        rfl
      · exact same_upd' (s2.trans s3) nD
      · rw [List.length_append, hlen]
        rfl
      · refine List.nodup_append.mpr ⟨hnd, List.nodup_cons.mpr ⟨List.not_mem_nil, .nil⟩, fun x hx y hy e => ?_⟩
        rw [List.mem_singleton.mp hy] at e
        have := (hr x hx).2
        rw [e, np] at this
        cases this
      · intro h
        rcases List.mem_append.mp h with h | h
        · exact hDn h
        · have e := List.mem_singleton.mp h
          rw [e, np] at hD
          cases hD
      · rcases List.mem_append.mp hb with h | h
        · exact ⟨(hr b h).1, by
            rw [upd_ne (fun e => hDn (by rw [← e]; exact h))]
            exact s3 _ _ (hr b h).2⟩
        · have e := List.mem_singleton.mp h
          refine ⟨by rw [e]; exact Same.free (s1.trans s2) np, ?_⟩
          rw [e, upd_ne (fun z => by rw [← z, np] at hD; cases hD)]
          exact hp
  · obtain ⟨rw_, hD, s2, hlen, hnd, hDn, hr⟩ := hP
    exact q D H2 rw_ (s1.trans s2) (Same.free s1 nD) hD hlen hnd hDn hr
theorem vn_lcR2 {j lo hi : Nat} {pb : Nat → Bool} {f : Nat → V} (hl : Va tr σ H [.int (lo : Nat), .int (hi : Nat)]) (hz : lo ≤ 1000 ∧ hi ≤ 1000)
    (ht : ∀ x : Nat, lo ≤ x → x < hi → ∀ H', Same H H' → An tt ((σ.set j none).set j (some (.int (x : Nat)))) H' (pb x)) (he : ∀ x : Nat, lo ≤ x → x < hi → ∀ H', Same H H' → Vl te ((σ.set j none).set j (some (.int (x : Nat)))) H' (f x)) :
    Vn (tLc (iRng2 tr) (gName j) tt te [j]) σ H (((List.range' lo (hi - lo)).filter pb).map f) := fun Q q => by
  have en : ((hi : Int) - (lo : Int)).toNat = hi - lo := by omega
  refine hl _ ⟨_, _, rfl, ⟨by omega, by omega, by omega, by omega⟩, fun D nD => ?_⟩
  rw [en]
  refine lc_range (fun i H' => H' D = some (.lst (((List.range' lo i).filter pb).map f)) ∧ Same H H') ⟨upd_same, same_upd nD⟩ (fun i H2 hi2 hP => ?_) (fun H2 hP => ?_)
  · obtain ⟨hD, s2⟩ := hP
    have e0 : (lo : Int) + (i : Int) = ((lo + i : Nat) : Int) := by omega
    rw [e0]
    have e : (List.range' lo (i + 1)).filter pb = (List.range' lo i).filter pb ++ [lo + i].filter pb := by
      rw [List.range'_concat, Nat.one_mul]
      exact List.filter_append ..
    refine ⟨?_, ht (lo + i) (by omega) (by omega) H2 s2 _ ?_⟩
    · show ((σ.set j none).set j (some (V.int _))).set j none = σ.set j none
      rw [List.set_set, List.set_set]
    · cases hp : pb (lo + i) with
      | true =>
        have e2 : [lo + i].filter pb = [lo + i] := by
          rw [List.filter_cons, hp]
          rfl
        refine iteT (B := H2 D = some (.lst (((List.range' lo (i + 1)).filter pb).map f)) ∧ Same H H2) (he (lo + i) (by omega) (by omega) H2 s2 _ ⟨_, hD, ?_, ?_, same_upd' s2 nD⟩)
        · rw [List.length_map]
          have h1 : ((List.range' lo i).filter pb).length ≤ i := Nat.le_trans (List.length_filter_le _ _) (by rw [List.length_range']; exact Nat.le_refl _)
          exact Nat.lt_of_le_of_lt (m := 1000000) (by omega) (by decide)
        · rw [upd_same, e, e2, List.map_append]
          rfl
      | false =>
        have e2 : [lo + i].filter pb = [] := by
          rw [List.filter_cons, hp]
          rfl
        refine iteF ⟨?_, s2⟩
        rw [e, e2, List.append_nil]
        exact hD
  · exact q D H2 hP.2 nD hP.1
/-- for x, y in combinations(xs, 2) -/
theorem for_cm {ps : List (V × V)} {g : TG} {tb : TS} {D : Ends} (Pv : Nat → L2.St → Hp → Prop) (h0 : Pv 0 σ H)
    (hs : ∀ (i : Nat) x y T σ H, ps[i]? = some (x, y) → Pv i σ H → H T = none → g (.ref T) σ (upd H T (.tup [x, y])) fun σ2 H2 => tb { D with nx := Pv (i + 1), ct := Pv (i + 1), bk := D.nx } σ2 H2) (hd : ∀ σ H, Pv ps.length σ H → D.nx σ H) :
    ∃ W : Nat → Nat → L2.St → Hp → Prop, (∃ m, W 0 m σ H) ∧ ∀ i m σ H, W i m σ H → ((Itcm ps).stop i H ∧ D.nx σ H) ∨
      ((Itcm ps).go i H ∧ ∃ N : L2.St → Hp → Prop, (∀ σ' H', N σ' H' → ∃ m', m' < m ∧ W (i + 1) m' σ' H') ∧ ∀ v H', (Itcm ps).yld i H v H' → g v σ H' fun σ2 H2 => tb { D with nx := N, ct := N, bk := D.nx } σ2 H2) := by
  refine ⟨fun i m σ H => m + i = ps.length ∧ Pv i σ H, ⟨ps.length, rfl, h0⟩, fun i m σ H hW => ?_⟩
  obtain ⟨em, p⟩ := hW
  by_cases hlt : i < ps.length
  · refine .inr ⟨hlt, Pv (i + 1), fun σ' H' p' => ⟨m - 1, by omega, by omega, p'⟩, fun v H' yy => ?_⟩
    obtain ⟨T, x, y, rfl, hT, rfl, f1⟩ := yy
    exact hs i x y T σ H f1 p hT
  · have e : i = ps.length := by omega
    rw [e] at p
    exact .inl ⟨by rw [e]; exact Nat.le_refl _, hd σ H p⟩
end
theorem q_par {σ : L2.St} {H : Hp} {ta : TA} {D : Ends} {tw : TS} {x y : V} {i j : Nat} (h : Va ta σ H [x, y]) (k : tw D ((σ.set i (some x)).set j (some y)) H) : tSeq (tPar i j ta) tw D σ H := h _ ⟨x, y, rfl, k⟩
theorem g_asgG {σ : L2.St} {H : Hp} {te : TE} {g : TG} {D : Ends} {xs : List V} (h : Vn te σ H xs) (k : ∀ p H', Same H H' → H p = none → H' p = some (.lst xs) → g (.ref p) σ H' D.nx) : tAsg te g D σ H := h _ k
/-- joined[x][y] = True -/
theorem g_setM {K : PySem.W.Frag} {σ : L2.St} {H : Hp} {t0 t1 t2 : TE} {D : Ends} {j a : Addr} {xs ys : List V} {x y : Nat} {v : V} (h0 : Vl t0 σ H (.ref j)) (h1 : Vl t1 σ H (.int (x : Nat))) (h2 : Vl t2 σ H (.int (y : Nat))) (hj : SqL K H j xs) (hx : xs[x]? = some (.ref a)) (ha : H a = some (.lst ys)) (hy : y < ys.length)
    (k : D.nx σ (upd H a (.lst (ys.set y v)))) : tAsg (tC v) (gSub (tOp (rIxL K) t0 t1) t2 rSetL) D σ H :=
  (vl_ixL (K := K) h0 h1 hj (atI_nat hx)) _ (h2 _ ⟨a, ys, (y : Nat), y, rfl, rfl, ha, by
    unfold ixN
    rw [if_pos (by omega), if_pos (by omega)]
    rw [Int.toNat_natCast], k⟩)
/-! ### the matrix -/
structure MatAt (H : Hp) (j : Addr) (rw : List Addr) (n : Nat) (M : Nat → Nat → Bool) : Prop where
  top : H j = some (.lst (rw.map V.ref))
  len : rw.length = n
  nd : rw.Nodup
  jn : j ∉ rw
  row : ∀ (i : Nat) a, rw[i]? = some a → H a = some (.lst ((List.range n).map fun k => V.bl (M i k)))
theorem MatAt.to {H H' : Hp} {j : Addr} {rw : List Addr} {n : Nat} {M : Nat → Nat → Bool} (h : MatAt H j rw n M) (s : Same H H') : MatAt H' j rw n M := ⟨s _ _ h.top, h.len, h.nd, h.jn, fun i a e => s _ _ (h.row i a e)⟩
theorem MatAt.is {H : Hp} {j : Addr} {rw : List Addr} {n : Nat} {M M' : Nat → Nat → Bool} (h : MatAt H j rw n M) (e : ∀ i k, i < n → k < n → M' i k = M i k) : MatAt H j rw n M' := ⟨h.top, h.len, h.nd, h.jn, fun i a g => by
  rw [h.row i a g]
  have hi := (List.getElem?_eq_some_iff.mp g).1
  rw [h.len] at hi
  congr 2
  exact List.map_congr_left fun k hk => by rw [e i k hi (List.mem_range.mp hk)]⟩
theorem MatAt.set {H : Hp} {j : Addr} {rw : List Addr} {n : Nat} {M M' : Nat → Nat → Bool} {x y : Nat} {a : Addr} (h : MatAt H j rw n M) (ha : rw[x]? = some a) (hy : y < n) (e : ∀ i k, i < n → k < n → M' i k = (M i k || (decide (i = x) && decide (k = y)))) :
    MatAt (upd H a (.lst (((List.range n).map fun k => V.bl (M x k)).set y (.bl true)))) j rw n M' where
  top := by
    rw [upd_ne (fun z => h.jn (by rw [z]; exact List.mem_of_getElem? ha))]
    exact h.top
  len := h.len
  nd := h.nd
  jn := h.jn
  row := fun i b hb => by
    have hi := (List.getElem?_eq_some_iff.mp hb).1
    rw [h.len] at hi
    by_cases c : i = x
    · subst c
      cases hb.symm.trans ha
      rw [upd_same]
      congr 2
      refine List.ext_getElem (by rw [List.length_set, List.length_map, List.length_map]) fun k h1 h2 => ?_
      rw [List.length_map, List.length_range] at h2
      rw [List.getElem_set]
      simp only [List.getElem_map, List.getElem_range]
      rw [e i k hi h2, decide_eq_true rfl, Bool.true_and]
      by_cases d : y = k
      · rw [if_pos d, decide_eq_true d.symm, Bool.or_true]
      · rw [if_neg d, decide_eq_false (fun z => d z.symm), Bool.or_false]
    · have hne : b ≠ a := fun z => by
        rw [z, ← ha] at hb
        exact c ((List.getElem?_inj (by rw [h.len]; exact hi) h.nd).mp hb)
      rw [upd_ne hne, h.row i b hb]
      congr 2
      exact List.map_congr_left fun k hk => by rw [e i k hi (List.mem_range.mp hk), decide_eq_false c, Bool.false_and, Bool.or_false]
theorem MatAt.at_ {H : Hp} {j : Addr} {rw : List Addr} {n : Nat} {M : Nat → Nat → Bool} {x : Nat} (h : MatAt H j rw n M) (hx : x < n) : ∃ a, rw[x]? = some a ∧ (rw.map V.ref)[x]? = some (.ref a) ∧ H a = some (.lst ((List.range n).map fun k => V.bl (M x k))) := by
  have hx2 : x < rw.length := by
    rw [h.len]
    exact hx
  have e : rw[x]? = some rw[x] := List.getElem?_eq_getElem hx2
  exact ⟨_, e, by rw [List.getElem?_map, e] <;> rfl, h.row x _ e⟩
abbrev sUpper : Stmt := topS 26
theorem scUpper : FnScope ["net", "order", "n", "links", "rank", "joined", "link", "a", "b", "found", "low", "place", "above", "first", "second", "_", "high"] ["net", "order"] (defScope sUpper) := ⟨rfl, rfl, rfl, by decide +kernel, rfl, by decide +kernel, by decide +kernel⟩
section
variable {P : Program} {w : World} {K : PySem.W.Frag} {mg : Str → Option Value} {base : Heap} {CN fI : Addr}
theorem ok_upper {f : Addr} {fd : FuncData} {k : Nat} (F : Fun K "upper" "upper" sUpper f fd) (c_ranks : KalX P w K mg base k "ranks" ["order"] (spRk K CN)) (ml : mg "len" = none) (me : mg "enumerate" = none) (mr : mg "range" = none) (mm : mg "min" = none) (mx : mg "max" = none) (mcmb : mg "combinations" = some (.type "itertools.combinations")) : FnOk P w K mg base CX0 (k + 1) f fd ["net", "order"] (spUpper K) := by
  refine F.ok scUpper (fun vs H Q E h => ?_) (fun cdv A outer s H vs Q E hr h => ?_)
  · obtain ⟨v, N, p, os, rfl, _⟩ := h
    rfl
  · obtain ⟨v, N, p, os, rfl, hN, okN, hS, oo, q⟩ := h
    refine ⟨_, pss_cons (ps_asg (pv 0) (pg_tup rfl (pgs_cons (pg_name (i := 2) scUpper.nd rfl (.inr rfl)) (pgs_cons (pg_name (i := 3) scUpper.nd rfl (.inl rfl)) pgs_nil))))
      (pss_cons (ps_set (i := 4) scUpper.nd rfl (.inl rfl) (pe_kx (E := fun _ _ _ => False) c_ranks hr (by first | decide | omega) (by rfl) takes0 (pa_cons (pv 1) pa_nil)))
      (pss_cons (ps_set (i := 5) scUpper.nd rfl (.inr rfl) (pe_lc (own := [("_", 15)]) (g := gName 15) (tt := tYes) (te := (tOp rRep (tLst (tCons (tC (.bl false)) tNil)) (tVar 2))) (by rfl) scUpper.nd (pi_list (pv 1)) (blkOk_by (own := [("_", 15)]) (N := ["net", "order", "n", "links", "rank", "joined", "link", "a", "b", "found", "low", "place", "above", "first", "second", "_", "high"]) (sc := defScope sUpper) (by decide +kernel)) (fun _ _ _ _ _ => pg_name (i := 15) scUpper.nd rfl (Or.inl rfl)) (fun _ _ _ _ _ => by exact pts_nil) (fun _ _ _ _ _ => by exact (pe_op op_rep (pe_lst (pa_cons pe_bl pa_nil)) (pv 2)))))
      (pss_cons (ps_for PassesOwn.never rfl (pi_list (pv 3)) (pg_name (i := 6) scUpper.nd rfl (.inl rfl))
      (pss_cons (ps_par (i := 7) (j := 8) (by rfl) scUpper.nd rfl rfl (by decide) rfl rfl (pa_cons (pe_ix ix_list (pv 4) (pe_ix ix_tup (pv 6) pe_int (fun _ _ => rfl)) (fun _ _ => rfl)) (pa_cons (pe_ix ix_list (pv 4) (pe_ix ix_tup (pv 6) pe_int (fun _ _ => rfl)) (fun _ _ => rfl)) pa_nil)) (by rfl))
        (pss_one (ps_asg pe_bl (pg_sub (pe_ix ix_list (pv 5) (pe_callB (call_min2 rfl) (by rfl) mm (by decide +kernel) (pa_cons (pv 7) (pa_cons (pv 8) pa_nil))) (fun _ _ => rfl)) (pe_callB (call_max2 rfl) (by rfl) mx (by decide +kernel) (pa_cons (pv 7) (pa_cons (pv 8) pa_nil))) set_list)))))
      (pss_cons (ps_setLc (i := 9) (own := [("_", 15)]) (g := gName 15) (tt := tYes) (te := (tLst tNil)) (by rfl) scUpper.nd rfl rfl (sw_true rfl rfl rfl (by decide +kernel)) (pi_list (pv 1)) (blkOk_by (own := [("_", 15)]) (N := ["net", "order", "n", "links", "rank", "joined", "link", "a", "b", "found", "low", "place", "above", "first", "second", "_", "high"]) (sc := defScope sUpper) (by decide +kernel)) (fun _ _ _ _ _ => pg_name (i := 15) scUpper.nd rfl (Or.inl rfl)) (fun _ _ _ _ _ => by exact pts_nil) (fun _ _ _ _ _ => by exact (pe_lst pa_nil)))
      (pss_cons (ps_for PassesOwn.never rfl (pi_enum (by rfl) me (pa_cons (pv 1) pa_nil)) (pg_tup rfl (pgs_cons (pg_name (i := 10) scUpper.nd rfl (.inr rfl)) (pgs_cons (pg_name (i := 11) scUpper.nd rfl (.inl rfl)) pgs_nil)))
      (pss_cons (ps_setLc (i := 12) (own := [("high", 16)]) (g := gName 16) (tt := (tTest (tOp (rIxL K) (tOp (rIxL K) (tVar 5) (tVar 10)) (tVar 16)))) (te := (tVar 16)) (by rfl) scUpper.nd rfl rfl (sw_true rfl rfl rfl (by decide +kernel)) (pi_range2 (by rfl) mr (pa_cons (pe_op op_add (pv 10) pe_int) (pa_cons (pv 2) pa_nil))) (blkOk_by (own := [("high", 16)]) (N := ["net", "order", "n", "links", "rank", "joined", "link", "a", "b", "found", "low", "place", "above", "first", "second", "_", "high"]) (sc := defScope sUpper) (by decide +kernel)) (fun _ _ _ _ _ => pg_name (i := 16) scUpper.nd rfl (Or.inl rfl)) (fun _ _ _ _ _ => by exact (pts_one (pt_val (pe_ix ix_list (pe_ix ix_list (pv 5) (pv 10) (fun _ _ => rfl)) (pv 16) (fun _ _ => rfl))))) (fun _ _ _ _ _ => by exact (pv 16)))
        (pss_cons (ps_for PassesOwn.never rfl (pi_cmb (by rfl) mcmb (pa_cons (pv 12) (pa_cons pe_int pa_nil))) (pg_tup rfl (pgs_cons (pg_name (i := 13) scUpper.nd rfl (.inl rfl)) (pgs_cons (pg_name (i := 14) scUpper.nd rfl (.inl rfl)) pgs_nil)))
        (pss_one (ps_asg pe_bl (pg_sub (pe_ix ix_list (pv 5) (pv 13) (fun _ _ => rfl)) (pv 14) set_list))))
        (pss_one (ps_asg (pe_lc (own := [("high", 16)]) (g := gName 16) (tt := tYes) (te := (tOp (rIxL K) (tVar 1) (tVar 16))) (by rfl) scUpper.nd (pi_list (pv 12)) (blkOk_by (own := [("high", 16)]) (N := ["net", "order", "n", "links", "rank", "joined", "link", "a", "b", "found", "low", "place", "above", "first", "second", "_", "high"]) (sc := defScope sUpper) (by decide +kernel)) (fun _ _ _ _ _ => pg_name (i := 16) scUpper.nd rfl (Or.inl rfl)) (fun _ _ _ _ _ => by exact pts_nil) (fun _ _ _ _ _ => by exact (pe_ix ix_list (pv 1) (pv 16) (fun _ _ => rfl)))) (pg_sub (pv 9) (pv 11) set_list))))))
      (pss_one (ps_ret (pv 9)))))))), ?_⟩
    obtain ⟨p0, c, xs, rfl, hp0, hc, hx⟩ := Dp.net_inv hN
    have on := oo.len
    have n40 := okN.n40
    have n1 := okN.n1
    have l16 := okN.len
    have hnd := oo.nodup
    have hbad : badAt os = none := bad_iff.mpr (by
      rw [show (os.length : Int) = N.n by omega]
      exact oo)
    have lx := DpAll.len hx
    rw [List.length_map] at lx
    refine q_asgT2 (vl_var rfl) hp0 ?_
    refine q_asgE ⟨.ref p, rfl, p, os, rfl, hS, by omega, ?_⟩
    rw [hbad]
    intro G r sG nr er
    -- the matrix
    refine q_asgE (lc_rows (ys := List.replicate os.length (.bl false)) (vx_list (vl_var rfl) (sG.seq hS)) (by rw [List.length_map]; omega) (fun x H' s' => ?_) fun j H1 rw_ s1 nj ej rl rnd jn rr => ?_)
    · exact vn_rep vl_c (fun _ _ => (vl_var rfl).is (by rw [show N.n = ((os.length : Nat) : Int) by omega])) (by omega)
    have hM1 : MatAt H1 j rw_ os.length (Lk N.ls os 0) := ⟨ej, by rw [rl, List.length_map], rnd, jn, fun i a e => by
      rw [(rr a (List.mem_of_getElem? e)).2, Lk_zero]
      congr 2
      exact List.ext_getElem (by simp) fun k h1 h2 => by simp⟩
    have hrG : ∀ a ∈ rw_, G a = none := fun a h => (rr a h).1
    refine q_forLk (j := 6) (Hb := G) (vl_var rfl) (sG.seq hc) (DpAll.to hx sG) s1
      (fun i σ H3 => ∃ y6 y7 y8, σ = [some (.ref p0), some (.ref p), some (.int N.n), some (.ref c), some (.ref r), some (.ref j), y6, y7, y8, none, none, none, none, none, none, none, none] ∧ Same G H3 ∧ MatAt H3 j rw_ os.length (Lk N.ls os i))
      ⟨none, none, none, rfl, s1, hM1⟩ (fun i σ H3 hP => ?_) (fun i l t σ H3 hl ht hP => ?_) (fun σ H3 hP => ?_)
    · obtain ⟨_, _, _, _, s3, _⟩ := hP
      exact s3
    · obtain ⟨y6, y7, y8, rfl, s3, hM⟩ := hP
      have hlm := okN.ok l (List.mem_of_getElem? hl)
      have a0 := hlm.a0
      have ab := hlm.ab
      have bn := hlm.bn
      have ha : l.a ∈ os := oo.mem.mpr (by omega)
      have hb : l.b ∈ os := oo.mem.mpr (by omega)
      have rka : (rk os)[l.a.toNat]? = some (posOf l.a os : Int) := by
        unfold rk
        rw [List.getElem?_map, List.getElem?_eq_getElem (by rw [len_rng]; omega), rng_get (by rw [len_rng]; omega), show ((l.a.toNat : Nat) : Int) = l.a by omega] <;> rfl
      have rkb : (rk os)[l.b.toNat]? = some (posOf l.b os : Int) := by
        unfold rk
        rw [List.getElem?_map, List.getElem?_eq_getElem (by rw [len_rng]; omega), rng_get (by rw [len_rng]; omega), show ((l.b.toNat : Nat) : Int) = l.b by omega] <;> rfl
      have pa := pos_len ha
      have pb := pos_len hb
      generalize hA : posOf l.a os = A1 at rka pa
      generalize hB : posOf l.b os = B1 at rkb pb
      refine q_par (va_cons (vl_ixI (K := K) (vl_var rfl) ((vl_ixT (vl_var rfl) vl_c (seqT s3 ht) (atI_nat (j := 0) rfl)).is (by rw [show ((l.a.toNat : Nat) : Int) = l.a by omega])) (.of (s3 _ _ er)) rka) (va_cons (vl_ixI (K := K) (vl_var rfl) ((vl_ixT (vl_var rfl) vl_c (seqT s3 ht) (atI_nat (j := 1) rfl)).is (by rw [show ((l.b.toNat : Nat) : Int) = l.b by omega])) (.of (s3 _ _ er)) rkb) va_nil)) ?_
      obtain ⟨a1, e1, e2, e3⟩ := hM.at_ (x := min A1 B1) (by omega)
      refine g_setM (x := min A1 B1) (y := max A1 B1) (vl_var rfl) ((vl_min2 (vl_var rfl) (vl_var rfl)).is ?_) ((vl_max2 (vl_var rfl) (vl_var rfl)).is ?_) (.of hM.top) e2 e3 (by rw [List.length_map, List.length_range]; omega) ⟨_, _, _, rfl, same_upd' s3 (hrG a1 (List.mem_of_getElem? e1)), hM.set e1 (by omega) fun i' k' hi hk => ?_⟩
      · congr 1
        split <;> omega
      · congr 1
        split <;> omega
      · rw [Lk_succ hnd hl ha hb hi hk, hA, hB, decide_eq_true (show l.a ≠ l.b by omega), Bool.and_true]
    · obtain ⟨y6, y7, y8, rfl, s3, hM⟩ := hP
      rw [Lk_end] at hM
      -- found
      refine q_asgE (lc_rows (ys := []) (vx_list (vl_var rfl) ((sG.trans s3).seq hS)) (by rw [List.length_map]; omega) (fun x H' s' => vn_lst va_nil (Nat.zero_le _)) fun fo H4 fr s4 nf ef fl fnd_ fn ff => ?_)
      have hfG := Same.free s3 nf
      have hfr : fo ∉ rw_ := fun h => by
        obtain ⟨i, hi⟩ := List.mem_iff_getElem?.mp h
        rw [hM.row i fo hi] at nf
        cases nf
      have hfj : j ≠ fo := fun z => by
        have := hM.top
        rw [z, nf] at this
        cases this
      refine ⟨.ref p, rfl, p, _, rfl, (sG.trans (s3.trans s4)).seq hS, for_en (xs := os.map V.int)
        (fun m σ H5 => ∃ y6 y7 y8 y10 y11 y12 y13 y14 fs, σ = [some (.ref p0), some (.ref p), some (.int N.n), some (.ref c), some (.ref r), some (.ref j), y6, y7, y8, some (.ref fo), y10, y11, y12, y13, y14, none, none] ∧ Same G H5 ∧ MatAt H5 j rw_ os.length (Jm N.ls os m) ∧
          H5 fo = some (.lst fs) ∧ fs.length = os.length ∧ ∀ w, w < m → ∃ a, fs[(oA os w).toNat]? = some (.ref a) ∧ G a = none ∧ a ≠ fo ∧ a ∉ rw_ ∧ H5 a = some (.lst ((upP N.ls os (oA os w)).map V.int)))
        ⟨_, _, _, none, none, none, none, none, _, rfl, s3.trans s4, hM.to s4, ef, by rw [List.length_map, fl, List.length_map], fun w hw => absurd hw (Nat.not_lt_zero _)⟩ (fun m σ H5 hP => ?_) (fun m x T2 σ H5 hi hP nT2 => ?_) (fun σ H5 hP => ?_)⟩
      · obtain ⟨_, _, _, _, _, _, _, _, _, _, s5, _⟩ := hP
        exact (sG.trans s5).seq hS
      · obtain ⟨y6, y7, y8, y10, y11, y12, y13, y14, fs, rfl, s5, hM5, ef5, fl5, hrow⟩ := hP
        have hm : m < os.length := by
          have := (List.getElem?_eq_some_iff.mp hi).1
          rw [List.length_map] at this
          exact this
        rw [List.getElem?_map, oA_get hm] at hi
        cases hi
        refine ⟨T2, _, rfl, .of upd_same, rfl, _, _, rfl, _, _, rfl, rfl, ?_⟩
        have s6 : Same H5 (upd H5 T2 (.tup [.int (m : Nat), .int (oA os m)])) := same_upd nT2
        have s56 := s5.trans s6
        have hM6 := hM5.to s6
        have ef6 := s6 _ _ ef5
        have hrow6 : ∀ w, w < m → ∃ a, fs[(oA os w).toNat]? = some (.ref a) ∧ G a = none ∧ a ≠ fo ∧ a ∉ rw_ ∧ upd H5 T2 (.tup [.int (m : Nat), .int (oA os m)]) a = some (.lst ((upP N.ls os (oA os w)).map V.int)) := fun w hw => by
          obtain ⟨a, z1, z2, z3, z4, z5⟩ := hrow w hw
          exact ⟨a, z1, z2, z3, z4, s6 _ _ z5⟩
        clear hrow hM5 ef5 nT2
        generalize upd H5 T2 (.tup [.int (m : Nat), .int (oA os m)]) = H6 at s6 s56 hM6 ef6 hrow6 ⊢
        -- above
        obtain ⟨am, g1, g2, g3⟩ := hM6.at_ hm
        refine q_asgN (xs := (abv (Jm N.ls os m) m os.length).map fun k => V.int (k : Nat)) (vn_lcR2 (lo := m + 1) (hi := os.length) (va_cons ((vl_I0 (vl_var rfl) vl_c).is (by
          show V.int ((m : Int) + 1) = V.int ((m + 1 : Nat) : Int)
          rfl)) (va_cons ((vl_var rfl).is (by rw [show N.n = ((os.length : Nat) : Int) by omega])) va_nil)) ⟨by omega, by omega⟩ (fun x h1 h2 H' s' => ?_) (fun x h1 h2 H' s' => vl_var rfl)) fun ab H7 s7 nab eab => ?_
        · exact an_test (vl_ixL (K := K) (vl_ixL (K := K) (vl_var rfl) (vl_var rfl) (.of (s' _ _ hM6.top)) (atI_nat g2)) (vl_var rfl) (.of (s' _ _ g3)) (atI_nat (by rw [List.getElem?_map, List.getElem?_range h2] <;> rfl)))
        have hM7 := hM6.to s7
        have ef7 := s7 _ _ ef6
        have s57 := s56.trans s7
        have hrow7 : ∀ w, w < m → ∃ a, fs[(oA os w).toNat]? = some (.ref a) ∧ G a = none ∧ a ≠ fo ∧ a ∉ rw_ ∧ H7 a = some (.lst ((upP N.ls os (oA os w)).map V.int)) := fun w hw => by
          obtain ⟨a, z1, z2, z3, z4, z5⟩ := hrow6 w hw
          exact ⟨a, z1, z2, z3, z4, s7 _ _ z5⟩
        have habr : ab ∉ rw_ := fun h => by
          obtain ⟨i, hi⟩ := List.mem_iff_getElem?.mp h
          rw [hM6.row i ab hi] at nab
          cases nab
        clear hrow6 hM6 ef6 g3
        -- the pairs of above
        refine ⟨.ref ab, rfl, ab, _, rfl, .of eab, for_cm
          (fun t σ H8 => ∃ y13 y14, σ = [some (.ref p0), some (.ref p), some (.int N.n), some (.ref c), some (.ref r), some (.ref j), y6, y7, y8, some (.ref fo), some (.int (m : Nat)), some (.int (oA os m)), some (.ref ab), y13, y14, none, none] ∧ Same G H8 ∧ Same (msk (· ∈ rw_) H7) (msk (· ∈ rw_) H8) ∧
            MatAt H8 j rw_ os.length (fun i k => Jm N.ls os m i k || decide ((i, k) ∈ (CpCmb.cmbs (abv (Jm N.ls os m) m os.length)).take t)))
          ⟨_, _, rfl, s57, Same.refl _, hM7.is fun i k _ _ => by rw [List.take_zero, decide_eq_false (by exact List.not_mem_nil), Bool.or_false]⟩ (fun t x y T3 σ H8 ht hP nT3 => ?_) (fun σ H8 hP => ?_)⟩
        · obtain ⟨y13, y14, rfl, s8, k8, hM8⟩ := hP
          rw [CpCmb.cmbs_map, List.getElem?_map] at ht
          cases hq : (CpCmb.cmbs (abv (Jm N.ls os m) m os.length))[t]? with
          | none =>
            rw [hq] at ht
            cases ht
          | some xy =>
            obtain ⟨i1, k1⟩ := xy
            rw [hq] at ht
            cases ht
            have hmem := (mem_cmbs abv_asc).mp (List.mem_of_getElem? hq)
            have hi1 := (mem_abv.mp hmem.2.1).1.2
            have hk1 := (mem_abv.mp hmem.2.2).1.2
            refine ⟨T3, _, rfl, .of upd_same, rfl, _, _, rfl, _, _, rfl, rfl, ?_⟩
            have s9 : Same H8 (upd H8 T3 (.tup [.int (i1 : Nat), .int (k1 : Nat)])) := same_upd nT3
            have s89 := s8.trans s9
            have k89 := k8.trans (msk_mono s9)
            have hM9 := hM8.to s9
            generalize upd H8 T3 (.tup [.int (i1 : Nat), .int (k1 : Nat)]) = H9 at s9 s89 k89 hM9 ⊢
            obtain ⟨a1, e1, e2, e3⟩ := hM9.at_ hi1
            refine g_setM (x := i1) (y := k1) (vl_var rfl) (vl_var rfl) (vl_var rfl) (.of hM9.top) e2 e3 (by rw [List.length_map, List.length_range]; exact hk1) ⟨_, _, rfl, same_upd' s89 (hrG a1 (List.mem_of_getElem? e1)), by
              rw [msk_upd (List.mem_of_getElem? e1)]
              exact k89, hM9.set e1 hk1 fun i' k' _ _ => ?_⟩
            rw [take_snoc hq, Bool.eq_iff_iff]
            simp only [List.mem_append, List.mem_singleton, Prod.mk.injEq, Bool.or_eq_true, Bool.and_eq_true, decide_eq_true_eq, or_assoc]
        · obtain ⟨y13, y14, rfl, s8, k8, hM8⟩ := hP
          have ef8 := msk_get k8 ef7 hfr
          have eab8 := msk_get k8 eab habr
          have hrow8 : ∀ w, w < m → ∃ a, fs[(oA os w).toNat]? = some (.ref a) ∧ G a = none ∧ a ≠ fo ∧ a ∉ rw_ ∧ H8 a = some (.lst ((upP N.ls os (oA os w)).map V.int)) := fun w hw => by
            obtain ⟨a, z1, z2, z3, z4, z5⟩ := hrow7 w hw
            exact ⟨a, z1, z2, z3, z4, msk_get k8 z5 z4⟩
          have hxm := oo.mem.mp (List.mem_of_getElem? (oA_get hm))
          have hM10 : MatAt H8 j rw_ os.length (Jm N.ls os (m + 1)) := hM8.is fun i k hi hk => by
            rw [Jm_succ okN oo hm hi hk, show ((CpCmb.cmbs ((abv (Jm N.ls os m) m os.length).map fun k => V.int (k : Nat))).length) = (CpCmb.cmbs (abv (Jm N.ls os m) m os.length)).length by rw [CpCmb.cmbs_map, List.length_map], List.take_length]
          refine g_asgG (xs := (upP N.ls os (oA os m)).map V.int) (vn_lc (xs := (abv (Jm N.ls os m) m os.length).map fun k => V.int (k : Nat)) (ys := (upP N.ls os (oA os m)).map V.int) (vx_list (vl_var rfl) (.of eab8)) (by
            rw [← aboveOf okN oo hm, List.length_map, List.length_map, List.length_map]
            rfl) (by rw [List.length_map]; have := up_len (u := oA os m) okN oo; omega) fun i x y H' s' hx' hy' => ?_) fun rq H11 s11 nrq erq => ?_
          · rw [← aboveOf okN oo hm, List.map_map, List.getElem?_map] at hy'
            rw [List.getElem?_map] at hx'
            unfold abv at hx'
            cases e : ((List.range' (m + 1) (os.length - (m + 1))).filter (Jm N.ls os m m))[i]? with
            | none =>
              rw [e] at hx'
              cases hx'
            | some z =>
              rw [e] at hx' hy'
              cases hx'
              cases hy'
              have hz := (mem_abv (M := Jm N.ls os m) (m := m) (n := os.length)).mp (List.mem_of_getElem? e)
              exact ve_of (vl_ixI (K := K) (vl_var rfl) (vl_var rfl) ((sG.trans (s8.trans s')).seq hS) (oA_get hz.1.2))
          · have hrr : rq ∉ rw_ := fun h => by
              obtain ⟨i, hi⟩ := List.mem_iff_getElem?.mp h
              rw [hM8.row i rq hi] at nrq
              cases nrq
            have hrf : rq ≠ fo := fun z => by
              rw [z, ef8] at nrq
              cases nrq
            refine ⟨.ref fo, rfl, .int (oA os m), rfl, fo, fs, oA os m, (oA os m).toNat, rfl, rfl, s11 _ _ ef8, ?_, ?_⟩
            · unfold ixN
              rw [if_pos hxm.1, if_pos (by omega)]
            · refine ⟨_, _, _, _, _, _, _, _, _, rfl, same_upd' (s8.trans s11) hfG, ?_, upd_same, by rw [List.length_set]; exact fl5, fun w hw => ?_⟩
              · have := hM10.to s11
                exact ⟨by
                  rw [upd_ne hfj]
                  exact this.top, this.len, this.nd, this.jn, fun i a e => by
                  rw [upd_ne (fun z => hfr (by rw [← z]; exact List.mem_of_getElem? e))]
                  exact this.row i a e⟩
              · by_cases e : w = m
                · subst e
                  refine ⟨rq, ?_, Same.free s8 nrq, hrf, hrr, ?_⟩
                  · rw [List.getElem?_set_self (by omega)]
                  · rw [upd_ne hrf]
                    exact erq
                · obtain ⟨a, z1, z2, z3, z4, z5⟩ := hrow8 w (by omega)
                  refine ⟨a, ?_, z2, z3, z4, ?_⟩
                  · have hxw := oo.mem.mp (List.mem_of_getElem? (oA_get (os := os) (i := w) (by omega)))
                    rw [List.getElem?_set_ne (fun z => ?_)]
                    · exact z1
                    · have e3 : oA os m = oA os w := by omega
                      have p1 := oA_pos hnd hm
                      have p2 := oA_pos hnd (i := w) (by omega)
                      rw [e3, p2] at p1
                      exact e p1
                  · rw [upd_ne z3]
                    exact s11 _ _ z5
      · obtain ⟨y6, y7, y8, y10, y11, y12, y13, y14, fs, rfl, s5, hM5, ef5, fl5, hrow⟩ := hP
        refine g_ret (vl_var rfl) (q H5 fo fs (sG.trans s5) (Same.free sG hfG) ef5 ⟨by omega, fun x h0 h1 => ?_⟩)
        have hx := oo.mem.mpr ⟨h0, h1⟩
        obtain ⟨a, z1, z2, z3, z4, z5⟩ := hrow (posOf x os) (by rw [List.length_map]; exact pos_len hx)
        rw [oA_of hx] at z1 z5
        exact ⟨a, z1, Same.free sG z2, z3, z5⟩
end
def spPairs (K : PySem.W.Frag) : Sp := fun vs H Q _ => ∃ (v : V) (N : Net) (p : Addr) (os : List Int), vs = [v, .ref p] ∧ Dp K H v (netD N) ∧ NetOk N ∧ SqL K H p (os.map V.int) ∧ OrdOk N.n os ∧ ∀ H' q ts, Same H H' → H q = none → H' q = some (.lst ts) → TupsAt H' ts (pairsL N.ls os) → Q (.ref q) H'
theorem yes_of {σ : L2.St} {H : Hp} {Q : Bool → Hp → Prop} (h : Q true H) : tYes σ H Q := h
abbrev sPairs : Stmt := topS 25
theorem scPairs : FnScope ["net", "order", "above", "low", "high"] ["net", "order"] (defScope sPairs) := ⟨rfl, rfl, rfl, by decide +kernel, rfl, by decide +kernel, by decide +kernel⟩
section
variable {P : Program} {w : World} {K : PySem.W.Frag} {mg : Str → Option Value} {base : Heap} {CN fI : Addr}
theorem ok_pairs {f : Addr} {fd : FuncData} {k : Nat} (F : Fun K "pairs" "pairs" sPairs f fd) (c_upper : Kal P w K mg base k "upper" ["net", "order"] (spUpper K)) : FnOk P w K mg base CX0 (k + 1) f fd ["net", "order"] (spPairs K) := by
  refine F.ok scPairs (fun vs H Q E h => ?_) (fun cdv A outer s H vs Q E hr h => ?_)
  · obtain ⟨v, N, p, os, rfl, _⟩ := h
    rfl
  · obtain ⟨v, N, p, os, rfl, hN, okN, hS, oo, q⟩ := h
    refine ⟨_, pss_cons (ps_set (i := 2) scPairs.nd rfl (.inr rfl) (pe_k c_upper hr (by first | decide | omega) (by rfl) (pa_cons (pv 0) (pa_cons (pv 1) pa_nil))))
      (pss_one (ps_ret (pe_lc2 (own := [("low", 3), ("high", 4)]) (vs1 := [4]) (g := gName 3) (tt := tYes) (wi1 := (iList K (tOp (rIxL K) (tVar 2) (tVar 3)))) (g1 := gName 4) (tt1 := tYes) (te := (tTup (tCons (tVar 3) (tCons (tVar 4) tNil)))) (by rfl) scPairs.nd (pi_list (pv 1)) (blkOk_by (own := [("low", 3), ("high", 4)]) (N := ["net", "order", "above", "low", "high"]) (sc := defScope sPairs) (by decide +kernel)) (by decide) (fun _ _ _ _ _ => pg_name (i := 3) scPairs.nd rfl (Or.inl rfl)) (fun _ _ _ _ _ => by exact pts_nil) (fun _ _ _ _ _ => by exact (pi_list (pe_ix ix_list (pv 2) (pv 3) (fun _ _ => rfl)))) (fun _ _ _ _ _ => pg_name (i := 4) scPairs.nd rfl (Or.inl rfl)) (fun _ _ _ _ _ => by exact pts_nil) (fun _ _ _ _ _ => by exact (pe_tup (pa_cons (pv 3) (pa_cons (pv 4) pa_nil))))))), ?_⟩
    refine q_asgE ⟨v, rfl, .ref p, rfl, v, N, p, os, rfl, hN, okN, hS, oo, fun H1 ap rs s1 nap eap hrow => ?_⟩
    have on := oo.len
    have hS1 := s1.seq hS
    refine ⟨.ref p, rfl, p, rfl, ⟨_, hS1⟩, fun D nD => ?_⟩
    have snD : Same H1 (upd H1 D (.lst [])) := same_upd nD
    -- what stands ahead of turn i
    refine ⟨fun i m H2 => m + i = os.length ∧ Same H1 H2 ∧ ∃ ts, H2 D = some (.lst ts) ∧ TupsAt H2 ts ((os.take i).flatMap fun u => (upP N.ls os u).map fun v => (u, v)), ⟨os.length, rfl, snD, [], upd_same, TupsAt.nil⟩, fun i m H2 hW => ?_⟩
    obtain ⟨em, s2, ts, hD, hT⟩ := hW
    by_cases hi : i < os.length
    · refine .inr ⟨⟨_, _, s2.seq hS1, by rw [List.getElem?_map, List.getElem?_eq_getElem hi] <;> rfl⟩, fun H' => Same H1 H' ∧ ∃ ts, H' D = some (.lst ts) ∧ TupsAt H' ts ((os.take (i + 1)).flatMap fun u => (upP N.ls os u).map fun v => (u, v)), fun H' hx => ⟨m - 1, by omega, by omega, hx.1, hx.2⟩, fun x H' hy => ?_⟩
      obtain ⟨rfl, hy⟩ := hy
      have hy := hy _ (s2.seq hS1)
      have hg : os[i]? = some os[i] := List.getElem?_eq_getElem hi
      rw [List.getElem?_map, hg] at hy
      generalize os[i] = u at hg hy
      cases hy
      have hu := oo.mem.mp (List.mem_of_getElem? hg)
      obtain ⟨a, z1, z2, z3, z4⟩ := hrow.row u hu.1 hu.2
      have e0 : (os.take (i + 1)).flatMap (fun u => (upP N.ls os u).map fun v => (u, v)) = ((os.take i).flatMap fun u => (upP N.ls os u).map fun v => (u, v)) ++ (upP N.ls os u).map fun v => (u, v) := by
        rw [take_snoc hg, List.flatMap_append]
        simp
      have hlen : ((os.take i).flatMap fun u => (upP N.ls os u).map fun v => (u, v)).length + (upP N.ls os u).length ≤ 1600 := by
        have h1 := pairsL_len okN oo
        have h2 : (os.take (i + 1)).flatMap (fun u => (upP N.ls os u).map fun v => (u, v)) <+: pairsL N.ls os := by
          unfold pairsL
          exact ⟨(os.drop (i + 1)).flatMap fun u => (upP N.ls os u).map fun v => (u, v), by rw [← List.flatMap_append, List.take_append_drop]⟩
        have h3 := h2.length_le
        rw [e0, List.length_append, List.length_map] at h3
        omega
      refine ⟨rfl, ?_⟩
      refine yes_of ?_
      dsimp only
      rw [if_pos rfl]
      have za := s2 _ _ z4
      have eap2 := s2 _ _ eap
      refine (vl_ixL (K := K) (σ := [some v, some (.ref p), some (.ref ap), some (.int u), none]) (vl_var rfl) (vl_var rfl) (.of eap2) (by
        have := atI_nat z1
        rw [show ((u.toNat : Nat) : Int) = u by omega] at this
        exact this)) _ ⟨a, rfl, ⟨_, .of za⟩, fun j k H3 => k + j = (upP N.ls os u).length ∧ Same H1 H3 ∧ ∃ ts, H3 D = some (.lst ts) ∧ TupsAt H3 ts (((os.take i).flatMap fun u => (upP N.ls os u).map fun v => (u, v)) ++ ((upP N.ls os u).take j).map fun v => (u, v)), ⟨_, rfl, s2, ts, hD, by
          rw [List.take_zero, List.map_nil, List.append_nil]
          exact hT⟩, fun j k H3 hW => ?_⟩
      obtain ⟨ek, s3, ts3, hD3, hT3⟩ := hW
      have za3 := s3 _ _ z4
      by_cases hj : j < (upP N.ls os u).length
      · refine .inr ⟨⟨_, _, .of za3, by rw [List.getElem?_map, List.getElem?_eq_getElem hj] <;> rfl⟩, fun H' => Same H1 H' ∧ ∃ ts, H' D = some (.lst ts) ∧ TupsAt H' ts (((os.take i).flatMap fun u => (upP N.ls os u).map fun v => (u, v)) ++ ((upP N.ls os u).take (j + 1)).map fun v => (u, v)), fun H' hx => ⟨k - 1, by omega, by omega, hx.1, hx.2⟩, fun x H' hy => ?_⟩
        obtain ⟨rfl, hy⟩ := hy
        have hy := hy _ (.of za3)
        have hg2 : (upP N.ls os u)[j]? = some (upP N.ls os u)[j] := List.getElem?_eq_getElem hj
        rw [List.getElem?_map, hg2] at hy
        generalize (upP N.ls os u)[j] = z at hg2 hy
        cases hy
        refine ⟨rfl, ?_⟩
        refine yes_of ?_
        dsimp only
        rw [if_pos rfl]
        refine ⟨_, rfl, _, rfl, by show 2 ≤ sizeLine; decide, fun T nT => ⟨ts3, same_upd nT _ _ hD3, ?_, same_upd' (s3.trans (same_upd nT)) nD, _, upd_same, ?_⟩⟩
        · rw [hT3.len, List.length_append, List.length_map, List.length_take]
          exact Nat.lt_of_le_of_lt (m := 10000) (by omega) (by decide)
        · rw [take_snoc hg2, List.map_append, ← List.append_assoc]
          exact ((hT3.to (same_upd nT)).app (TupsAt.one upd_same)).upd (same_upd nT _ _ hD3)
      · refine .inl ⟨⟨_, .of za3, by rw [List.length_map]; omega⟩, s3, ts3, hD3, ?_⟩
        rw [e0]
        rw [List.take_of_length_le (l := upP N.ls os u) (i := j) (by omega)] at hT3
        exact hT3
    · refine .inl ⟨⟨_, s2.seq hS1, by rw [List.length_map]; omega⟩, ?_⟩
      rw [List.take_of_length_le (by omega)] at hT
      exact q H2 D ts (s1.trans s2) (Same.free s1 nD) hD hT
end
theorem room65 {k : Nat} {A : Around} (r : Room k A) : A.units + 65 < cLine := by
  have := r.un
  omega
/-! ### the price of a link, the places lower than both -/
def linkW : List Lnk → Int → Int → Option Int
  | [], _, _ => none
  | l :: r, x, y => if l.a = x ∧ l.b = y then l.t else if l.b = x ∧ l.a = y then l.k else linkW r x y
def spLLink (K : PySem.W.Frag) : Sp := fun vs H Q _ => ∃ (v : V) (N : Net) (x y : Int), vs = [v, .int x, .int y] ∧ Dp K H v (netD N) ∧ ∀ H', Same H H' → Q (oV (linkW N.ls x y)) H'
section
variable {P : Program} {w : World} {K : PySem.W.Frag} {mg : Str → Option Value} {base : Heap}
end
section
variable {K : PySem.W.Frag} {σ : L2.St} {H : Hp} {ta tb te tl : TE} {tt : TT} {v : V}
/-- [f x for x in xs if ..], the test makes objects on its way -/
theorem vn_lcIX {j : Nat} {ns : List Int} {pb : Int → Bool} {f : Int → V} (hl : ∀ Q : VK, (∀ a H1, Same H H1 → SqL K H1 a (ns.map V.int) → Q (.ref a) H1) → tl σ H Q) (hz : ns.length ≤ 1000000)
    (ht : ∀ x ∈ ns, ∀ H', Same H H' → Ax tt ((σ.set j none).set j (some (.int x))) H' (pb x)) (he : ∀ x ∈ ns, ∀ H', Same H H' → Vl te ((σ.set j none).set j (some (.int x))) H' (f x)) :
    Vn (tLc (iList K tl) (gName j) tt te [j]) σ H ((ns.filter pb).map f) := fun Q q => by
  refine hl _ fun a H1 s1 hx => ⟨a, rfl, ⟨_, hx⟩, fun D nD => lc_list (xs := ns.map V.int) (fun i H' => H' D = some (.lst (((ns.take i).filter pb).map f)) ∧ Same H1 H') ⟨upd_same, same_upd nD⟩ (fun i H' _ hP => hP.2.seq hx) (fun i x H2 hi hP => ?_) (fun H2 hP => ?_)⟩
  · obtain ⟨hD, s2⟩ := hP
    rw [List.getElem?_map] at hi
    cases hg : ns[i]? with
    | none =>
      rw [hg] at hi
      cases hi
    | some n =>
      rw [hg] at hi
      cases hi
      have hm := List.mem_of_getElem? hg
      have e : (ns.take (i + 1)).filter pb = (ns.take i).filter pb ++ [n].filter pb := by
        rw [take_snoc hg]
        exact List.filter_append ..
      refine ⟨?_, ht n hm H2 (s1.trans s2) _ fun H3 s3 => ?_⟩
      · show ((σ.set j none).set j (some (V.int n))).set j none = σ.set j none
        rw [List.set_set, List.set_set]
      · cases hp : pb n with
        | true =>
          have e2 : [n].filter pb = [n] := by
            rw [List.filter_cons, hp]
            rfl
          refine iteT (B := H3 D = some (.lst (((ns.take (i + 1)).filter pb).map f)) ∧ Same H1 H3) (he n hm H3 ((s1.trans s2).trans s3) _ ⟨_, s3 _ _ hD, ?_, ?_, same_upd' (s2.trans s3) nD⟩)
          · rw [List.length_map]
            have h1 : ((ns.take i).filter pb).length ≤ ns.length := Nat.le_trans (List.length_filter_le _ _) (by rw [List.length_take]; exact Nat.min_le_right _ _)
            exact Nat.lt_of_le_of_lt (m := 1000000) (by omega) (by decide)
          · rw [upd_same, e, e2, List.map_append]
            rfl
        | false =>
          have e2 : [n].filter pb = [] := by
            rw [List.filter_cons, hp]
            rfl
          refine iteF ⟨?_, s2.trans s3⟩
          rw [e, e2, List.append_nil]
          exact s3 _ _ hD
  · obtain ⟨hD, s2⟩ := hP
    rw [show ns.take (ns.map V.int).length = ns by rw [List.length_map, List.take_length]] at hD
    exact q D H2 (s1.trans s2) (Same.free s1 nD) hD
theorem lay_pairs : ∀ L : List (Int × Int), PyData.canLayAll0 (L.map pairD2) = true ∧ PyData.depthAll (L.map pairD2) ≤ 1
  | [] => ⟨rfl, Nat.zero_le _⟩
  | x :: L => by
    have ih := lay_pairs L
    constructor
    · show ((true && (true && true)) && PyData.canLayAll0 (L.map pairD2)) = true
      rw [ih.1]
      rfl
    · show max (max 0 (max 0 0) + 1) (PyData.depthAll (L.map pairD2)) ≤ 1
      have := ih.2
      simp only [Nat.max_self, Nat.zero_add]
      omega
theorem shaped_pairs (L : List (Int × Int)) : SeqAt.shaped (.list (L.map pairD2)) = true := by
  have h := lay_pairs L
  show (PyData.canLayAll0 (L.map pairD2) && decide (PyData.depthAll (L.map pairD2) + 1 ≤ 64)) = true
  rw [h.1, decide_eq_true (show PyData.depthAll (L.map pairD2) + 1 ≤ 64 by
    have := h.2
    omega)]
  rfl
theorem any_pairs (L : List (Int × Int)) (p q : Int) : ((L.map pairD2).any fun z => PyData.eqv z (.tuple [.int p, .int q])) = decide ((p, q) ∈ L) := by
  rw [Bool.eq_iff_iff, List.any_eq_true, decide_eq_true_eq]
  have e : ∀ x : Int × Int, PyData.eqv (pairD2 x) (.tuple [.int p, .int q]) = decide (x = (p, q)) := fun x => by
    obtain ⟨a, b⟩ := x
    show (a == p && (b == q && true)) = _
    rw [Bool.and_true, Bool.eq_iff_iff]
    simp
  constructor
  · rintro ⟨z, hz, hq⟩
    obtain ⟨x, hx, rfl⟩ := List.mem_map.mp hz
    rw [e, decide_eq_true_eq] at hq
    rw [← hq]
    exact hx
  · intro h
    refine ⟨_, List.mem_map_of_mem h, ?_⟩
    rw [e, decide_eq_true rfl]
theorem ax_inP {p q : Int} {f : V} {L : List (Int × Int)} {tf : TE} (ha : ∀ H', Same H H' → Vl ta σ H' (.int p)) (hb : ∀ H', Same H H' → Vl tb σ H' (.int q)) (hf : ∀ H', Same H H' → Vl tf σ H' f) (hd : Dp K H f (.list (L.map pairD2))) :
    Ax (tTest (tOp (rInD K) (tTup (tCons ta (tCons tb tNil))) tf)) σ H (decide ((p, q) ∈ L)) := fun Q k =>
  ha H (Same.refl H) _ (hb H (Same.refl H) _ ⟨by show 2 ≤ sizeLine; decide, fun T nT => by
    have s1 : Same H (upd H T (.tup [.int p, .int q])) := same_upd nT
    refine hf _ s1 _ ⟨.tuple [.int p, .int q], L.map pairD2, .tup (.of upd_same) (.cons (.int _) (.cons (.int _) .nil)), Dp.to hd s1, by rfl, shaped_pairs L, _, rfl, ?_⟩
    rw [any_pairs]
    exact k _ s1⟩)
end
def lowerL (L : List (Int × Int)) (os : List Int) (u v : Int) : List Int := os.filter fun w => decide ((w, u) ∈ L) && decide ((w, v) ∈ L)
def spLower (K : PySem.W.Frag) : Sp := fun vs H Q _ => ∃ (f : V) (L : List (Int × Int)) (o : Addr) (os : List Int) (u v : Int), vs = [f, .ref o, .int u, .int v] ∧ Dp K H f (.list (L.map pairD2)) ∧ SqL K H o (os.map V.int) ∧ os.length ≤ 1000 ∧
  ∀ p H', Same H H' → H p = none → H' p = some (.lst ((lowerL L os u v).map V.int)) → Q (.ref p) H'
section
variable {P : Program} {w : World} {K : PySem.W.Frag} {mg : Str → Option Value} {base : Heap}
end
end Ovc
namespace PySem.W
open PySem PySem.Calls PyProof.Rows PySem.Spec
section
variable {prog : Program} {w : World} {K : Type} [DecidableEq K] {knd : HeapKind prog w K} {A : Around} {E : Value → Shared → Prop} {s : Shared} {a b : Addr} {xs ys : List (K × Addr × Value)}
def HitsH (prog : Program) (w : World) (A : Around) (s : Shared) (xs ys : List (K × Addr × Value)) : Prop := ∀ x ∈ xs, (∃ (j : Nat) (p : Addr × Value), ys[j]? = some (x.1, p)) ∧ ∀ (j : Nat) (p : Addr × Value), ys[j]? = some (x.1, p) → SeqAt.EqP prog w A s x.2.2 p.2 true
/-- the dicts whose keys stand in the heap, all their values equal -/
theorem samePairsH {nm : String} {Q : Bool → Shared → Prop} (ha : (a == sysModules) = false) (hb : (b == sysModules) = false) (da : s.heap.DictOfH knd a xs) (db : s.heap.DictOfH knd b ys) (hu : knd.room A) (hl : xs.length = ys.length) (hits : HitsH prog w A s xs ys) (h : Q true s) :
    wpAny (model prog w) A (Builtin.Dict.samePairs nm a b) Q E s := by
  obtain ⟨oa, es, ep, hoa, _, hda, hea, hia, hna⟩ := da
  obtain ⟨ob, es', ep', hob, _, hdb, heb, hib, hnb⟩ := db
  have hla := size_of_entries hea
  have hlb := size_of_entries heb
  unfold Builtin.Dict.samePairs Builtin.Dict.showsAll
  rw [if_neg (show ¬ (a == sysModules) = true by rw [ha]; exact Bool.false_ne_true), if_neg (show ¬ (b == sysModules) = true by rw [hb]; exact Bool.false_ne_true)]
  refine wpAny_bind (wpAny_pure (wpAny_bind (wpAny_pure ?_)))
  refine wpAny_bind (wpAny_dictEntries hoa hda ?_)
  dsimp only
  refine wpAny_bind (wpAny_dictEntries hob hdb ?_)
  have hsz : es.size = es'.size := by omega
  rw [if_neg (by rw [hsz]; simp)]
  refine wpAny_bind (wpAny_dictEpoch hoa hda ?_)
  refine wpAny_bind ?_
  rw [Std.Legacy.Range.forIn_eq_forIn_range']
  simp only [Std.Legacy.Range.size, Nat.sub_zero, Nat.add_sub_cancel, Nat.div_one]
  refine wpAny_forIn_list _ (fun rest q s' => s' = s ∧ q = (none, ()) ∧ ∃ i, rest = List.range' i (es.size - i) ∧ i ≤ es.size) _ ?_ ?_ _ _ ⟨rfl, rfl, 0, by simp, Nat.zero_le _⟩
  · rintro x rest q s' ⟨rfl, rfl, i, hr, hi⟩
    have hlt : i < es.size := by
      rcases Nat.lt_or_ge i es.size with h | h
      · exact h
      · rw [Nat.sub_eq_zero_of_le h] at hr
        simp at hr
    obtain ⟨rfl, hrest⟩ : x = i ∧ rest = List.range' (i + 1) (es.size - (i + 1)) := by
      have e : es.size - i = (es.size - (i + 1)) + 1 := by omega
      rw [e, List.range'_succ] at hr
      injection hr with h1 h2
      exact ⟨h1, h2⟩
    have hx' : x < xs.length := by omega
    have hm : xs[x] ∈ xs := List.getElem_mem hx'
    have hx : es[x]? = some (entryOfKey knd xs[x]) := by
      rw [entry_at hea, List.getElem?_eq_getElem hx']
      rfl
    refine wpAny_bind (wpAny_dictEntries hoa hda ?_)
    rw [hx]
    show wpAny _ _ (holding [(entryOfKey knd xs[x]).key, (entryOfKey knd xs[x]).val] _ >>= _) _ _ _
    refine wpAny_bind (wpAny_holding (wpAny_bind (wpAny_dictFind_heap hu (hia _ hm) hob hdb heb hib hnb (fun hno => ?_) (fun j p hj => ?_))))
    · obtain ⟨⟨j, p, hj⟩, _⟩ := hits _ hm
      exact absurd hj (hno j p)
    · have hy : es'[j]? = some (entryOfKey knd (xs[x].1, p)) := by
        rw [entry_at heb, hj]
        rfl
      refine wpAny_bind (wpAny_dictEntries hob hdb ?_)
      rw [hy]
      refine wpAny_holding ((hits _ hm).2 j p hj _ _ ?_)
      show wpAny _ _ (if (!true) = true then _ else _) _ _ _
      rw [if_neg (by decide)]
      refine wpAny_bind (wpAny_dictEpoch hoa hda ?_)
      rw [if_neg (by simp)]
      exact wpAny_pure ⟨rfl, rfl, x + 1, hrest, hlt⟩
  · rintro q s' ⟨rfl, rfl, i, hr, hi⟩
    refine wpAny_pure ?_
    exact h
theorem eqH_dicts {Q : Value → Shared → Prop} (ha : (a == sysModules) = false) (hb : (b == sysModules) = false) (da : s.heap.DictOfH knd a xs) (db : s.heap.DictOfH knd b ys) (hu : A.units < cLine) (hr : knd.room A.in1) (hl : xs.length = ys.length)
    (hits : HitsH prog w A.in1 s xs ys) (h : Q (.bool true) s) : wpAny (model prog w) A (compareOp .Eq (.ref a) (.ref b)) Q E s := by
  refine wpAny_richCompare_same_room (op := .Eq) da.typeIs db.typeIs PySem.F.slot_dict_eq (wpAny_call_entry PySem.F.slot_dict_eq da.typeIs PySem.F.entry_dict_eq ?_ (PySem.F.args_dict_eq_2 _ _)) hu
  show wpAny _ _ (Builtin.Dict.dictSlotArgs "__eq__" ⟨[.ref a, .ref b], []⟩ >>= _) _ _ s
  refine wpAny_bind ?_
  unfold Builtin.Dict.dictSlotArgs
  refine wpAny_bind (wpAny_notOrdered_dict da.typeIs ?_)
  show wpAny _ _ (pure (Value.ref a, Value.ref b)) _ _ s
  refine wpAny_pure ?_
  refine wpAny_bind (wpAny_isInstance (T := "dict") db.typeIs PySem.F.sub_dict_dict ?_)
  simp only [Bool.not_true, Bool.false_eq_true, if_false]
  refine wpAny_bind (wpAny_pure (wpAny_bind (wpAny_pure ?_)))
  refine wpAny_bind (samePairsH ha hb da db hr hl hits ?_)
  refine wpAny_pure ⟨_, rfl, ?_, ?_⟩
  · exact fun x => nomatch x
  · simpa using h
theorem neH_dicts {Q : Value → Shared → Prop} (ha : (a == sysModules) = false) (hb : (b == sysModules) = false) (da : s.heap.DictOfH knd a xs) (db : s.heap.DictOfH knd b ys) (hu : A.units < cLine) (hr : knd.room A.in1) (hl : xs.length = ys.length)
    (hits : HitsH prog w A.in1 s xs ys) (h : Q (.bool false) s) : wpAny (model prog w) A (compareOp .NotEq (.ref a) (.ref b)) Q E s := by
  refine wpAny_richCompare_same_room (op := .NotEq) da.typeIs db.typeIs PySem.F.slot_dict_ne (wpAny_call_entry PySem.F.slot_dict_ne da.typeIs PySem.F.entry_dict_ne ?_ (PySem.F.args_dict_ne_2 _ _)) hu
  show wpAny _ _ (Builtin.Dict.dictSlotArgs "__ne__" ⟨[.ref a, .ref b], []⟩ >>= _) _ _ s
  refine wpAny_bind ?_
  unfold Builtin.Dict.dictSlotArgs
  refine wpAny_bind (wpAny_notOrdered_dict da.typeIs ?_)
  show wpAny _ _ (pure (Value.ref a, Value.ref b)) _ _ s
  refine wpAny_pure ?_
  refine wpAny_bind (wpAny_isInstance (T := "dict") db.typeIs PySem.F.sub_dict_dict ?_)
  simp only [Bool.not_true, Bool.false_eq_true, if_false]
  refine wpAny_bind (wpAny_pure (wpAny_bind (wpAny_pure ?_)))
  refine wpAny_bind (samePairsH ha hb da db hr hl hits ?_)
  refine wpAny_pure ⟨_, rfl, ?_, ?_⟩
  · exact fun x => nomatch x
  · simpa using h
end
end PySem.W
namespace L2
open PySem PySem.Spec PyProof.Rows
section
variable {X : Cx} {pins : List (Addr × Obj)} {σ : L2.St} {H : Hp} {s : Shared} {a b : Addr} {ks ls : List (List L2.Key × V)}
theorem atKey_get {K : Type} [DecidableEq K] {xs : List (K × Addr × Value)} {k : K} {p : Addr × Value} (h : atKey xs k = some p) : ∃ j : Nat, xs[j]? = some (k, p) := by
  unfold atKey at h
  obtain ⟨x, hx, e⟩ := Option.map_eq_some_iff.mp h
  have hm := List.mem_of_find?_eq_some hx
  have hk := List.find?_some hx
  obtain ⟨j, hj⟩ := List.mem_iff_getElem?.mp hm
  refine ⟨j, ?_⟩
  rw [hj]
  obtain ⟨k', p'⟩ := x
  have e1 : k' = k := of_decide_eq_true hk
  have e2 : p' = p := e
  rw [e1, e2]
/-- two dicts by tuples that are equal -/
def EqT (K : PySem.W.Frag) (H : Hp) (ks ls : List (List L2.Key × V)) : Prop := ks.length = ls.length ∧ ∀ p ∈ ks, ∃ u, valV ls p.1 = some u ∧ EqV K H 50 p.2 u
theorem hitsT (I : Inv X pins σ H s) {A : Around} (hu : A.units + 50 < cLine) : ∀ {ks : List (List L2.Key × V)} {xs : List (List L2.Key × Addr × Value)}, KT H ks xs → ∀ {ys : List (List L2.Key × Addr × Value)}, KT H ls ys → (ys.map (·.1)).Nodup → (∀ p ∈ ks, ∃ u, valV ls p.1 = some u ∧ EqV X.K H 50 p.2 u) →
    PySem.W.HitsH X.prog X.w A s xs ys := by
  intro ks xs q
  induction q with
  | nil => intro ys _ _ _ x hx; exact nomatch hx
  | @cons p q ps qs hq t ih =>
    intro ys hy hn hp x hx
    rcases List.mem_cons.mp hx with e | hx
    · subst e
      obtain ⟨e1, _, r1⟩ := hq
      obtain ⟨u, hv, he⟩ := hp p List.mem_cons_self
      obtain ⟨w', hw, rw'⟩ := RelO.some_of (v := u) (o := (atKey ys p.1).map (·.2)) (by rw [← hv]; exact KT.val hy p.1)
      obtain ⟨pr, hpr, hp2⟩ := Option.map_eq_some_iff.mp hw
      constructor
      · obtain ⟨j, hj⟩ := atKey_get hpr
        exact ⟨j, pr, by rw [← e1]; exact hj⟩
      · intro j pr' hj
        have e2 : atKey ys p.1 = some pr' := by
          rw [e1]
          exact atKey_of_get hn hj
        rw [hpr] at e2
        cases e2
        refine eqV_run I 50 A hu p.2 u _ _ he r1 ?_
        rw [hp2]
        exact rw'
    · exact ih hy hn (fun p' hm => hp p' (List.mem_cons_of_mem _ hm)) x hx
def rEqT (K : PySem.W.Frag) : R2 := fun x y H Q => ∃ a b ks ls, x = .ref a ∧ y = .ref b ∧ H a = some (.dT ks) ∧ H b = some (.dT ls) ∧ EqT K H ks ls ∧ Q (.bl true) H
def rNeT (K : PySem.W.Frag) : R2 := fun x y H Q => ∃ a b ks ls, x = .ref a ∧ y = .ref b ∧ H a = some (.dT ks) ∧ H b = some (.dT ls) ∧ EqT K H ks ls ∧ Q (.bl false) H
theorem op_eqT (hu : X.A.units + 64 < cLine) : OpR X (compareOp .Eq) (rEqT X.K) := by
  intro pins s σ H x y v u Q I rx ry h
  obtain ⟨a, b, ks, ls, rfl, rfl, ea, eb, ⟨hl, hp⟩, q⟩ := h
  obtain rfl : v = Value.ref a := rx
  obtain rfl : u = Value.ref b := ry
  obtain ⟨_, ya, xs, ra, da⟩ := dt_of I.hok ea
  obtain ⟨_, yb, ys, rb, db⟩ := dt_of I.hok eb
  have hn := db
  obtain ⟨_, _, _, _, _, _, _, _, hn⟩ := hn
  exact PySem.W.eqH_dicts ya yb da db (by omega) (tupleKind_room_in1 (by omega)) (by rw [← ra.length, ← rb.length]; exact hl) (hitsT I (A := X.A.in1) (by show X.A.units + 1 + 50 < cLine; omega) ra rb hn hp) ⟨.bl true, H, I, rfl, q⟩
theorem op_neT (hu : X.A.units + 64 < cLine) : OpR X (compareOp .NotEq) (rNeT X.K) := by
  intro pins s σ H x y v u Q I rx ry h
  obtain ⟨a, b, ks, ls, rfl, rfl, ea, eb, ⟨hl, hp⟩, q⟩ := h
  obtain rfl : v = Value.ref a := rx
  obtain rfl : u = Value.ref b := ry
  obtain ⟨_, ya, xs, ra, da⟩ := dt_of I.hok ea
  obtain ⟨_, yb, ys, rb, db⟩ := dt_of I.hok eb
  have hn := db
  obtain ⟨_, _, _, _, _, _, _, _, hn⟩ := hn
  exact PySem.W.neH_dicts ya yb da db (by omega) (tupleKind_room_in1 (by omega)) (by rw [← ra.length, ← rb.length]; exact hl) (hitsT I (A := X.A.in1) (by show X.A.units + 1 + 50 < cLine; omega) ra rb hn hp) ⟨.bl false, H, I, rfl, q⟩
end
end L2
namespace Ovc
open PySem PySem.Spec PyProof.Rows L2
end Ovc
namespace Ovc
open PySem PySem.Spec PyProof.Rows L2
/-! ### how long a text of data is -/
theorem textFrom_le : ∀ (ts : List Str) (k : Nat) (acc : Str), (textFrom k acc ts).length ≤ acc.length + piled ts
  | [], k, acc => Nat.le_add_right _ _
  | t :: r, k, acc => by
    have h := textFrom_le r (k + 1) (acc ++ (if k > 0 then ", " else "" : String) ++ t)
    have e : (acc ++ (if k > 0 then ", " else "" : String) ++ t).length ≤ acc.length + 2 + t.length := by
      rw [strLen_append, strLen_append]
      split
      · have : (Str.ofString ", ").length = 2 := by decide +kernel
        omega
      · have : (Str.ofString "").length = 0 := by decide +kernel
        omega
    show (textFrom (k + 1) _ r).length ≤ acc.length + piled (t :: r)
    rw [piled_cons]
    omega
theorem listText_le (ts : List Str) : (listText ts).length ≤ piled ts + 2 := by
  unfold listText
  rw [strLen_append]
  have h := textFrom_le ts 0 "["
  have e1 : ("[" : Str).length = 1 := by decide +kernel
  have e2 : ("]" : Str).length = 1 := by decide +kernel
  omega
theorem tupleText_le (ts : List Str) : (tupleText ts).length ≤ piled ts + 4 := by
  unfold tupleText
  rw [strLen_append, strLen_append]
  have e1 : ("(" : Str).length = 1 := by decide +kernel
  have e2 : ((if ts.length == 1 then ",)" else ")" : String) : Str).length ≤ 2 := by
    split
    · exact Nat.le_of_eq (by decide +kernel)
    · exact Nat.le_trans (Nat.le_of_eq (by decide +kernel)) (show 1 ≤ 2 by decide)
  by_cases h : ts = []
  · subst h
    have e3 : (Str.join ", " []).length = 0 := by decide +kernel
    omega
  · have := join_length_add ts h
    omega
theorem piled_le {ds : List PyData} {m : Nat} (h : ∀ d ∈ ds, d.shown.length ≤ m) : piled (PyData.shownAll ds) ≤ ds.length * (m + 2) := by
  induction ds with
  | nil => exact Nat.zero_le _
  | cons d r ih =>
    show piled (d.shown :: PyData.shownAll r) ≤ _
    rw [piled_cons, List.length_cons, Nat.succ_mul]
    have h1 := h d List.mem_cons_self
    have h2 := ih fun x hx => h x (List.mem_cons_of_mem _ hx)
    omega
theorem shown_int {i : Int} (h0 : 0 ≤ i) (h1 : i ≤ 10000000) : (PyData.int i).shown.length ≤ 10 := PySem.W.KT.len_num h0 (by omega)
theorem shown_o {o : Option Int} (h : PriceOk o) : (oD o).shown.length ≤ 10 := by
  cases o with
  | none =>
    show ("None" : Str).length ≤ 10
    decide +kernel
  | some x =>
    have := h x rfl
    exact shown_int (by omega) (by omega)
theorem showable_int {i : Int} (h0 : 0 ≤ i) (h1 : i ≤ 10000000) : (PyData.int i).showable = true := by
  refine decide_eq_true ?_
  by_cases hz : i.natAbs = 0
  · rw [hz]
    decide
  · rw [Nat.log2_lt hz]
    have h : i.natAbs < 2 ^ 24 := by omega
    exact Nat.lt_of_lt_of_le h (Nat.pow_le_pow_right (by decide : 2 > 0) (show 24 ≤ 1920 by decide))
theorem showable_o {o : Option Int} (h : PriceOk o) : (oD o).showable = true := by
  cases o with
  | none => rfl
  | some x =>
    have := h x rfl
    exact showable_int (by omega) (by omega)
theorem showable_all {ds : List PyData} (h : ∀ d ∈ ds, d.showable = true) : PyData.showableAll ds = true := by
  induction ds with
  | nil => rfl
  | cons d r ih =>
    show (d.showable && PyData.showableAll r) = true
    rw [h d List.mem_cons_self, ih fun x hx => h x (List.mem_cons_of_mem _ hx)]
    rfl
/-- what repr asks of data -/
structure ShowOk (d : PyData) (m : Nat) : Prop where
  sh : d.showable = true
  nd : d.hasDict = false
  dep : d.depth ≤ 10
  len : d.shown.length ≤ m
theorem showOk_net {N : Net} (ok : NetOk N) : ShowOk (netD N) 200000 := by
  have n1 := ok.n1
  have n40 := ok.n40
  have l16 := ok.len
  have hl : ∀ d ∈ N.ls.map lnkD, d.shown.length ≤ 60 ∧ d.showable = true := fun d hd => by
    obtain ⟨l, hl, rfl⟩ := List.mem_map.mp hd
    have h := ok.ok l hl
    have a0 := h.a0
    have ab := h.ab
    have bn := h.bn
    have s1 := shown_int (i := l.a) (by omega) (by omega)
    have s2 := shown_int (i := l.b) (by omega) (by omega)
    have s3 := shown_o h.t
    have s4 := shown_o h.k
    constructor
    · show (tupleText (PyData.shownAll [.int l.a, .int l.b, oD l.t, oD l.k])).length ≤ 60
      have := tupleText_le (PyData.shownAll [.int l.a, .int l.b, oD l.t, oD l.k])
      have p := piled_le (ds := [.int l.a, .int l.b, oD l.t, oD l.k]) (m := 10) (fun d hd => by
        simp only [List.mem_cons, List.not_mem_nil, or_false] at hd
        rcases hd with rfl | rfl | rfl | rfl <;> assumption)
      have e : ([.int l.a, .int l.b, oD l.t, oD l.k] : List PyData).length = 4 := rfl
      rw [e] at p
      omega
    · show (PyData.showableAll [.int l.a, .int l.b, oD l.t, oD l.k]) = true
      refine showable_all fun d hd => ?_
      simp only [List.mem_cons, List.not_mem_nil, or_false] at hd
      rcases hd with rfl | rfl | rfl | rfl
      · exact showable_int (by omega) (by omega)
      · exact showable_int (by omega) (by omega)
      · exact showable_o h.t
      · exact showable_o h.k
  have p := piled_le (ds := N.ls.map lnkD) (m := 60) fun d hd => (hl d hd).1
  rw [List.length_map] at p
  have q := listText_le (PyData.shownAll (N.ls.map lnkD))
  have s1 := shown_int (i := N.n) (by omega) (by omega)
  refine ⟨?_, PyData.hasDict_of_canLay _ (lay_net N).1, Nat.le_trans (lay_net N).2 (by decide), ?_⟩
  · show (PyData.showableAll [.int N.n, .list (N.ls.map lnkD)]) = true
    refine showable_all fun d hd => ?_
    simp only [List.mem_cons, List.not_mem_nil, or_false] at hd
    rcases hd with rfl | rfl
    · exact showable_int (by omega) (by omega)
    · exact showable_all fun d hd => (hl d hd).2
  · show (tupleText (PyData.shownAll [.int N.n, .list (N.ls.map lnkD)])).length ≤ 200000
    have := tupleText_le (PyData.shownAll [.int N.n, .list (N.ls.map lnkD)])
    have p2 := piled_le (ds := [.int N.n, .list (N.ls.map lnkD)]) (m := 99902) (fun d hd => by
      simp only [List.mem_cons, List.not_mem_nil, or_false] at hd
      rcases hd with rfl | rfl
      · omega
      · show (listText (PyData.shownAll (N.ls.map lnkD))).length ≤ 99902
        omega)
    have e : ([.int N.n, .list (N.ls.map lnkD)] : List PyData).length = 2 := rfl
    rw [e] at p2
    omega
theorem showOk_ints {ns : List Int} (h : ∀ x ∈ ns, 0 ≤ x ∧ x ≤ 10000000) (hl : ns.length ≤ 1000) : ShowOk (.list (ns.map PyData.int)) 20000 := by
  have p := piled_le (ds := ns.map PyData.int) (m := 10) fun d hd => by
    obtain ⟨x, hx, rfl⟩ := List.mem_map.mp hd
    exact shown_int (h x hx).1 (h x hx).2
  rw [List.length_map] at p
  have q := listText_le (PyData.shownAll (ns.map PyData.int))
  refine ⟨?_, PyData.hasDict_of_canLay _ ((lay_ints ns).1), ?_, ?_⟩
  · refine showable_all fun d hd => ?_
    obtain ⟨x, hx, rfl⟩ := List.mem_map.mp hd
    exact showable_int (h x hx).1 (h x hx).2
  · show PyData.depthAll (ns.map PyData.int) + 1 ≤ 10
    rw [(lay_ints ns).2]
    decide
  · show (listText (PyData.shownAll (ns.map PyData.int))).length ≤ 20000
    omega
theorem showOk_pair {a b : PyData} {m : Nat} (ha : ShowOk a m) (hb : ShowOk b m) : (PyData.tuple [a, b]).showable = true ∧ (PyData.tuple [a, b]).hasDict = false ∧ (PyData.tuple [a, b]).depth ≤ 60 ∧ (PyData.tuple [a, b]).shown.length ≤ 2 * (m + 2) + 4 := by
  refine ⟨?_, ?_, ?_, ?_⟩
  · show (PyData.showableAll [a, b]) = true
    exact showable_all fun d hd => by
      simp only [List.mem_cons, List.not_mem_nil, or_false] at hd
      rcases hd with rfl | rfl
      · exact ha.sh
      · exact hb.sh
  · show (a.hasDict || (b.hasDict || false)) = false
    rw [ha.nd, hb.nd]
    rfl
  · show max a.depth (max b.depth 0) + 1 ≤ 60
    have := ha.dep
    have := hb.dep
    omega
  · have := tupleText_le (PyData.shownAll [a, b])
    have p := piled_le (ds := [a, b]) (m := m) (fun d hd => by
      simp only [List.mem_cons, List.not_mem_nil, or_false] at hd
      rcases hd with rfl | rfl
      · exact ha.len
      · exact hb.len)
    have e : ([a, b] : List PyData).length = 2 := rfl
    rw [e] at p
    show (tupleText (PyData.shownAll [a, b])).length ≤ _
    omega
/-! ### the rows of a filling -/
structure Row where
  u : Int
  v : Int
  up : Option Int
  dn : Option Int
  um : Option Int
  dm : Option Int
def rowV (r : Row) : List V := [.int r.u, .int r.v, oV r.up, oV r.dn, oV r.um, oV r.dm]
def rowD (r : Row) : PyData := .tuple [.int r.u, .int r.v, oD r.up, oD r.dn, oD r.um, oD r.dm]
def prR (rows : List Row) (x y : Int) : Option Int :=
  match rows.find? (fun r => decide (r.u = x ∧ r.v = y)) with
  | some r => r.up
  | none => match rows.find? (fun r => decide (r.u = y ∧ r.v = x)) with
    | some r => r.dn
    | none => none
def addO : Option Int → Option Int → Option Int
  | some a, some b => some (a + b)
  | _, _ => none
def bestStep (s : Int → Option Int) (acc : Option Int × Option Int) (w : Int) : Option Int × Option Int :=
  match s w with
  | none => acc
  | some t => match acc.1 with
    | none => (some t, some w)
    | some b => if t < b then (some t, some w) else acc
/-- the least of what stands first and of all s w, the first w of it -/
def bestF (o : Option Int) (s : Int → Option Int) (ws : List Int) : Option Int × Option Int := ws.foldl (bestStep s) (o, none)
structure FillOk (N : Net) (os : List Int) (rows : List Row) : Prop where
  pairs : rows.map (fun r => (r.u, r.v)) = pairsL N.ls os
  up : ∀ r ∈ rows, (r.up, r.um) = bestF (linkW N.ls r.u r.v) (fun w => addO (prR rows r.u w) (prR rows w r.v)) (lowerL (pairsL N.ls os) os r.u r.v)
  dn : ∀ r ∈ rows, (r.dn, r.dm) = bestF (linkW N.ls r.v r.u) (fun w => addO (prR rows r.v w) (prR rows w r.u)) (lowerL (pairsL N.ls os) os r.u r.v)
theorem prR_some {rows : List Row} {x y c : Int} (h : prR rows x y = some c) : (∃ r ∈ rows, r.u = x ∧ r.v = y ∧ r.up = some c) ∨ ∃ r ∈ rows, r.u = y ∧ r.v = x ∧ r.dn = some c := by
  unfold prR at h
  cases e : rows.find? (fun r => decide (r.u = x ∧ r.v = y)) with
  | some r =>
    rw [e] at h
    have h1 : r.u = x ∧ r.v = y := by simpa using List.find?_some e
    exact .inl ⟨r, List.mem_of_find?_eq_some e, h1.1, h1.2, h⟩
  | none =>
    rw [e] at h
    cases e2 : rows.find? (fun r => decide (r.u = y ∧ r.v = x)) with
    | some r =>
      rw [e2] at h
      have h1 : r.u = y ∧ r.v = x := by simpa using List.find?_some e2
      exact .inr ⟨r, List.mem_of_find?_eq_some e2, h1.1, h1.2, h⟩
    | none =>
      rw [e2] at h
      cases h
theorem addO_some {a b : Option Int} {c : Int} (h : addO a b = some c) : ∃ x y, a = some x ∧ b = some y ∧ c = x + y := by
  cases a with
  | none => cases h
  | some x =>
    cases b with
    | none => cases h
    | some y =>
      cases h
      exact ⟨x, y, rfl, rfl, rfl⟩
/-- what holds of all that is compared holds of the best -/
theorem best_all {P : Int → Prop} {M : Int → Prop} {s : Int → Option Int} : ∀ (ws : List Int) (acc : Option Int × Option Int), (∀ c, acc.1 = some c → P c) → (∀ w, acc.2 = some w → M w) → (∀ w ∈ ws, (∀ c, s w = some c → P c) ∧ M w) →
    (∀ c, (ws.foldl (bestStep s) acc).1 = some c → P c) ∧ ∀ w, (ws.foldl (bestStep s) acc).2 = some w → M w
  | [], acc, h1, h2, _ => ⟨h1, h2⟩
  | w :: ws, acc, h1, h2, h3 => by
    have hw := h3 w List.mem_cons_self
    refine best_all ws (bestStep s acc w) ?_ ?_ (fun x hx => h3 x (List.mem_cons_of_mem _ hx))
    · intro c hc
      unfold bestStep at hc
      cases e : s w with
      | none =>
        rw [e] at hc
        exact h1 c hc
      | some t =>
        rw [e] at hc
        cases e2 : acc.1 with
        | none =>
          simp only [e2] at hc
          cases hc
          exact hw.1 _ e
        | some b =>
          simp only [e2] at hc
          by_cases l : t < b
          · rw [if_pos l] at hc
            cases hc
            exact hw.1 _ e
          · rw [if_neg l] at hc
            exact h1 c hc
    · intro m hm
      unfold bestStep at hm
      cases e : s w with
      | none =>
        rw [e] at hm
        exact h2 m hm
      | some t =>
        rw [e] at hm
        cases e2 : acc.1 with
        | none =>
          simp only [e2] at hm
          cases hm
          exact hw.2
        | some b =>
          simp only [e2] at hm
          by_cases l : t < b
          · rw [if_pos l] at hm
            cases hm
            exact hw.2
          · rw [if_neg l] at hm
            exact h2 m hm
theorem linkW_ok : ∀ {ls : List Lnk} {n x y c : Int}, (∀ l ∈ ls, LnkOk n l) → linkW ls x y = some c → 1 ≤ c ∧ c ≤ 1000000
  | [], _, _, _, _, _, h => nomatch h
  | l :: r, n, x, y, c, ok, h => by
    unfold linkW at h
    have hl := ok l List.mem_cons_self
    by_cases c1 : l.a = x ∧ l.b = y
    · rw [if_pos c1] at h
      exact hl.t c h
    · rw [if_neg c1] at h
      by_cases c2 : l.b = x ∧ l.a = y
      · rw [if_pos c2] at h
        exact hl.k c h
      · rw [if_neg c2] at h
        exact linkW_ok (fun z hz => ok z (List.mem_cons_of_mem _ hz)) h
theorem mem_lowerL {L : List (Int × Int)} {os : List Int} {u v w : Int} : w ∈ lowerL L os u v ↔ w ∈ os ∧ (w, u) ∈ L ∧ (w, v) ∈ L := by
  unfold lowerL
  rw [List.mem_filter, Bool.and_eq_true, decide_eq_true_eq, decide_eq_true_eq]
section
variable {N : Net} {os : List Int} {rows : List Row}
theorem FillOk.pair (ok : NetOk N) (oo : OrdOk N.n os) (h : FillOk N os rows) {r : Row} (hr : r ∈ rows) : PairP N.ls os r.u r.v := by
  have e : (r.u, r.v) ∈ rows.map (fun r => (r.u, r.v)) := List.mem_map.mpr ⟨r, hr, rfl⟩
  rw [h.pairs] at e
  exact (mem_pairsL ok oo).mp e
/-- no price is more than doubled from one place to the next -/
theorem FillOk.bound (ok : NetOk N) (oo : OrdOk N.n os) (h : FillOk N os rows) : ∀ (k : Nat) (r : Row), r ∈ rows → posOf r.u os ≤ k → (∀ c, r.up = some c → 1 ≤ c ∧ c ≤ 1000000 * 2 ^ k) ∧ (∀ c, r.dn = some c → 1 ≤ c ∧ c ≤ 1000000 * 2 ^ k) ∧ (∀ w, r.um = some w → w ∈ os) ∧ ∀ w, r.dm = some w → w ∈ os := by
  intro k
  induction k with
  | zero =>
    intro r hr hk
    have base : ∀ w ∈ lowerL (pairsL N.ls os) os r.u r.v, False := fun w hw => by
      have p := (mem_pairsL ok oo).mp (mem_lowerL.mp hw).2.1
      have := p.1
      omega
    have b1 := best_all (P := fun c => 1 ≤ c ∧ c ≤ 1000000 * 2 ^ 0) (M := fun w => w ∈ os) (s := fun w => addO (prR rows r.u w) (prR rows w r.v)) (lowerL (pairsL N.ls os) os r.u r.v) (linkW N.ls r.u r.v, none) (fun c hc => by
      have := linkW_ok ok.ok hc
      omega) (fun w hw => nomatch hw) (fun w hw => (base w hw).elim)
    have b2 := best_all (P := fun c => 1 ≤ c ∧ c ≤ 1000000 * 2 ^ 0) (M := fun w => w ∈ os) (s := fun w => addO (prR rows r.v w) (prR rows w r.u)) (lowerL (pairsL N.ls os) os r.u r.v) (linkW N.ls r.v r.u, none) (fun c hc => by
      have := linkW_ok ok.ok hc
      omega) (fun w hw => nomatch hw) (fun w hw => (base w hw).elim)
    have e1 := h.up r hr
    have e2 := h.dn r hr
    unfold bestF at e1 e2
    rw [← e1] at b1
    rw [← e2] at b2
    exact ⟨b1.1, b2.1, b1.2, b2.2⟩
  | succ k ih =>
    intro r hr hk
    have pw : (1000000 : Int) * 2 ^ (k + 1) = 2 * (1000000 * 2 ^ k) := by
      rw [Int.pow_succ]
      omega
    have pos : (1 : Int) ≤ 2 ^ k := by
      have h0 : (0 : Int) < 2 ^ k := Int.pow_pos (by decide)
      omega
    have price : ∀ w z, w ∈ lowerL (pairsL N.ls os) os r.u r.v → (z = r.u ∨ z = r.v) → (∀ c, prR rows z w = some c → 1 ≤ c ∧ c ≤ 1000000 * 2 ^ k) ∧ ∀ c, prR rows w z = some c → 1 ≤ c ∧ c ≤ 1000000 * 2 ^ k := by
      intro w z hw hz
      have hm := mem_lowerL.mp hw
      have pu := (mem_pairsL ok oo).mp hm.2.1
      have pv := (mem_pairsL ok oo).mp hm.2.2
      have lz : posOf w os < posOf z os := by
        rcases hz with rfl | rfl
        · exact pu.1
        · exact pv.1
      have lw : posOf w os ≤ k := by
        have := pu.1
        omega
      have key : ∀ q ∈ rows, ((q.u = z ∧ q.v = w) → False) := fun q hq e => by
        have := (h.pair ok oo hq).1
        rw [e.1, e.2] at this
        omega
      constructor
      · intro c hc
        rcases prR_some hc with ⟨q, hq, e1, e2, _⟩ | ⟨q, hq, e1, e2, e3⟩
        · exact (key q hq ⟨e1, e2⟩).elim
        · exact (ih q hq (by rw [e1]; exact lw)).2.1 c e3
      · intro c hc
        rcases prR_some hc with ⟨q, hq, e1, e2, e3⟩ | ⟨q, hq, e1, e2, _⟩
        · exact (ih q hq (by rw [e1]; exact lw)).1 c e3
        · exact (key q hq ⟨e1, e2⟩).elim
    have b1 := best_all (P := fun c => 1 ≤ c ∧ c ≤ 1000000 * 2 ^ (k + 1)) (M := fun w => w ∈ os) (s := fun w => addO (prR rows r.u w) (prR rows w r.v)) (lowerL (pairsL N.ls os) os r.u r.v) (linkW N.ls r.u r.v, none) (fun c hc => by
      have := linkW_ok ok.ok hc
      omega) (fun w hw => nomatch hw) (fun w hw => ⟨fun c hc => by
        obtain ⟨x, y, hx, hy, rfl⟩ := addO_some hc
        have q1 := (price w r.u hw (.inl rfl)).1 x hx
        have q2 := (price w r.v hw (.inr rfl)).2 y hy
        omega, (mem_lowerL.mp hw).1⟩)
    have b2 := best_all (P := fun c => 1 ≤ c ∧ c ≤ 1000000 * 2 ^ (k + 1)) (M := fun w => w ∈ os) (s := fun w => addO (prR rows r.v w) (prR rows w r.u)) (lowerL (pairsL N.ls os) os r.u r.v) (linkW N.ls r.v r.u, none) (fun c hc => by
      have := linkW_ok ok.ok hc
      omega) (fun w hw => nomatch hw) (fun w hw => ⟨fun c hc => by
        obtain ⟨x, y, hx, hy, rfl⟩ := addO_some hc
        have q1 := (price w r.v hw (.inr rfl)).1 x hx
        have q2 := (price w r.u hw (.inl rfl)).2 y hy
        omega, (mem_lowerL.mp hw).1⟩)
    have e1 := h.up r hr
    have e2 := h.dn r hr
    unfold bestF at e1 e2
    rw [← e1] at b1
    rw [← e2] at b2
    exact ⟨b1.1, b2.1, b1.2, b2.2⟩
end
/-! ### the program's promises of a filling -/
def spFill (K : PySem.W.Frag) : Sp := fun vs H Q _ => ∃ (v : V) (N : Net) (p : Addr) (os : List Int), vs = [v, .ref p] ∧ Dp K H v (netD N) ∧ NetOk N ∧ SqL K H p (os.map V.int) ∧ OrdOk N.n os ∧
  ∀ H' q ts rows, Same H H' → H q = none → H' q = some (.lst ts) → DpAll K H' ts (rows.map rowD) → FillOk N os rows → Q (.ref q) H'
/-- the dict of lower places, its lists new in H' -/
structure LowD (H H' : Hp) (d : Addr) (kvs : List (List L2.Key × V)) (L : List (Int × Int)) (os : List Int) : Prop where
  d : H' d = some (.dT kvs)
  len : kvs.length = L.length
  all : ∀ p ∈ kvs, ∃ u v a, (u, v) ∈ L ∧ p = ([Sum.inl u, Sum.inl v], .ref a) ∧ H a = none ∧ H' a = some (.lst ((lowerL L os u v).map V.int))
  has : ∀ u v, (u, v) ∈ L → ∃ y, valV kvs [Sum.inl u, Sum.inl v] = some y
def spLowerPl (K : PySem.W.Frag) : Sp := fun vs H Q _ => ∃ (v : V) (N : Net) (p : Addr) (os : List Int) (rows : List Row), vs = [v, .ref p] ∧ Dp K H v (.list (rows.map rowD)) ∧ NetOk N ∧ SqL K H p (os.map V.int) ∧ OrdOk N.n os ∧ FillOk N os rows ∧
  ∀ H' d kvs, Same H H' → H d = none → LowD H H' d kvs (pairsL N.ls os) os → Q (.ref d) H'
def spCheckFill (K : PySem.W.Frag) : Sp := fun vs H Q _ => ∃ (v r : V) (N : Net) (p : Addr) (os : List Int) (rows : List Row), vs = [v, .ref p, r] ∧ Dp K H v (netD N) ∧ NetOk N ∧ SqL K H p (os.map V.int) ∧ OrdOk N.n os ∧ Dp K H r (.list (rows.map rowD)) ∧ rows.length ≤ 10000 ∧
  ∀ H' b, Same H H' → (b = true ↔ FillOk N os rows) → Q (.bl b) H'
/-! ### what repr asks of the rows -/
theorem shown_big {i : Int} (h0 : 0 ≤ i) (h1 : i ≤ 8192000000) : (PyData.int i).shown.length ≤ 10 := PySem.W.KT.len_num h0 (by omega)
theorem showable_big {i : Int} (h0 : 0 ≤ i) (h1 : i ≤ 8192000000) : (PyData.int i).showable = true := by
  refine decide_eq_true ?_
  by_cases hz : i.natAbs = 0
  · rw [hz]
    decide
  · rw [Nat.log2_lt hz]
    have h : i.natAbs < 2 ^ 33 := by omega
    exact Nat.lt_of_lt_of_le h (Nat.pow_le_pow_right (by decide : 2 > 0) (show 33 ≤ 1920 by decide))
theorem show_oB {o : Option Int} (h : ∀ c, o = some c → 0 ≤ c ∧ c ≤ 8192000000) : (oD o).shown.length ≤ 10 ∧ (oD o).showable = true := by
  cases o with
  | none =>
    refine ⟨?_, rfl⟩
    show ("None" : Str).length ≤ 10
    decide +kernel
  | some x =>
    have := h x rfl
    exact ⟨shown_big this.1 this.2, showable_big this.1 this.2⟩
theorem lay_row (r : Row) : (rowD r).canLay0 = true ∧ (rowD r).depth = 1 := by
  have h1 := lay_o r.up
  have h2 := lay_o r.dn
  have h3 := lay_o r.um
  have h4 := lay_o r.dm
  constructor
  · show (true && (true && ((oD r.up).canLay0 && ((oD r.dn).canLay0 && ((oD r.um).canLay0 && ((oD r.dm).canLay0 && true)))))) = true
    rw [h1.1, h2.1, h3.1, h4.1]
    rfl
  · show max 0 (max 0 (max (oD r.up).depth (max (oD r.dn).depth (max (oD r.um).depth (max (oD r.dm).depth 0))))) + 1 = 1
    rw [h1.2, h2.2, h3.2, h4.2]
    rfl
theorem lay_rows : ∀ rows : List Row, PyData.canLayAll0 (rows.map rowD) = true ∧ PyData.depthAll (rows.map rowD) ≤ 1
  | [] => ⟨rfl, Nat.zero_le _⟩
  | r :: rows => by
    have h := lay_row r
    have ih := lay_rows rows
    constructor
    · show ((rowD r).canLay0 && PyData.canLayAll0 (rows.map rowD)) = true
      rw [h.1, ih.1]
      rfl
    · show max (rowD r).depth (PyData.depthAll (rows.map rowD)) ≤ 1
      rw [h.2]
      have := ih.2
      omega
theorem showOk_rows {N : Net} {os : List Int} {rows : List Row} (ok : NetOk N) (oo : OrdOk N.n os) (h : FillOk N os rows) (hn : N.n ≤ 13) : ShowOk (.list (rows.map rowD)) 200000 := by
  have n1 := ok.n1
  have n40 := ok.n40
  have hlen : rows.length ≤ 1600 := by
    have e := congrArg List.length h.pairs
    rw [List.length_map] at e
    rw [e]
    exact pairsL_len ok oo
  have one : ∀ r ∈ rows, (rowD r).shown.length ≤ 76 ∧ (rowD r).showable = true := fun r hr => by
    have pp := h.pair ok oo hr
    have pi := pp.ins ok
    have hv : r.v ∈ os := oo.mem.mpr pi.2
    have lv := posOf_lt hv
    have lv2 : posOf r.v os < os.length := (List.getElem?_eq_some_iff.mp lv).1
    have ol := oo.len
    have p1 := pp.1
    have b := h.bound ok oo 13 r hr (by omega)
    have e13 : (1000000 : Int) * 2 ^ 13 = 8192000000 := by decide
    rw [e13] at b
    have mid : ∀ o : Option Int, (∀ w, o = some w → w ∈ os) → ∀ c, o = some c → 0 ≤ c ∧ c ≤ 8192000000 := fun o ho c hc => by
      have := oo.mem.mp (ho c hc)
      omega
    have s1 := show_oB (o := r.up) fun c hc => by
      have := b.1 c hc
      omega
    have s2 := show_oB (o := r.dn) fun c hc => by
      have := b.2.1 c hc
      omega
    have s3 := show_oB (mid r.um b.2.2.1)
    have s4 := show_oB (mid r.dm b.2.2.2)
    have each : ∀ d ∈ [PyData.int r.u, .int r.v, oD r.up, oD r.dn, oD r.um, oD r.dm], d.shown.length ≤ 10 ∧ d.showable = true := fun d hd => by
      simp only [List.mem_cons, List.not_mem_nil, or_false] at hd
      rcases hd with rfl | rfl | rfl | rfl | rfl | rfl
      · exact ⟨shown_big (by omega) (by omega), showable_big (by omega) (by omega)⟩
      · exact ⟨shown_big (by omega) (by omega), showable_big (by omega) (by omega)⟩
      · exact s1
      · exact s2
      · exact s3
      · exact s4
    constructor
    · show (tupleText (PyData.shownAll [.int r.u, .int r.v, oD r.up, oD r.dn, oD r.um, oD r.dm])).length ≤ 76
      have t := tupleText_le (PyData.shownAll [.int r.u, .int r.v, oD r.up, oD r.dn, oD r.um, oD r.dm])
      have p := piled_le (m := 10) fun d hd => (each d hd).1
      have e : ([.int r.u, .int r.v, oD r.up, oD r.dn, oD r.um, oD r.dm] : List PyData).length = 6 := rfl
      rw [e] at p
      omega
    · show (PyData.showableAll [.int r.u, .int r.v, oD r.up, oD r.dn, oD r.um, oD r.dm]) = true
      exact showable_all fun d hd => (each d hd).2
  have p := piled_le (ds := rows.map rowD) (m := 76) fun d hd => by
    obtain ⟨r, hr, rfl⟩ := List.mem_map.mp hd
    exact (one r hr).1
  rw [List.length_map] at p
  have q := listText_le (PyData.shownAll (rows.map rowD))
  have ly := lay_rows rows
  refine ⟨?_, PyData.hasDict_of_canLay _ ly.1, ?_, ?_⟩
  · refine showable_all fun d hd => ?_
    obtain ⟨r, hr, rfl⟩ := List.mem_map.mp hd
    exact (one r hr).2
  · show PyData.depthAll (rows.map rowD) + 1 ≤ 10
    have := ly.2
    omega
  · show (listText (PyData.shownAll (rows.map rowD))).length ≤ 200000
    omega
/-! ### pairs are told once -/
theorem nodup_pairs {f : Int → List Int} (hf : ∀ u, (f u).Nodup) : ∀ us : List Int, us.Nodup → (us.flatMap fun u => (f u).map fun v => (u, v)).Nodup
  | [], _ => by
    show ([] : List (Int × Int)).Nodup
    exact List.nodup_nil
  | u :: us, h => by
    rw [List.nodup_cons] at h
    rw [List.flatMap_cons, List.nodup_append]
    refine ⟨?_, nodup_pairs hf us h.2, fun a ha b hb e => ?_⟩
    · exact List.Pairwise.map _ (fun a b hab e => hab (congrArg Prod.snd e)) (hf u)
    · subst e
      obtain ⟨v, _, rfl⟩ := List.mem_map.mp ha
      obtain ⟨u', hu', hv'⟩ := List.mem_flatMap.mp hb
      obtain ⟨v', _, e⟩ := List.mem_map.mp hv'
      have : u' = u := congrArg Prod.fst e
      subst this
      exact h.1 hu'
theorem pairsL_nodup {n : Int} {ls : List Lnk} {os : List Int} (oo : OrdOk n os) : (pairsL ls os).Nodup := by
  unfold pairsL
  exact nodup_pairs (fun u => by
    unfold upP
    exact List.Pairwise.filter _ oo.nodup) os oo.nodup
section
variable {K : PySem.W.Frag} {σ : L2.St} {H : Hp} {a : Addr} {D : Ends} {tz tw : TS}
/-- for u, v in a list of pairs -/
theorem g_forP {j1 j2 : Nat} {xs : List V} {L : List (Int × Int)} {tl : TE} (h : Vl tl σ H (.ref a)) (hx : SqL K H a xs) (hlen : xs.length = L.length) (Pv : Nat → L2.St → Hp → Prop) (h0 : Pv 0 σ H) (hl : ∀ i σ' H', Pv i σ' H' → SqL K H' a xs ∧ TupsAt H' xs L)
    (hs : ∀ (i : Nat) u v t σ H, L[i]? = some (u, v) → H t = some (.tup [.int u, .int v]) → Pv i σ H → tz { D with nx := Pv (i + 1), ct := Pv (i + 1), bk := D.nx } ((σ.set j1 (some (.int u))).set j2 (some (.int v))) H) (hd : ∀ σ H, Pv L.length σ H → D.nx σ H) :
    tFor (iList K tl) (gTup K 2 (gCons (gName j1) (gCons (gName j2) gNil))) tz D σ H := h _ ⟨a, rfl, ⟨_, hx⟩, for_list (xs := xs) Pv h0 (fun i σ H _ p => (hl i σ H p).1) (fun i x σ H hi p => by
      have hlt := (List.getElem?_eq_some_iff.mp hi).1
      have hg : L[i]? = some L[i] := List.getElem?_eq_getElem (by omega)
      obtain ⟨t, h1, h2⟩ := (hl i σ H p).2.at_ i L[i].1 L[i].2 hg
      cases hi.symm.trans h1
      exact ⟨t, _, rfl, .of h2, rfl, _, _, rfl, _, _, rfl, rfl, hs i _ _ t σ H hg h2 p⟩) (fun σ H p => by
      rw [hlen] at p
      exact hd σ H p)⟩
theorem q_forP {j1 j2 : Nat} {xs : List V} {L : List (Int × Int)} {tl : TE} (h : Vl tl σ H (.ref a)) (hx : SqL K H a xs) (hlen : xs.length = L.length) (Pv : Nat → L2.St → Hp → Prop) (h0 : Pv 0 σ H) (hl : ∀ i σ' H', Pv i σ' H' → SqL K H' a xs ∧ TupsAt H' xs L)
    (hs : ∀ (i : Nat) u v t σ H, L[i]? = some (u, v) → H t = some (.tup [.int u, .int v]) → Pv i σ H → tz { D with nx := Pv (i + 1), ct := Pv (i + 1), bk := tw D } ((σ.set j1 (some (.int u))).set j2 (some (.int v))) H) (hd : ∀ σ H, Pv L.length σ H → tw D σ H) :
    tSeq (tFor (iList K tl) (gTup K 2 (gCons (gName j1) (gCons (gName j2) gNil))) tz) tw D σ H := g_forP (D := { D with nx := tw D }) h hx hlen Pv h0 hl hs hd
end
theorem eqV_ints {K : PySem.W.Frag} {H : Hp} {a b : Addr} {ns : List Int} (h1 : H a = some (.lst (ns.map V.int))) (h2 : H b = some (.lst (ns.map V.int))) : EqV K H 50 (.ref a) (.ref b) := by
  refine .inr (.inr (.inl ⟨a, b, _, _, rfl, rfl, .of h1, .of h2, ?_⟩))
  clear h1 h2
  induction ns with
  | nil => exact .nil
  | cons n r ih => exact .cons (.inl ⟨rfl, rfl⟩) ih
/-! ### the dict that the law makes of the lower places -/
structure DueL (G H : Hp) (o : Addr) (kvs : List (List L2.Key × V)) (L : List (Int × Int)) (os : List Int) (i : Nat) : Prop where
  d : H o = some (.dT kvs)
  sm : Same G (but H o)
  len : kvs.length = i
  of : ∀ u v, (u, v) ∈ L.take i → ∃ a, valV kvs [Sum.inl u, Sum.inl v] = some (.ref a) ∧ but H o a = some (.lst ((lowerL L os u v).map V.int)) ∧ G a = none
  un : ∀ u v y, valV kvs [Sum.inl u, Sum.inl v] = some y → (u, v) ∈ L.take i
theorem DueL.step {G H H9 : Hp} {o al T : Addr} {kvs : List (List L2.Key × V)} {L : List (Int × Int)} {os : List Int} {i : Nat} {u v : Int} (h : DueL G H o kvs L os i) (hn : L.Nodup) (hi : L[i]? = some (u, v)) (s9 : Same H H9) (nal : H al = none) (hal : H9 al = some (.lst ((lowerL L os u v).map V.int))) (nT : H9 T = none) :
    DueL G (upd (upd H9 T (.tup [.int u, .int v])) o (.dT (putK kvs [Sum.inl u, Sum.inl v] (.ref al)))) o (putK kvs [Sum.inl u, Sum.inl v] (.ref al)) L os (i + 1) := by
  have hlt := (List.getElem?_eq_some_iff.mp hi).1
  have new : (u, v) ∉ L.take i := fun hm => by
    obtain ⟨j, hj, ej⟩ := List.getElem_of_mem hm
    rw [List.length_take] at hj
    have pw := List.pairwise_iff_getElem.mp hn
    have e1 : L[j]'(by omega) = (u, v) := by rw [← ej, List.getElem_take]
    have e2 : L[i] = (u, v) := (List.getElem?_eq_some_iff.mp hi).2
    exact pw j i (by omega) hlt (by omega) (e1.trans e2.symm)
  have vn : valV kvs [Sum.inl u, Sum.inl v] = none := by
    cases e : valV kvs [Sum.inl u, Sum.inl v] with
    | none => rfl
    | some y => exact absurd (h.un u v y e) new
  have tk : L.take (i + 1) = L.take i ++ [(u, v)] := take_snoc hi
  have sT : Same H9 (upd H9 T (.tup [.int u, .int v])) := same_upd nT
  have sB : Same (but H o) (but (upd H9 T (.tup [.int u, .int v])) o) := but_mono (s9.trans sT)
  have oal : al ≠ o := fun e => by
    rw [e, h.d] at nal
    cases nal
  refine ⟨upd_same, ?_, ?_, fun x y hm => ?_, fun x y z hz => ?_⟩
  · rw [but_upd]
    exact h.sm.trans sB
  · unfold putK
    rw [valV_any, vn, if_neg (by simp), List.length_append, h.len]
    rfl
  · rw [valV_put, but_upd]
    rw [tk, List.mem_append, List.mem_singleton] at hm
    rcases hm with hm | hm
    · have ne : ¬ ([Sum.inl x, Sum.inl y] : List L2.Key) = [Sum.inl u, Sum.inl v] := fun e => by
        injection e with e1 e2
        injection e2 with e2 _
        have e1 := Sum.inl.inj e1
        have e2 := Sum.inl.inj e2
        subst e1
        subst e2
        exact new hm
      rw [if_neg ne]
      obtain ⟨a, h1, h2, h3⟩ := h.of x y hm
      exact ⟨a, h1, sB _ _ h2, h3⟩
    · cases hm
      rw [if_pos rfl]
      refine ⟨al, rfl, ?_, ?_⟩
      · rw [but_ne oal]
        exact sT _ _ hal
      · cases e : G al with
        | none => rfl
        | some z =>
          have := h.sm _ _ e
          rw [but_ne oal, nal] at this
          cases this
  · rw [valV_put] at hz
    rw [tk, List.mem_append, List.mem_singleton]
    by_cases e : ([Sum.inl x, Sum.inl y] : List L2.Key) = [Sum.inl u, Sum.inl v]
    · injection e with e1 e2
      injection e2 with e2 _
      rw [Sum.inl.inj e1, Sum.inl.inj e2]
      exact .inr rfl
    · rw [if_neg e] at hz
      exact .inl (h.un x y z hz)
/-! ### a heap without some addresses -/
open Classical in
noncomputable def mask (T : Addr → Prop) (H : Hp) : Hp := fun b => if T b then none else H b
theorem mask_ne {T : Addr → Prop} {H : Hp} {b : Addr} (h : ¬ T b) : mask T H b = H b := if_neg h
theorem mask_at {T : Addr → Prop} {H : Hp} {b : Addr} (h : T b) : mask T H b = none := if_pos h
theorem mask_same {T : Addr → Prop} {H : Hp} : Same (mask T H) H := fun b x e => by
  by_cases h : T b
  · rw [mask_at h] at e
    cases e
  · rw [mask_ne h] at e
    exact e
theorem same_mask {T : Addr → Prop} {G H : Hp} (s : Same G H) (h : ∀ b, T b → G b = none) : Same G (mask T H) := fun b x e => by
  have hb : ¬ T b := fun z => by
    rw [h b z] at e
    cases e
  rw [mask_ne hb]
  exact s b x e
theorem mask_mono {T : Addr → Prop} {G H : Hp} (s : Same G H) : Same (mask T G) (mask T H) := fun b x e => by
  by_cases h : T b
  · rw [mask_at h] at e
    cases e
  · rw [mask_ne h] at e ⊢
    exact s b x e
theorem mask_upd {T : Addr → Prop} {H : Hp} {a : Addr} {u : HO} (h : T a) : mask T (upd H a u) = mask T H := by
  funext b
  by_cases hb : T b
  · rw [mask_at hb, mask_at hb]
  · rw [mask_ne hb, mask_ne hb, upd_ne (fun e => hb (by rw [e]; exact h))]
end Ovc
namespace L2
open PySem PySem.Spec PyProof.Rows
/-! ### a dict comprehension whose keys are tuples -/
theorem dictSetT {X : Cx} {pins : List (Addr × Obj)} {σ : St} {H : Hp} {s : Shared} {E : Value → Shared → Prop} {D b : Addr} {kvs : List (List Key × V)} {k : List Key} {v : V} {r : Value} {Q : Unit → Shared → Prop} (hu : X.A.units + 1 < cLine) (I : Inv X pins σ H s)
    (hD : H D = some (.dT kvs)) (hb : H b = some (.tup (k.map kV))) (hz : kvs.length < sizeLine) (rv : RelV v r) (done : ∀ s', Inv X pins σ (upd H D (.dT (putK kvs k v))) s' → Q () s') : wpAny (model X.prog X.w) X.A (dictSet D (.ref b) r) Q E s := by
  obtain ⟨_, notSys, us, rel, dof⟩ := dt_of I.hok hD
  have us_small : us.length ≤ sizeLine := by
    have := Paired.length rel
    omega
  have put_small : (putK kvs k v).length ≤ sizeLine := by
    have := length_putK kvs k v
    omega
  refine wpAny_dictSet_heap (hsz := us_small) (Nat.lt_of_succ_lt hu) (key_of I.hok hb) dof fun h' after same => done _ ?_
  obtain ⟨ob, es, ep, at_, e2, e3, e4, _, e6⟩ := after
  refine d_write I (by rw [hD] <;> exact True.intro) same ⟨ob, at_⟩ ⟨put_small, notSys, _, (rel.put k hb rv).keeps fun c ys ec => ?_, ob, es, ep, at_, e2, e3, e4, e6⟩
  rw [upd_ne (ne_of ec hD (fun z => nomatch z))]
  exact ec
section
variable {X : Cx}
/-- the reading: D the new dict; y the key, a tuple of ints and texts -/
def tDcT (wi : TI) (g : TG) (tt : TT) (tk tv : TE) (vs : List Nat) : TE := fun σ H Q => wi σ H fun J H1 => ∀ D, H1 D = none → ∃ W : Nat → Nat → Hp → Prop, (∃ m, W 0 m (upd H1 D (.dT []))) ∧ ∀ i m H, W i m H →
  (J.stop i H ∧ Q (.ref D) H) ∨ (J.go i H ∧ ∃ Nx : Hp → Prop, (∀ H', Nx H' → ∃ m', m' < m ∧ W (i + 1) m' H') ∧ ∀ x H', J.yld i H x H' → g x (wipe σ vs) H' fun σ2 H2 => wipe σ2 vs = wipe σ vs ∧ tt σ2 H2 fun c H3 =>
    if c = true then tk σ2 H3 fun y H4 => tv σ2 H4 fun z H5 => ∃ kvs k b, y = .ref b ∧ H5 b = some (.tup (k.map kV)) ∧ H5 D = some (.dT kvs) ∧ kvs.length < sizeLine ∧ Nx (upd H5 D (.dT (putK kvs k z))) else Nx H3)
theorem dcT_core {pins : List (Addr × Obj)} {s : Shared} {σ : St} {H : Hp} {Q : VK} {kx vx tg iter : Expr} {ifs : List Expr} {scope : Scope} {own : List (Str × Nat)} {pos pos' : Pos} {wi : TI} {g : TG} {tt : TT} {tk tv : TE} {use : Option (Value → Sem Unit)} {Qf : Value → Shared → Prop} (hu : X.A.units + 1 < cLine) (calm : X.calm = true) (nd : X.N.Nodup) (src : PI X tg iter wi) (ok : BlkOk X.N X.env.scope scope own)
    (pg : ∀ (s : Shared) (H : Hp) (C : Addr) (cl : List (Str × Addr)) (fp : List Addr), PG (X.blk s H scope (compEnvC scope cl C X.env) fp) tg g)
    (pt : ∀ (s : Shared) (H : Hp) (C : Addr) (cl : List (Str × Addr)) (fp : List Addr), PTs (X.blk s H scope (compEnvC scope cl C X.env) fp) ifs tt)
    (pk : ∀ (s : Shared) (H : Hp) (C : Addr) (cl : List (Str × Addr)) (fp : List Addr), PE (X.blk s H scope (compEnvC scope cl C X.env) fp) kx tk)
    (pv : ∀ (s : Shared) (H : Hp) (C : Addr) (cl : List (Str × Addr)) (fp : List Addr), PE (X.blk s H scope (compEnvC scope cl C X.env) fp) vx tv) (I : Inv X pins σ H s) (hs : ∀ x, foldedSetIterable iter X.env x = pure x)
    (want : tDcT wi g tt tk tv (own.map (·.2)) σ H Q)
    (back : ∀ D C s' m H', Inv X pins σ H' s' → Q (.ref D) H' → s'.heap.Ns C m → FpOk X pins H' C → compPost (model X.prog X.w) X.A X.xe use Qf (.ref D) C (.ok .next) s') :
    wpAny (model X.prog X.w) X.A (comprehension (.DictComp kx vx [⟨tg, iter, ifs, 0⟩] scope pos) scope X.env pos' newDict false (eval iter X.env) use) Qf X.xe s := by
  have cells : ∀ y ∈ scope.names, y.2 = .free → ∃ c, X.env.cells.lookup y.1 = some c := fun y hy e => I.ok.has _ (ok.free y hy e)
  refine wpAny_comprehension_free (use := use) rfl hs (closure_ok cells) ok.kind (fun y hy e => by rw [ok.uniq y hy, e]) (thn (src.run pins s σ H _ I want) fun xv s1 r1 => thn r1 fun itv s2 r2 => ?_)
  obtain ⟨it, fp, tn, J, Hi, rfl, Ii, T, t0, own0, reading⟩ := r2
  refine wpAny_newObj_type (newEnv_comp ?_)
  -- the new dict stands at D
  generalize eD : s2.heap.objs.size = D
  have freeD : Hi D = none := Ii.hok.fresh (Nat.le_of_eq eD)
  obtain ⟨W, ⟨m0, begin_⟩, turn⟩ := reading D freeD
  generalize e3 : (Shared.mk (s2.heap.push { cls := .type "dict", data := .dict #[] }) s2.gens s2.drawn s2.toks s2.os) = s3
  have heap3 : s3.heap = s2.heap.push { cls := .type "dict", data := .dict #[] } := by rw [← e3]
  have I3 : Inv X pins σ (upd Hi D (.dT [])) s3 := by
    rw [← e3]
    refine Ii.laid (t' := s2.toks) (fun b o q => Heap.get?_push_of_some _ q) (Nat.le_of_eq eD) ?_
    have := dt_empty (P := X.prog) (w := X.w) (H := upd Hi D (.dT [])) s2.heap Ii.big
    rw [eD] at this
    exact this
  have below : ∀ b ∈ fp, b < s2.heap.objs.size := fun b hb => let ⟨_, q, _⟩ := T.obj _ _ t0 b hb; Heap.lt_size q
  have own3 : ∀ b ∈ fp, FpOk X pins (upd Hi D (.dT [])) b ∧ b < s3.heap.objs.size := fun b hb => by
    have lt := below b hb
    constructor
    · refine ⟨?_, (own0 b hb).2⟩
      rw [upd_ne (by rw [← eD] <;> exact Nat.ne_of_lt lt)]
      exact (own0 b hb).1
    · rw [heap3, Heap.size_push]
      exact Nat.lt_succ_of_lt lt
  have t3 : tn 0 s3.heap := T.keep _ _ _ t0 fun b _ o q => by
    rw [heap3]
    exact Heap.get?_push_of_some _ q
  have I4 := block_start I3 ok nd own3
  have none3 : ∀ b ∈ fp, (upd Hi D (.dT [])) b = none := fun b hb => (own3 b hb).1.1
  show codeAny _ _ (.compStart (.DictComp kx vx [⟨tg, iter, ifs, 0⟩] scope pos) 0 (.ref it) (.ref D) (compEnvC scope (cellsFrom (s3.heap.objs.size + 1) scope.names (cloFrom X.env.cells scope.names [])) s3.heap.objs.size X.env)) _ { s3 with heap := pushCells (s3.heap.push { cls := .type "dict", data := .dict #[] }) scope.names }
  have pg' := pg s3 (upd Hi D (.dT [])) s3.heap.objs.size (cellsFrom (s3.heap.objs.size + 1) scope.names (cloFrom X.env.cells scope.names [])) fp
  have pt' := pt s3 (upd Hi D (.dT [])) s3.heap.objs.size (cellsFrom (s3.heap.objs.size + 1) scope.names (cloFrom X.env.cells scope.names [])) fp
  have pk' := pk s3 (upd Hi D (.dT [])) s3.heap.objs.size (cellsFrom (s3.heap.objs.size + 1) scope.names (cloFrom X.env.cells scope.names [])) fp
  have pv' := pv s3 (upd Hi D (.dT [])) s3.heap.objs.size (cellsFrom (s3.heap.objs.size + 1) scope.names (cloFrom X.env.cells scope.names [])) fp
  generalize ece : compEnvC scope (cellsFrom (s3.heap.objs.size + 1) scope.names (cloFrom X.env.cells scope.names [])) s3.heap.objs.size X.env = ce at I4 pg' pt' pk' pv' ⊢
  have loc : ce.locals = s3.heap.objs.size := by rw [← ece] <;> rfl
  generalize upd Hi D (.dT []) = H3 at I3 I4 pg' pt' pk' pv' begin_ none3 own3
  generalize e4 : ({ s3 with heap := pushCells (s3.heap.push { cls := .type "dict", data := .dict #[] }) scope.names } : Shared) = s4 at I4 ⊢
  have t4 : tn 0 s4.heap := T.keep _ _ _ t3 fun b _ o q => by
    rw [← e4]
    exact pushCells_keeps _ _ _ _ (Heap.get?_push_of_some _ q)
  have mine : ∀ {σ' : St} {H' : Hp} {s' : Shared}, Inv (X.blk s3 H3 scope ce fp) [] σ' H' s' → (∀ b ∈ fp, H' b = none) → ∀ b ∈ fp, FpOk (X.blk s3 H3 scope ce fp) [] H' b := fun {σ' H' s'} J' hn b hb =>
    ⟨hn b hb, (J'.ok.exf b hb).1, J'.ok.exfs b hb, .inl hb, fun x c e => (J'.ok.exf b hb).2 x c e, fun p hp => by cases hp⟩
  refine codeAny_compStart_dict ?goes (T.self X.A 0 _ _ _ t4 ?goes)
  refine compLoop_anyD (fun n s' => ∃ i H', Inv (X.blk s3 H3 scope ce fp) [] (wipe σ (own.map (·.2))) H' s' ∧ tn i s'.heap ∧ (∀ b ∈ fp, H' b = none) ∧ W i n H') ?_ m0 ⟨0, H3, I4, t4, none3, begin_⟩
  rintro n s5 ⟨i, H5, I5, t5, n5, w5⟩
  rcases turn i n H5 w5 with ⟨over, q⟩ | ⟨goes, Nx, next, step⟩
  · refine thnF (T.done (X.blk s3 H3 scope ce fp) rfl rfl rfl calm i [] s5 _ H5 (fun _ _ => False) I5 (mine I5 n5) t5 over) fun r s6 ⟨hr, I6⟩ => ?_
    subst hr
    have out : Inv X pins σ H5 s6 := I3.call' (ch := fp) I6.os I6.base I6.hok I6.bare fun b hb => let f := (own3 b hb).1; ⟨f.2.2.2.1, f.2.1, f.2.2.2.2.1, f.2.2.2.2.2⟩
    have nC : H5 s3.heap.objs.size = none := by
      rw [← loc]
      exact I6.free
    obtain ⟨m, ns, _⟩ := I6.loc
    have ns : s6.heap.Ns ce.locals m := ns
    rw [loc] at ns
    exact back D s3.heap.objs.size s6 m H5 out q ns (I3.fpOk (Nat.le_refl _) nC)
  · refine thnF (T.item (X.blk s3 H3 scope ce fp) rfl rfl rfl calm i [] s5 _ H5 (fun _ _ => False) I5 (mine I5 n5) t5 goes) fun r s6 ⟨u, hr, r6⟩ => ?_
    subst hr
    refine thnF r6 fun _ s7 ⟨x, H7, I7, rx, y7, t7, n7⟩ => ?_
    refine thnF (pg'.run _ s7 _ H7 x u _ (I7.pinned (mine I7 n7) (T.obj _ _ t7)) rx (step x H7 y7)) fun _ s8 ⟨σ8, H8, I8, w8, q8⟩ => ?_
    refine thnF (pt'.run _ s8 σ8 H8 _ I8 q8) fun c s9 ⟨H9, I9, q9⟩ => ?_
    have close : ∀ {s' : Shared} {H' : Hp}, Inv (X.blk s3 H3 scope ce fp) ([] ++ pinsAt fp s7.heap) σ8 H' s' → Nx H' → ∃ m, m < n ∧ ∃ i H', Inv (X.blk s3 H3 scope ce fp) [] (wipe σ (own.map (·.2))) H' s' ∧ tn i s'.heap ∧ (∀ b ∈ fp, H' b = none) ∧ W i m H' := fun {s' H'} J' nx => by
      obtain ⟨m', lt, w'⟩ := next H' nx
      have pinned : ∀ b ∈ fp, ∀ o, s7.heap.get? b = some o → s'.heap.get? b = some o ∧ H' b = none := fun b hb o e =>
        let z := J'.pin (b, o) (List.mem_append_right _ (List.mem_append_right _ (mem_pinsAt hb e)))
        ⟨z.1, z.2.1⟩
      have len : (wipe σ (own.map (·.2))).length = σ8.length := by rw [← w8, wipe_length]
      refine ⟨m', lt, i + 1, H', (J'.unpinned (pins := [])).weak len (fun j v e => ?_), T.keep _ _ _ t7 fun b hb o e => (pinned b hb o e).1, fun b hb => ?_, w'⟩
      · rw [← w8] at e
        exact (wipe_some e).1
      · obtain ⟨o, e, _⟩ := T.obj _ _ t7 b hb
        exact (pinned b hb o e).2
    cases c with
    | false =>
      simp only [Bool.false_eq_true, if_false] at q9 ⊢
      exact close I9 q9
    | true =>
      simp only [if_true] at q9 ⊢
      refine thnF (pk'.run _ s9 σ8 H9 _ I9 q9) fun z s10 ⟨yk, H10, I10, r10, q10⟩ => ?_
      refine thnF (pv'.run _ s10 σ8 H10 _ I10 q10) fun z2 s11 ⟨yv, H11, I11, r11, kvs, k, b, ek, hb, hD, hz, nx⟩ => ?_
      subst ek
      cases (show z = Value.ref b from r10)
      exact dictSetT (X := X.blk s3 H3 scope ce fp) hu I11 hD hb hz r11 fun s12 I12 => close I12 nx
theorem pe_dcT {kx vx tg iter : Expr} {ifs : List Expr} {scope : Scope} {own : List (Str × Nat)} {pos : Pos} {wi : TI} {g : TG} {tt : TT} {tk tv : TE} (hu : X.A.units + 1 < cLine) (calm : X.calm = true) (nd : X.N.Nodup) (src : PI X tg iter wi) (ok : BlkOk X.N X.env.scope scope own)
    (pg : ∀ (s : Shared) (H : Hp) (C : Addr) (cl : List (Str × Addr)) (fp : List Addr), PG (X.blk s H scope (compEnvC scope cl C X.env) fp) tg g)
    (pt : ∀ (s : Shared) (H : Hp) (C : Addr) (cl : List (Str × Addr)) (fp : List Addr), PTs (X.blk s H scope (compEnvC scope cl C X.env) fp) ifs tt)
    (pk : ∀ (s : Shared) (H : Hp) (C : Addr) (cl : List (Str × Addr)) (fp : List Addr), PE (X.blk s H scope (compEnvC scope cl C X.env) fp) kx tk)
    (pv : ∀ (s : Shared) (H : Hp) (C : Addr) (cl : List (Str × Addr)) (fp : List Addr), PE (X.blk s H scope (compEnvC scope cl C X.env) fp) vx tv) (hs : ∀ x, foldedSetIterable iter X.env x = pure x := by intro _; rfl) :
    PE X (.DictComp kx vx [⟨tg, iter, ifs, 0⟩] scope pos) (tDcT wi g tt tk tv (own.map (·.2))) := by
  refine ⟨fun pins s σ H Q I want => ?_⟩
  rw [arm_eval_DictComp]
  refine dcT_core hu calm nd src ok pg pt pk pv I hs want fun D C s' m H' out q ns own' => ⟨m, ns, fun h'' sb => ?_⟩
  obtain ⟨f0, f1, f2, f3, f4, f5⟩ := own'
  exact ⟨.ref D, H', out.turned (t' := s'.toks) (fun b o hb e => (sb.2 b hb).trans e) f0 f1 f3 f4 f5, rfl, q⟩
/-! ### .. whose dict is stored at once -/
theorem swapsD {kx vx : Expr} {gs : List Comprehension} {scope : Scope} {pos py : Pos} {y : Str} {l : Nat} {env : Env} (fn : env.scope.kind = .function) (loc : env.scope.names.lookup y = some .local) (row : (py.line == pos.line) = true)
    (other : (scope.names.any fun (n, k) => n == y && (k == .local || k == .cell)) = false) : swapsWith (.DictComp kx vx gs scope pos) (some (.Name y py)) l env = pure true := by
  have k1 : env.kindOf y = some .local := loc
  have k2 : env.blockKind = .function := by
    unfold Env.blockKind
    rw [fn] <;> rfl
  unfold swapsWith
  simp only [k2, k1, other, Expr.pos, row]
  rfl
/-- the new dict in slot i -/
theorem stored_ok {pins : List (Addr × Obj)} {σ : St} {H' : Hp} {s' : Shared} {i : Nat} {y : Str} {py : Pos} {D C : Addr} {m : Str → Option Value} {Ends_ : Ends} (nd : X.N.Nodup) (at_ : X.N[i]? = some y) (loc : X.env.scope.names.lookup y = some .local)
    (I : Inv X pins σ H' s') (q : gName i (.ref D) σ H' Ends_.nx) (ns : s'.heap.Ns C m) (f : FpOk X pins H' C) :
    wpAny (model X.prog X.w) X.A (assign (.Name y py) X.env (.ref D)) (fun _ s'' => ∃ m, s''.heap.Ns C m ∧ ∀ h', Heap.SameBut C s''.heap h' → SP X pins Ends_ .next { s'' with heap := h' }) X.xe s' := by
  refine wpAny_assign_Name (store_ok2 (v := V.ref D) I nd at_ (.inl loc) rfl (fun s2 I2 where_ => ?_) (.inr loc))
  obtain ⟨a, sb, ha⟩ := where_
  obtain ⟨f0, f1, f2, f3, f4, f5⟩ := f
  have apart : C ≠ a := ha.elim (fun z => z ▸ f1) fun z e => f4 y a z e.symm
  exact ⟨m, ns.sameBut sb apart, fun h3 sb3 => ⟨_, H', I2.turned (t' := s2.toks) (fun b o hb e => (sb3.2 b hb).trans e) f0 f1 f3 f4 f5, q⟩⟩
theorem ps_setDcT {i : Nat} {y : Str} {py : Pos} {kx vx tg iter : Expr} {ifs : List Expr} {scope : Scope} {own : List (Str × Nat)} {pos spos : Pos} {wi : TI} {g : TG} {tt : TT} {tk tv : TE} (hu : X.A.units + 1 < cLine) (calm : X.calm = true) (nd : X.N.Nodup) (at_ : X.N[i]? = some y) (loc : X.env.scope.names.lookup y = some .local)
    (sw : swapsWith (.DictComp kx vx [⟨tg, iter, ifs, 0⟩] scope pos) (some (.Name y py)) spos.line X.env = pure true) (src : PI X tg iter wi) (ok : BlkOk X.N X.env.scope scope own)
    (pg : ∀ (s : Shared) (H : Hp) (C : Addr) (cl : List (Str × Addr)) (fp : List Addr), PG (X.blk s H scope (compEnvC scope cl C X.env) fp) tg g)
    (pt : ∀ (s : Shared) (H : Hp) (C : Addr) (cl : List (Str × Addr)) (fp : List Addr), PTs (X.blk s H scope (compEnvC scope cl C X.env) fp) ifs tt)
    (pk : ∀ (s : Shared) (H : Hp) (C : Addr) (cl : List (Str × Addr)) (fp : List Addr), PE (X.blk s H scope (compEnvC scope cl C X.env) fp) kx tk)
    (pv : ∀ (s : Shared) (H : Hp) (C : Addr) (cl : List (Str × Addr)) (fp : List Addr), PE (X.blk s H scope (compEnvC scope cl C X.env) fp) vx tv) (hs : ∀ x, foldedSetIterable iter X.env x = pure x := by intro _; rfl) :
    PS X (.Assign [.Name y py] (.DictComp kx vx [⟨tg, iter, ifs, 0⟩] scope pos) spos) (tAsg (tDcT wi g tt tk tv (own.map (·.2))) (gName i)) := by
  refine ⟨fun pins s σ H D I want => ?_⟩
  rw [exec_Assign_Name_used _ _ _ _ sw]
  refine wpAny_bind (wpAny_standAt (wpAny_bind ?_))
  show wpAny _ X.A (comprehension (.DictComp kx vx [⟨tg, iter, ifs, 0⟩] scope pos) scope X.env (firstIterPos [⟨tg, iter, ifs, 0⟩] pos) newDict false (eval iter X.env) (some (assign (.Name y py) X.env)) >>= _) _ _ s
  refine wpAny_bind (thn (dcT_core (Qf := fun _ s' => SP X pins D .next s') hu calm nd src ok pg pt pk pv I hs (show tDcT wi g tt tk tv (own.map (·.2)) σ H (fun x H1 => gName i x σ H1 D.nx) from want) fun A C s' m H' out q ns f => stored_ok nd at_ loc out q ns f) fun _ s' hq => wpAny_pure (wpAny_pure hq))
theorem ps_setDc {i : Nat} {y : Str} {py : Pos} {kx vx tg iter : Expr} {ifs : List Expr} {scope : Scope} {own : List (Str × Nat)} {pos spos : Pos} {wi : TI} {g : TG} {tt : TT} {tk tv : TE} (calm : X.calm = true) (nd : X.N.Nodup) (at_ : X.N[i]? = some y) (loc : X.env.scope.names.lookup y = some .local)
    (sw : swapsWith (.DictComp kx vx [⟨tg, iter, ifs, 0⟩] scope pos) (some (.Name y py)) spos.line X.env = pure true) (src : PI X tg iter wi) (ok : BlkOk X.N X.env.scope scope own)
    (pg : ∀ (s : Shared) (H : Hp) (C : Addr) (cl : List (Str × Addr)) (fp : List Addr), PG (X.blk s H scope (compEnvC scope cl C X.env) fp) tg g)
    (pt : ∀ (s : Shared) (H : Hp) (C : Addr) (cl : List (Str × Addr)) (fp : List Addr), PTs (X.blk s H scope (compEnvC scope cl C X.env) fp) ifs tt)
    (pk : ∀ (s : Shared) (H : Hp) (C : Addr) (cl : List (Str × Addr)) (fp : List Addr), PE (X.blk s H scope (compEnvC scope cl C X.env) fp) kx tk)
    (pv : ∀ (s : Shared) (H : Hp) (C : Addr) (cl : List (Str × Addr)) (fp : List Addr), PE (X.blk s H scope (compEnvC scope cl C X.env) fp) vx tv) (hs : ∀ x, foldedSetIterable iter X.env x = pure x := by intro _; rfl) :
    PS X (.Assign [.Name y py] (.DictComp kx vx [⟨tg, iter, ifs, 0⟩] scope pos) spos) (tAsg (tDc wi g tt tk tv (own.map (·.2))) (gName i)) := by
  refine ⟨fun pins s σ H D I want => ?_⟩
  rw [exec_Assign_Name_used _ _ _ _ sw]
  refine wpAny_bind (wpAny_standAt (wpAny_bind ?_))
  show wpAny _ X.A (comprehension (.DictComp kx vx [⟨tg, iter, ifs, 0⟩] scope pos) scope X.env (firstIterPos [⟨tg, iter, ifs, 0⟩] pos) newDict false (eval iter X.env) (some (assign (.Name y py) X.env)) >>= _) _ _ s
  refine wpAny_bind (thn (dc_core (Qf := fun _ s' => SP X pins D .next s') calm nd I src ok pg pt pk pv hs (show tDc wi g tt tk tv (own.map (·.2)) σ H (fun x H1 => gName i x σ H1 D.nx) from want) fun A C s' m H' out q ns f => stored_ok nd at_ loc out q ns f) fun _ s' hq => wpAny_pure (wpAny_pure hq))
end
end L2
namespace Ovc
open PySem PySem.Spec PyProof.Rows L2
/-! ### the dict of the ways of links -/
def lkS (x y : Int) (f : Option V) (l : Lnk) : Option V := if x = l.b ∧ y = l.a then some (oV l.k) else if x = l.a ∧ y = l.b then some (oV l.t) else f
def lkv (ls : List Lnk) (x y : Int) : Option V := ls.foldl (lkS x y) none
theorem lkv_snoc {ls : List Lnk} {l : Lnk} {x y : Int} : lkv (ls ++ [l]) x y = lkS x y (lkv ls x y) l := by
  unfold lkv
  rw [List.foldl_append]
  rfl
theorem key2 {x y a b : Int} : (([Sum.inl x, Sum.inl y] : List L2.Key) = [Sum.inl a, Sum.inl b]) ↔ (x = a ∧ y = b) := by
  constructor
  · intro e
    injection e with e1 e2
    injection e2 with e2 _
    exact ⟨Sum.inl.inj e1, Sum.inl.inj e2⟩
  · rintro ⟨rfl, rfl⟩
    rfl
structure LinksAt (H : Hp) (d : Addr) (ls : List Lnk) : Prop where
  ex : ∃ kvs : List (List L2.Key × V), H d = some (.dT kvs) ∧ kvs.length ≤ 2 * ls.length ∧ ∀ x y : Int, valV kvs [Sum.inl x, Sum.inl y] = lkv ls x y
theorem LinksAt.to {H H' : Hp} {d : Addr} {ls : List Lnk} (h : LinksAt H d ls) (s : Same H H') : LinksAt H' d ls := by
  obtain ⟨kvs, e, l, v⟩ := h.ex
  exact ⟨kvs, s _ _ e, l, v⟩
theorem put_len {kvs : List (List L2.Key × V)} {k : List L2.Key} {v : V} : (putK kvs k v).length ≤ kvs.length + 1 := by
  unfold putK
  split
  · rw [List.length_map]
    omega
  · rw [List.length_append]
    exact Nat.le_refl _
def spLinkWays (K : PySem.W.Frag) : Sp := fun vs H Q _ => ∃ (v : V) (N : Net), vs = [v] ∧ Dp K H v (netD N) ∧ N.ls.length ≤ 1700 ∧ ∀ H' d, Same H H' → H d = none → LinksAt H' d N.ls → Q (.ref d) H'
theorem q_dputK {σ : L2.St} {H : Hp} {td ta tb te : TE} {D : Ends} {tw : TS} {v : V} {o : Addr} {kvs : List (List L2.Key × V)} {y1 y2 : Int} (hv : Vl te σ H v) (ho : Vl td σ H (.ref o)) (h1 : Vl ta σ H (.int y1)) (h2 : Vl tb σ H (.int y2)) (hd : H o = some (.dT kvs)) (hl : kvs.length < sizeLine)
    (k : ∀ T, H T = none → o ≠ T → tw D σ (upd (upd H T (.tup [.int y1, .int y2])) o (.dT (putK kvs [.inl y1, .inl y2] v)))) : tSeq (sDPut td (tTup (tCons ta (tCons tb tNil))) te) tw D σ H := q_dput (ty := td) hv ho h1 h2 hd hl k
theorem g_dputK {σ : L2.St} {H : Hp} {td ta tb te : TE} {D : Ends} {v : V} {o : Addr} {kvs : List (List L2.Key × V)} {y1 y2 : Int} (hv : Vl te σ H v) (ho : Vl td σ H (.ref o)) (h1 : Vl ta σ H (.int y1)) (h2 : Vl tb σ H (.int y2)) (hd : H o = some (.dT kvs)) (hl : kvs.length < sizeLine)
    (k : ∀ T, H T = none → o ≠ T → D.nx σ (upd (upd H T (.tup [.int y1, .int y2])) o (.dT (putK kvs [.inl y1, .inl y2] v)))) : sDPut td (tTup (tCons ta (tCons tb tNil))) te D σ H := q_dputK (tw := fun D σ H => D.nx σ H) hv ho h1 h2 hd hl k
abbrev sLinkWays : Stmt := topS 7
theorem scLinkWays : FnScope ["net", "prices", "a", "b", "there", "back"] ["net"] (defScope sLinkWays) := ⟨rfl, rfl, rfl, by decide +kernel, rfl, by decide +kernel, by decide +kernel⟩
section
variable {P : Program} {w : World} {K : PySem.W.Frag} {mg : Str → Option Value} {base : Heap}
theorem ok_linkWays {f : Addr} {fd : FuncData} {k : Nat} (F : Fun K "link_ways" "link_ways" sLinkWays f fd) : FnOk P w K mg base CX0 (k + 1) f fd ["net"] (spLinkWays K) := by
  refine F.ok scLinkWays (fun vs H Q E h => ?_) (fun cdv A outer s H vs Q E hr h => ?_)
  · obtain ⟨v, N, rfl, _⟩ := h
    rfl
  · obtain ⟨v, N, rfl, hN, hl, q⟩ := h
    have hu := hu_of hr
    refine ⟨_, pss_cons (ps_set (i := 1) scLinkWays.nd rfl (.inl rfl) pe_dnewT)
      (pss_cons (ps_for PassesOwn.never rfl (pi_list (pe_ix ix_tup (pv 0) pe_int (fun _ _ => rfl))) (pg_tup rfl (pgs_cons (pg_name (i := 2) scLinkWays.nd rfl (.inl rfl)) (pgs_cons (pg_name (i := 3) scLinkWays.nd rfl (.inl rfl)) (pgs_cons (pg_name (i := 4) scLinkWays.nd rfl (.inl rfl)) (pgs_cons (pg_name (i := 5) scLinkWays.nd rfl (.inl rfl)) pgs_nil)))))
      (pss_cons (ps_dput hu (pv 1) (pe_tup (pa_cons (pv 2) (pa_cons (pv 3) pa_nil))) (pv 4) rfl)
        (pss_one (ps_dput hu (pv 1) (pe_tup (pa_cons (pv 3) (pa_cons (pv 2) pa_nil))) (pv 5) rfl))))
      (pss_one (ps_ret (pv 1)))), ?_⟩
    obtain ⟨p, c, xs, rfl, hp, hc, hx⟩ := Dp.net_inv hN
    refine q_dnewT fun o no => ?_
    refine q_forLnk (Hb := H) (vl_ixT (K := K) (vl_var rfl) vl_c (seqT (same_upd no) hp) (atI_nat (j := 1) rfl)) hc hx (same_upd no)
      (fun i σ H3 => ∃ y2 y3 y4 y5 kvs, σ = [some (.ref p), some (.ref o), y2, y3, y4, y5] ∧ Same H H3 ∧ H3 o = some (.dT kvs) ∧ kvs.length ≤ 2 * i ∧ ∀ x y : Int, valV kvs [Sum.inl x, Sum.inl y] = lkv (N.ls.take i) x y)
      ⟨none, none, none, none, [], rfl, same_upd no, upd_same, Nat.zero_le _, fun x y => rfl⟩ (fun i σ H3 hP => ?_) (fun i l σ H3 hi hP => ?_) (fun σ H3 hP => ?_)
    · obtain ⟨_, _, _, _, _, _, s3, _⟩ := hP
      exact s3
    · obtain ⟨y2, y3, y4, y5, kvs, rfl, s3, ho, hlen, hv⟩ := hP
      have hil := (List.getElem?_eq_some_iff.mp hi).1
      refine q_dputK (vl_var rfl) (vl_var rfl) (vl_var rfl) (vl_var rfl) ho (Nat.lt_of_le_of_lt (m := 10000) (by omega) (by decide)) fun T nT oT => ?_
      have hl1 := put_len (kvs := kvs) (k := [Sum.inl l.a, Sum.inl l.b]) (v := oV l.t)
      refine g_dputK (vl_var rfl) (vl_var rfl) (vl_var rfl) (vl_var rfl) upd_same (Nat.lt_of_le_of_lt (m := 10000) (by omega) (by decide)) fun T2 nT2 oT2 => ?_
      have hl2 := put_len (kvs := putK kvs [Sum.inl l.a, Sum.inl l.b] (oV l.t)) (k := [Sum.inl l.b, Sum.inl l.a]) (v := oV l.k)
      have s4 : Same H (upd (upd H3 T (.tup [.int l.a, .int l.b])) o (.dT (putK kvs [Sum.inl l.a, Sum.inl l.b] (oV l.t)))) := same_upd' (s3.trans (same_upd nT)) no
      refine ⟨_, _, _, _, _, rfl, same_upd' (s4.trans (same_upd nT2)) no, upd_same, by omega, fun x y => ?_⟩
      rw [valV_put, valV_put, hv, take_snoc hi, lkv_snoc]
      unfold lkS
      by_cases c1 : x = l.b ∧ y = l.a
      · rw [if_pos (key2.mpr c1), if_pos c1]
      · rw [if_neg (fun z => c1 (key2.mp z)), if_neg c1]
        by_cases c2 : x = l.a ∧ y = l.b
        · rw [if_pos (key2.mpr c2), if_pos c2]
        · rw [if_neg (fun z => c2 (key2.mp z)), if_neg c2]
    · obtain ⟨y2, y3, y4, y5, kvs, rfl, s3, ho, hlen, hv⟩ := hP
      rw [List.take_length] at hv
      exact g_ret (vl_var rfl) (q H3 o s3 no ⟨kvs, ho, hlen, hv⟩)
end
/-! ### lower places by pairs -/
theorem mem_cmbsF {α : Type} {f : α → Nat} : ∀ {l : List α} {p : α × α}, l.Pairwise (fun a b => f a < f b) → (p ∈ CpCmb.cmbs l ↔ f p.1 < f p.2 ∧ p.1 ∈ l ∧ p.2 ∈ l)
  | [], p, _ => ⟨fun h => (nomatch h), fun h => (nomatch h.2.1)⟩
  | x :: l, (a, b), h => by
    have h1 := List.pairwise_cons.mp h
    show (a, b) ∈ l.map (fun y => (x, y)) ++ CpCmb.cmbs l ↔ _
    rw [List.mem_append, List.mem_map, mem_cmbsF h1.2]
    constructor
    · rintro (⟨y, hy, e⟩ | ⟨h2, h3, h4⟩)
      · cases e
        exact ⟨h1.1 _ hy, List.mem_cons_self, List.mem_cons_of_mem _ hy⟩
      · exact ⟨h2, List.mem_cons_of_mem _ h3, List.mem_cons_of_mem _ h4⟩
    · rintro ⟨h2, h3, h4⟩
      have h2 : f a < f b := h2
      rcases List.mem_cons.mp h3 with e | e
      · have e : a = x := e
        rcases List.mem_cons.mp h4 with e2 | e2
        · have e2 : b = x := e2
          rw [e, e2] at h2
          exact absurd h2 (Nat.lt_irrefl _)
        · exact .inl ⟨b, e2, by rw [e]⟩
      · rcases List.mem_cons.mp h4 with e2 | e2
        · have e2 : b = x := e2
          have := h1.1 _ e
          rw [e2] at h2
          exact absurd h2 (Nat.not_lt.mpr (Nat.le_of_lt this))
        · exact .inr ⟨h2, e, e2⟩
theorem cmbs_nodup {α : Type} {f : α → Nat} : ∀ {l : List α}, l.Pairwise (fun a b => f a < f b) → (CpCmb.cmbs l).Nodup
  | [], _ => List.nodup_nil
  | x :: l, h => by
    have h1 := List.pairwise_cons.mp h
    have hn : l.Nodup := h1.2.imp fun h z => by
      rw [z] at h
      exact Nat.lt_irrefl _ h
    show (l.map (fun y => (x, y)) ++ CpCmb.cmbs l).Nodup
    refine List.nodup_append.mpr ⟨?_, cmbs_nodup h1.2, fun a ha b hb e => ?_⟩
    · exact List.Pairwise.map _ (fun a b hab e => hab (congrArg Prod.snd e)) hn
    · obtain ⟨y, hy, rfl⟩ := List.mem_map.mp ha
      rw [← e] at hb
      have := ((mem_cmbsF h1.2).mp hb).2.1
      exact Nat.lt_irrefl _ (h1.1 x this)
theorem flat_filter {g : Int → List Int} {w : Int} : ∀ {us : List Int}, us.Nodup → ((us.flatMap fun u => (g u).map fun v => (u, v)).filter fun p => decide (p.1 = w)).map (·.2) = if w ∈ us then g w else []
  | [], _ => rfl
  | u :: us, h => by
    have h := List.nodup_cons.mp h
    rw [List.flatMap_cons, List.filter_append, List.map_append, flat_filter h.2]
    by_cases e : u = w
    · subst e
      rw [if_neg h.1, if_pos List.mem_cons_self, List.append_nil]
      rw [List.filter_eq_self.mpr (fun p hp => by
        obtain ⟨v, _, rfl⟩ := List.mem_map.mp hp
        exact decide_eq_true rfl), List.map_map]
      exact List.map_id _
    · rw [List.filter_eq_nil_iff.mpr (fun p hp => by
        obtain ⟨v, _, rfl⟩ := List.mem_map.mp hp
        simpa using e)]
      rw [List.map_nil, List.nil_append]
      by_cases c : w ∈ us
      · rw [if_pos c, if_pos (List.mem_cons_of_mem _ c)]
      · rw [if_neg c, if_neg (fun z => by
          rcases List.mem_cons.mp z with z | z
          · exact e z.symm
          · exact c z)]
theorem above_all {n : Int} {ls : List Lnk} {os : List Int} {w : Int} (oo : OrdOk n os) (hw : w ∈ os) : ((pairsL ls os).filter fun p => decide (p.1 = w)).map (·.2) = upP ls os w := by
  unfold pairsL
  rw [flat_filter oo.nodup, if_pos hw]
/-- keys and addresses side by side -/
def kz {κ : Type} (ks : List κ) (rw : List Addr) : List (κ × V) := List.zipWith (fun k a => (k, V.ref a)) ks rw
theorem kz_snoc {κ : Type} {ks : List κ} {rs : List Addr} {k : κ} {a : Addr} (h : ks.length = rs.length) : kz (ks ++ [k]) (rs ++ [a]) = kz ks rs ++ [(k, V.ref a)] := by
  unfold kz
  rw [List.zipWith_append h]
  rfl
theorem kz_val {κ : Type} [DecidableEq κ] : ∀ {ks : List κ} {rs : List Addr} {i : Nat} {k : κ} {a : Addr}, ks.Nodup → ks[i]? = some k → rs[i]? = some a → valV (kz ks rs) k = some (.ref a)
  | [], _, _, _, _, _, h, _ => by simp at h
  | _ :: _, [], _, _, _, _, _, h => by simp at h
  | x :: ks, r :: rs, 0, k, a, _, h1, h2 => by
    cases Option.some.inj h1
    cases Option.some.inj h2
    show (List.find? (fun kv : κ × V => decide (kv.1 = x)) ((x, V.ref r) :: kz ks rs)).map (·.2) = _
    rw [List.find?_cons, decide_eq_true (rfl : x = x)] <;> rfl
  | x :: ks, r :: rs, i + 1, k, a, hn, h1, h2 => by
    have hn := List.nodup_cons.mp hn
    have h1 : ks[i]? = some k := h1
    have h2 : rs[i]? = some a := h2
    have ne : ¬ x = k := fun z => hn.1 (by rw [z]; exact List.mem_of_getElem? h1)
    have ih := kz_val hn.2 h1 h2
    show (List.find? (fun kv : κ × V => decide (kv.1 = k)) ((x, V.ref r) :: kz ks rs)).map (·.2) = _
    rw [List.find?_cons, decide_eq_false ne]
    exact ih
theorem kz_any {κ : Type} [DecidableEq κ] : ∀ {ks : List κ} {rs : List Addr} {k : κ}, k ∉ ks → ((kz ks rs).any fun kv => decide (kv.1 = k)) = false
  | [], _, _, _ => rfl
  | _ :: _, [], _, _ => rfl
  | x :: ks, r :: rs, k, h => by
    show (decide (x = k) || (kz ks rs).any fun kv => decide (kv.1 = k)) = false
    rw [kz_any (rs := rs) (fun z => h (List.mem_cons_of_mem _ z)), decide_eq_false (fun z => h (by
      rw [z]
      exact List.mem_cons_self))]
    rfl
theorem kz_put {κ : Type} [DecidableEq κ] {ks : List κ} {rs : List Addr} {k : κ} {a : Addr} (h : k ∉ ks) (hl : ks.length = rs.length) : putK (kz ks rs) k (.ref a) = kz (ks ++ [k]) (rs ++ [a]) := by
  have hf := kz_any (rs := rs) h
  unfold putK
  rw [hf, if_neg Bool.false_ne_true, kz_snoc hl]
theorem kz_len {κ : Type} {ks : List κ} {rs : List Addr} (h : rs.length = ks.length) : (kz ks rs).length = ks.length := by
  unfold kz
  rw [List.length_zipWith, h, Nat.min_self]
def K2 (p : Int × Int) : List L2.Key := [Sum.inl p.1, Sum.inl p.2]
theorem K2_inj {p q : Int × Int} (h : K2 p = K2 q) : p = q := by
  unfold K2 at h
  injection h with e1 e2
  injection e2 with e2 _
  exact Prod.ext (Sum.inl.inj e1) (Sum.inl.inj e2)
section
variable {K : PySem.W.Frag} {σ : L2.St} {H : Hp} {tl : TE}
/-- {x: [] for x in ns} -/
theorem dc_rows {j : Nat} {ns : List Int} {Q : VK} (hj : j < σ.length) (hl : ∀ Q : VK, (∀ a H1, Same H H1 → SqL K H1 a (ns.map V.int) → Q (.ref a) H1) → tl σ H Q) (hn : ns.Nodup) (hz : ns.length ≤ 1000)
    (q : ∀ D H' (rw : List Addr), Same H H' → H D = none → H' D = some (.dK (kz (ns.map Sum.inl) rw)) → rw.length = ns.length → rw.Nodup → D ∉ rw → (∀ a ∈ rw, H a = none ∧ H' a = some (.lst [])) → Q (.ref D) H') : tDc (iList K tl) (gName j) tYes (tVar j) (tLst tNil) [j] σ H Q := by
  refine hl _ fun a H1 s1 hx => ⟨a, rfl, ⟨_, hx⟩, fun D nD => ?_⟩
  refine ⟨fun i m H2 => m + i = ns.length ∧ ∃ rw : List Addr, H2 D = some (.dK (kz ((ns.take i).map Sum.inl) rw)) ∧ Same H1 H2 ∧ rw.length = i ∧ rw.Nodup ∧ D ∉ rw ∧ ∀ a ∈ rw, H a = none ∧ H2 a = some (.lst []),
    ⟨ns.length, rfl, [], upd_same, same_upd nD, rfl, .nil, List.not_mem_nil, fun _ h => (nomatch h)⟩, fun i m H2 hW => ?_⟩
  obtain ⟨em, rw_, hD, s2, hlen, hnd, hDn, hr⟩ := hW
  by_cases hi : i < ns.length
  · refine .inr ⟨⟨_, _, s2.seq hx, by rw [List.getElem?_map, List.getElem?_eq_getElem hi] <;> rfl⟩, fun H2 => ∃ rw : List Addr, H2 D = some (.dK (kz ((ns.take (i + 1)).map Sum.inl) rw)) ∧ Same H1 H2 ∧ rw.length = i + 1 ∧ rw.Nodup ∧ D ∉ rw ∧ ∀ a ∈ rw, H a = none ∧ H2 a = some (.lst []), fun H' h => ⟨m - 1, by omega, by omega, h⟩, fun x H' hy => ?_⟩
    obtain ⟨rfl, hy⟩ := hy
    have hy := hy _ (s2.seq hx)
    have hg : ns[i]? = some ns[i] := List.getElem?_eq_getElem hi
    rw [List.getElem?_map, hg] at hy
    have hnew : ns[i] ∉ ns.take i := fun h => by
      obtain ⟨k, hk⟩ := List.mem_iff_getElem?.mp h
      have hlt := (List.getElem?_eq_some_iff.mp hk).1
      rw [List.length_take] at hlt
      rw [List.getElem?_take, if_pos (by omega), ← hg] at hk
      have := (List.getElem?_inj (by omega) hn).mp hk
      omega
    generalize ns[i] = n at hg hy hnew
    cases hy
    refine ⟨?_, ?_⟩
    · show ((σ.set j none).set j (some (V.int n))).set j none = σ.set j none
      rw [List.set_set, List.set_set]
    · refine yes_of ?_
      dsimp only
      rw [if_pos rfl]
      have hjl : ((σ.set j none).set j (some (V.int n)))[j]? = some (some (V.int n)) := List.getElem?_set_self (by rw [List.length_set]; exact hj)
      refine ⟨_, hjl, Nat.zero_le _, fun p np => ⟨_, Sum.inl n, rfl, same_upd np _ _ hD, ?_, rw_ ++ [p], ?_, ?_, ?_, ?_, ?_, fun b hb => ?_⟩⟩
      · rw [kz_len (by rw [List.length_map, List.length_take, hlen]; omega), List.length_map, List.length_take]
        exact Nat.lt_of_le_of_lt (m := 1000) (by omega) (by decide)
      · rw [upd_same, kz_put (fun h => by
          obtain ⟨z, hz, e⟩ := List.mem_map.mp h
          exact hnew (by rw [← Sum.inl.inj e]; exact hz)) (by rw [List.length_map, List.length_take, hlen]; omega), take_snoc hg, List.map_append]
        rfl
      · exact same_upd' (s2.trans (same_upd np)) nD
      · rw [List.length_append, hlen]
        rfl
      · refine List.nodup_append.mpr ⟨hnd, List.nodup_cons.mpr ⟨List.not_mem_nil, .nil⟩, fun x hx y hy e => ?_⟩
        rw [List.mem_singleton.mp hy] at e
        have := (hr x hx).2
        rw [e, np] at this
        cases this
      · intro h
        rcases List.mem_append.mp h with h | h
        · exact hDn h
        · rw [List.mem_singleton.mp h, np] at hD
          cases hD
      · rcases List.mem_append.mp hb with h | h
        · exact ⟨(hr b h).1, by
            rw [upd_ne (fun e => hDn (by rw [← e]; exact h))]
            exact same_upd np _ _ (hr b h).2⟩
        · have e := List.mem_singleton.mp h
          refine ⟨by rw [e]; exact Same.free (s1.trans s2) np, ?_⟩
          rw [e, upd_ne (fun z => by rw [← z, np] at hD; cases hD)]
          exact upd_same
  · refine .inl ⟨⟨_, s2.seq hx, by rw [List.length_map]; omega⟩, ?_⟩
    rw [List.take_of_length_le (by omega)] at hD
    exact q D H2 rw_ (s1.trans s2) (Same.free s1 nD) hD (by omega) hnd hDn hr
/-- {pair: [] for pair in found} -/
theorem dcT_rows {j : Nat} {ts : List V} {L : List (Int × Int)} {Q : VK} {a : Addr} (hj : j < σ.length) (hl : Vl tl σ H (.ref a)) (hx : SqL K H a ts) (hT : TupsAt H ts L) (hn : L.Nodup) (hz : L.length ≤ 2000)
    (q : ∀ D H' (rw : List Addr), Same H H' → H D = none → H' D = some (.dT (kz (L.map K2) rw)) → rw.length = L.length → rw.Nodup → D ∉ rw → (∀ a ∈ rw, H a = none ∧ H' a = some (.lst [])) → Q (.ref D) H') : tDcT (iList K tl) (gName j) tYes (tVar j) (tLst tNil) [j] σ H Q := by
  refine hl _ ⟨a, rfl, ⟨_, hx⟩, fun D nD => ?_⟩
  refine ⟨fun i m H2 => m + i = L.length ∧ ∃ rw : List Addr, H2 D = some (.dT (kz ((L.take i).map K2) rw)) ∧ Same H H2 ∧ rw.length = i ∧ rw.Nodup ∧ D ∉ rw ∧ ∀ a ∈ rw, H a = none ∧ H2 a = some (.lst []),
    ⟨L.length, rfl, [], upd_same, same_upd nD, rfl, .nil, List.not_mem_nil, fun _ h => (nomatch h)⟩, fun i m H2 hW => ?_⟩
  obtain ⟨em, rw_, hD, s2, hlen, hnd, hDn, hr⟩ := hW
  by_cases hi : i < L.length
  · have hg : L[i]? = some L[i] := List.getElem?_eq_getElem hi
    have hnew : L[i] ∉ L.take i := fun h => by
      obtain ⟨k, hk⟩ := List.mem_iff_getElem?.mp h
      have hlt := (List.getElem?_eq_some_iff.mp hk).1
      rw [List.length_take] at hlt
      rw [List.getElem?_take, if_pos (by omega), ← hg] at hk
      have := (List.getElem?_inj (by omega) hn).mp hk
      omega
    generalize L[i] = n at hg hnew
    obtain ⟨u, v⟩ := n
    obtain ⟨t, e1, e2⟩ := hT.at_ i u v hg
    refine .inr ⟨⟨_, _, s2.seq hx, e1⟩, fun H2 => ∃ rw : List Addr, H2 D = some (.dT (kz ((L.take (i + 1)).map K2) rw)) ∧ Same H H2 ∧ rw.length = i + 1 ∧ rw.Nodup ∧ D ∉ rw ∧ ∀ a ∈ rw, H a = none ∧ H2 a = some (.lst []), fun H' h => ⟨m - 1, by omega, by omega, h⟩, fun x H' hy => ?_⟩
    obtain ⟨rfl, hy⟩ := hy
    cases (hy _ (s2.seq hx)).symm.trans e1
    refine ⟨?_, ?_⟩
    · show ((σ.set j none).set j (some (V.ref t))).set j none = σ.set j none
      rw [List.set_set, List.set_set]
    · refine yes_of ?_
      dsimp only
      rw [if_pos rfl]
      have hjl : ((σ.set j none).set j (some (V.ref t)))[j]? = some (some (V.ref t)) := List.getElem?_set_self (by rw [List.length_set]; exact hj)
      refine ⟨_, hjl, Nat.zero_le _, fun p np => ⟨_, K2 (u, v), t, rfl, same_upd np _ _ (s2 _ _ e2), same_upd np _ _ hD, ?_, rw_ ++ [p], ?_, ?_, ?_, ?_, ?_, fun b hb => ?_⟩⟩
      · rw [kz_len (by rw [List.length_map, List.length_take, hlen]; omega), List.length_map, List.length_take]
        exact Nat.lt_of_le_of_lt (m := 2000) (by omega) (by decide)
      · rw [upd_same, kz_put (fun h => by
          obtain ⟨z, hz, e⟩ := List.mem_map.mp h
          exact hnew (by rw [← K2_inj e]; exact hz)) (by rw [List.length_map, List.length_take, hlen]; omega), take_snoc hg, List.map_append]
        rfl
      · exact same_upd' (s2.trans (same_upd np)) nD
      · rw [List.length_append, hlen]
        rfl
      · refine List.nodup_append.mpr ⟨hnd, List.nodup_cons.mpr ⟨List.not_mem_nil, .nil⟩, fun x hx y hy e => ?_⟩
        rw [List.mem_singleton.mp hy] at e
        have := (hr x hx).2
        rw [e, np] at this
        cases this
      · intro h
        rcases List.mem_append.mp h with h | h
        · exact hDn h
        · rw [List.mem_singleton.mp h, np] at hD
          cases hD
      · rcases List.mem_append.mp hb with h | h
        · exact ⟨(hr b h).1, by
            rw [upd_ne (fun e => hDn (by rw [← e]; exact h))]
            exact same_upd np _ _ (hr b h).2⟩
        · have e := List.mem_singleton.mp h
          refine ⟨by rw [e]; exact Same.free s2 np, ?_⟩
          rw [e, upd_ne (fun z => by rw [← z, np] at hD; cases hD)]
          exact upd_same
  · refine .inl ⟨⟨_, s2.seq hx, by rw [hT.len]; omega⟩, ?_⟩
    rw [List.take_of_length_le (by omega)] at hD
    exact q D H2 rw_ s2 nD hD (by omega) hnd hDn hr
theorem vl_dgetT {td ty : TE} {o b : Addr} {p : Int × Int} {kvs : List (List L2.Key × V)} {v : V} (ho : Vl td σ H (.ref o)) (hk : Vl ty σ H (.ref b)) (hb : H b = some (.tup [.int p.1, .int p.2])) (hd : H o = some (.dT kvs)) (hv : valV kvs (K2 p) = some v) : Vl (tDGet td ty) σ H v := fun Q q => ho _ (hk _ ⟨o, v, rfl, by
  rw [← hv]
  exact DGet.t (k := K2 p) hd hb, q⟩)
end
def spLowBy (K : PySem.W.Frag) : Sp := fun vs H Q _ => ∃ (fp p : Addr) (ts : List V) (N : Net) (os : List Int), vs = [.ref fp, .ref p] ∧ SqL K H fp ts ∧ TupsAt H ts (pairsL N.ls os) ∧ SqL K H p (os.map V.int) ∧ NetOk N ∧ OrdOk N.n os ∧
  ∀ H' d kvs, Same H H' → H d = none → LowD H H' d kvs (pairsL N.ls os) os → Q (.ref d) H'
abbrev sLowBy : Stmt := topS 30
theorem scLowBy : FnScope ["found", "order", "place", "above", "low", "high", "pair", "lower"] ["found", "order"] (defScope sLowBy) := ⟨rfl, rfl, rfl, by decide +kernel, rfl, by decide +kernel, by decide +kernel⟩
section
variable {P : Program} {w : World} {K : PySem.W.Frag} {mg : Str → Option Value} {base : Heap}
theorem ok_lowBy {f : Addr} {fd : FuncData} {k : Nat} (F : Fun K "_lower_by_pair" "_lower_by_pair" sLowBy f fd) (mcmb : mg "combinations" = some (.type "itertools.combinations")) : FnOk P w K mg base CX0 (k + 1) f fd ["found", "order"] (spLowBy K) := by
  refine F.ok scLowBy (fun vs H Q E h => ?_) (fun cdv A outer s H vs Q E hr h => ?_)
  · obtain ⟨fp, p, ts, N, os, rfl, _⟩ := h
    rfl
  · obtain ⟨fp, p, ts, N, os, rfl, hF, hT, hS, okN, oo, q⟩ := h
    have hu := hu_of hr
    refine ⟨_, pss_cons (ps_setDc (i := 3) (own := [("place", 2)]) (g := gName 2) (tt := tYes) (tk := (tVar 2)) (tv := (tLst tNil)) rfl scLowBy.nd rfl rfl (swapsD rfl rfl rfl (by decide +kernel)) (pi_list (pv 1)) (blkOk_by (own := [("place", 2)]) (N := ["found", "order", "place", "above", "low", "high", "pair", "lower"]) (sc := defScope sLowBy) (by decide +kernel)) (fun _ _ _ _ _ => pg_name (i := 2) scLowBy.nd rfl (Or.inl rfl)) (fun _ _ _ _ _ => by exact pts_nil) (fun _ _ _ _ _ => by exact (pv 2)) (fun _ _ _ _ _ => by exact (pe_lst pa_nil)))
      (pss_cons (ps_for PassesOwn.never rfl (pi_list (pv 0)) (pg_tup rfl (pgs_cons (pg_name (i := 4) scLowBy.nd rfl (.inl rfl)) (pgs_cons (pg_name (i := 5) scLowBy.nd rfl (.inl rfl)) pgs_nil)))
      (pss_one (ps_expr (pe_bm PySem.F.plainAttrs_list PySem.F.slot_list_append PySem.F.type_list_append mt_append (pe_dget hu (pv 3) (pv 4) (fun _ _ => rfl)) (pa_cons (pv 5) pa_nil)))))
      (pss_cons (ps_setDcT (i := 7) (own := [("pair", 6)]) (g := gName 6) (tt := tYes) (tk := (tVar 6)) (tv := (tLst tNil)) hu rfl scLowBy.nd rfl rfl (swapsD rfl rfl rfl (by decide +kernel)) (pi_list (pv 0)) (blkOk_by (own := [("pair", 6)]) (N := ["found", "order", "place", "above", "low", "high", "pair", "lower"]) (sc := defScope sLowBy) (by decide +kernel)) (fun _ _ _ _ _ => pg_name (i := 6) scLowBy.nd rfl (Or.inl rfl)) (fun _ _ _ _ _ => by exact pts_nil) (fun _ _ _ _ _ => by exact (pv 6)) (fun _ _ _ _ _ => by exact (pe_lst pa_nil)))
      (pss_cons (ps_for PassesOwn.never rfl (pi_list (pv 1)) (pg_name (i := 2) scLowBy.nd rfl (.inl rfl))
      (pss_one (ps_for PassesOwn.never rfl (pi_cmb (by rfl) mcmb (pa_cons (pe_dget hu (pv 3) (pv 2) (fun _ _ => rfl)) (pa_cons pe_int pa_nil))) (pg_name (i := 6) scLowBy.nd rfl (.inl rfl))
        (pss_one (ps_expr (pe_bm PySem.F.plainAttrs_list PySem.F.slot_list_append PySem.F.type_list_append mt_append (pe_dget hu (pv 7) (pv 6) (fun _ _ => rfl)) (pa_cons (pv 2) pa_nil)))))))
      (pss_one (ps_ret (pv 7)))))), ?_⟩
    have on := oo.len
    have n40 := okN.n40
    have n1 := okN.n1
    have hnd := oo.nodup
    have hLn := pairsL_nodup (ls := N.ls) oo
    have hLl := pairsL_len okN oo
    have tl := hT.len
    refine q_asgE (dc_rows (K := K) (by show 2 < 8; decide) (vx_list (vl_var rfl) hS) hnd (by omega) fun d1 H1 r1 s1 n1_ e1 l1 nd1 nn1 hr1 => ?_)
    refine q_forP (vl_var rfl) (s1.seq hF) tl
      (fun i σ H2 => ∃ y4 y5, σ = [some (.ref fp), some (.ref p), none, some (.ref d1), y4, y5, none, none] ∧ Same H H2 ∧ H2 d1 = some (.dK (kz (os.map Sum.inl) r1)) ∧
        ∀ (k : Nat) w a, os[k]? = some w → r1[k]? = some a → H2 a = some (.lst (((((pairsL N.ls os).take i).filter fun p => decide (p.1 = w)).map (·.2)).map V.int)))
      ⟨none, none, rfl, s1, e1, fun k w a hk ha => (hr1 a (List.mem_of_getElem? ha)).2⟩ (fun i σ H2 hP => ?_) (fun i u v t σ H2 hi ht hP => ?_) (fun σ H2 hP => ?_)
    · obtain ⟨_, _, _, s2, _⟩ := hP
      exact ⟨s2.seq hF, hT.to s2⟩
    · obtain ⟨y4, y5, rfl, s2, e2, hA⟩ := hP
      have hm : (u, v) ∈ pairsL N.ls os := List.mem_of_getElem? hi
      have hp := (mem_pairsL okN oo).mp hm
      have huo : u ∈ os := oo.mem.mpr (hp.ins okN).1
      have hk := posOf_lt huo
      have hkl := pos_len huo
      have ha : r1[posOf u os]? = some r1[posOf u os] := List.getElem?_eq_getElem (by omega)
      generalize r1[posOf u os] = a at ha
      have hal := hA _ u a hk ha
      have hv := kz_val (ks := os.map Sum.inl) (rs := r1) (k := (Sum.inl u : L2.Key)) (List.Pairwise.map _ (fun a b hab e => hab (Sum.inl.inj e)) hnd) (by rw [List.getElem?_map, hk] <;> rfl) ha
      refine g_app (vl_dgetI (vl_var rfl) (vl_var rfl) e2 hv) hal (vl_var rfl) ?_ ⟨_, _, rfl, same_upd' s2 (hr1 a (List.mem_of_getElem? ha)).1, ?_, fun k' w' a' hk' ha' => ?_⟩
      · rw [List.length_map, List.length_map]
        refine Nat.lt_of_le_of_lt (m := 2000) ?_ (by decide)
        have := List.length_filter_le (fun p : Int × Int => decide (p.1 = u)) ((pairsL N.ls os).take i)
        rw [List.length_take] at this
        omega
      · rw [upd_ne (fun z => nn1 (by rw [z]; exact List.mem_of_getElem? ha))]
        exact e2
      · rw [take_snoc hi, List.filter_append, List.map_append, List.map_append]
        by_cases e : w' = u
        · subst e
          have ek : k' = posOf w' os := by
            have := posOf_get hnd hk'
            omega
          rw [ek, ha] at ha'
          cases ha'
          rw [upd_same, List.filter_cons, decide_eq_true (rfl : w' = w')]
          rfl
        · rw [upd_ne (fun z => by
            rw [z, ← ha] at ha'
            have := (List.getElem?_inj (by
              have := (List.getElem?_eq_some_iff.mp hk').1
              omega) nd1).mp ha'
            rw [this, hk] at hk'
            exact e (Option.some.inj hk').symm), hA k' w' a' hk' ha', List.filter_cons, decide_eq_false (fun z : u = w' => e z.symm)]
          simp
    · obtain ⟨y4, y5, rfl, s2, e2, hA⟩ := hP
      rw [List.take_length] at hA
      have hA2 : ∀ (k : Nat) w a, os[k]? = some w → r1[k]? = some a → H2 a = some (.lst ((upP N.ls os w).map V.int)) := fun k w a hk ha => by
        rw [hA k w a hk ha, above_all oo (List.mem_of_getElem? hk)]
      clear hA
      -- lower
      refine q_asgE (dcT_rows (K := K) (by show 6 < 8; decide) (vl_var rfl) (s2.seq hF) (hT.to s2) hLn (by omega) fun d2 H3 r2 s3 n2 e3 l2 nd2 nn2 hr2 => ?_)
      have hrd : ∀ a ∈ r2, H a = none := fun a h => Same.free s2 (hr2 a h).1
      have hd1 : d1 ∉ r2 := fun h => by
        have := (hr2 d1 h).1
        rw [e2] at this
        cases this
      have e13 := s3 _ _ e2
      have hA3 : ∀ (k : Nat) w a, os[k]? = some w → r1[k]? = some a → H3 a = some (.lst ((upP N.ls os w).map V.int)) ∧ a ∉ r2 := fun k w a hk ha => ⟨s3 _ _ (hA2 k w a hk ha), fun h => by
        have := (hr2 a h).1
        rw [hA2 k w a hk ha] at this
        cases this⟩
      refine q_forL (K := K) (j := 2) (xs := os.map V.int) (vl_var rfl) ((s2.trans s3).seq hS)
        (fun m σ H4 => ∃ y2 y4 y5 y6, σ = [some (.ref fp), some (.ref p), y2, some (.ref d1), y4, y5, y6, some (.ref d2)] ∧ Same H H4 ∧ Same (msk (· ∈ r2) H3) (msk (· ∈ r2) H4) ∧
          ∀ (k : Nat) u v a, (pairsL N.ls os)[k]? = some (u, v) → r2[k]? = some a → H4 a = some (.lst (((os.take m).filter fun w => decide ((w, u) ∈ pairsL N.ls os) && decide ((w, v) ∈ pairsL N.ls os)).map V.int)))
        ⟨_, _, _, _, rfl, s2.trans s3, Same.refl _, fun k u v a hk ha => (hr2 a (List.mem_of_getElem? ha)).2⟩ (fun m σ H4 hP => ?_) (fun m x σ H4 hi hP => ?_) (fun σ H4 hP => ?_)
      · obtain ⟨_, _, _, _, _, s4, _⟩ := hP
        exact s4.seq hS
      · obtain ⟨y2, y4', y5', y6, rfl, s4, k4, hB⟩ := hP
        have hm : m < os.length := by
          have := (List.getElem?_eq_some_iff.mp hi).1
          rw [List.length_map] at this
          exact this
        have hg : os[m]? = some os[m] := List.getElem?_eq_getElem hm
        rw [List.getElem?_map, hg] at hi
        generalize os[m] = w0 at hg hi
        cases hi
        have ha : r1[m]? = some r1[m] := List.getElem?_eq_getElem (by omega)
        generalize r1[m] = a at ha
        obtain ⟨ha3, har⟩ := hA3 m w0 a hg ha
        have hv := kz_val (ks := os.map Sum.inl) (rs := r1) (k := (Sum.inl w0 : L2.Key)) (List.Pairwise.map _ (fun a b hab e => hab (Sum.inl.inj e)) hnd) (by rw [List.getElem?_map, hg] <;> rfl) ha
        have ha4 := msk_get k4 ha3 har
        have hs := up_sorted (N := N) (u := w0) oo
        have hcn := cmbs_nodup hs
        refine (vl_dgetI (σ := [some (.ref fp), some (.ref p), some (.int w0), some (.ref d1), y4', y5', y6, some (.ref d2)]) (vl_var (i := 3) rfl) (vl_var (i := 2) rfl) (msk_get k4 e13 hd1) hv) _ ⟨a, _, rfl, .of ha4, for_cm
          (fun t σ H5 => ∃ y6, σ = [some (.ref fp), some (.ref p), some (.int w0), some (.ref d1), y4', y5', y6, some (.ref d2)] ∧ Same H H5 ∧ Same (msk (· ∈ r2) H3) (msk (· ∈ r2) H5) ∧
            ∀ (k : Nat) u v a, (pairsL N.ls os)[k]? = some (u, v) → r2[k]? = some a → H5 a = some (.lst (((os.take m).filter fun w => decide ((w, u) ∈ pairsL N.ls os) && decide ((w, v) ∈ pairsL N.ls os)).map V.int ++ if (u, v) ∈ (CpCmb.cmbs (upP N.ls os w0)).take t then [V.int w0] else [])))
          ⟨_, rfl, s4, k4, fun k u v a hk ha => by
            rw [hB k u v a hk ha, List.take_zero, if_neg List.not_mem_nil, List.append_nil]⟩ (fun t x y T σ H5 ht hP nT => ?_) (fun σ H5 hP => ?_)⟩
        · obtain ⟨y6, rfl, s5, k5, hC⟩ := hP
          rw [CpCmb.cmbs_map, List.getElem?_map] at ht
          cases hq : (CpCmb.cmbs (upP N.ls os w0))[t]? with
          | none =>
            rw [hq] at ht
            cases ht
          | some xy =>
            obtain ⟨i1, k1⟩ := xy
            rw [hq] at ht
            cases ht
            have hmem := (mem_cmbsF hs).mp (List.mem_of_getElem? hq)
            have p1 := (mem_up.mp hmem.2.1).2
            have p2 := (mem_up.mp hmem.2.2).2
            have hpL : (i1, k1) ∈ pairsL N.ls os := (mem_pairsL okN oo).mpr (pair_clique okN p1 p2 hmem.1)
            obtain ⟨kk, hkk⟩ := List.mem_iff_getElem?.mp hpL
            have hkkl := (List.getElem?_eq_some_iff.mp hkk).1
            have hb : r2[kk]? = some r2[kk] := List.getElem?_eq_getElem (by omega)
            generalize r2[kk] = b at hb
            have hbm := List.mem_of_getElem? hb
            have hv2 := kz_val (ks := (pairsL N.ls os).map K2) (rs := r2) (k := K2 (i1, k1)) (List.Pairwise.map _ (fun a b hab e => hab (K2_inj e)) hLn) (by rw [List.getElem?_map, hkk] <;> rfl) hb
            have s6 : Same H5 (upd H5 T (.tup [.int i1, .int k1])) := same_upd nT
            have e35 := s6 _ _ (msk_get k5 e3 nn2)
            have hb6 := s6 _ _ (hC kk i1 k1 b hkk hb)
            have hnt : (i1, k1) ∉ (CpCmb.cmbs (upP N.ls os w0)).take t := fun h => by
              obtain ⟨k', hk'⟩ := List.mem_iff_getElem?.mp h
              have hlt := (List.getElem?_eq_some_iff.mp hk').1
              rw [List.length_take] at hlt
              rw [List.getElem?_take, if_pos (by omega), ← hq] at hk'
              have := (List.getElem?_inj (by omega) hcn).mp hk'
              omega
            rw [if_neg hnt, List.append_nil] at hb6
            refine g_app (v := .int w0) (vl_dgetT (p := (i1, k1)) (vl_var (i := 7) rfl) (vl_var (i := 6) rfl) upd_same e35 hv2) hb6 (vl_var (i := 2) rfl) ?_ ⟨_, rfl, same_upd' (s5.trans s6) (hrd b hbm), ?_, fun k' u' v' a' hk' ha' => ?_⟩
            · rw [List.length_map]
              refine Nat.lt_of_le_of_lt (m := 2000) ?_ (by decide)
              have := List.length_filter_le (fun w => decide ((w, i1) ∈ pairsL N.ls os) && decide ((w, k1) ∈ pairsL N.ls os)) (os.take m)
              rw [List.length_take] at this
              omega
            · rw [msk_upd hbm]
              exact k5.trans (msk_mono s6)
            · rw [take_snoc hq]
              by_cases e : (u', v') = (i1, k1)
              · cases e
                have ekk : k' = kk := (List.getElem?_inj (by
                  have := (List.getElem?_eq_some_iff.mp hk').1
                  exact this) hLn).mp (hk'.trans hkk.symm)
                rw [ekk, hb] at ha'
                cases ha'
                rw [upd_same, if_pos (List.mem_append.mpr (.inr (List.mem_singleton.mpr rfl)))]
              · rw [upd_ne (fun z => by
                  rw [z, ← hb] at ha'
                  have hk2 := (List.getElem?_inj (by
                    have := (List.getElem?_eq_some_iff.mp hk').1
                    omega) nd2).mp ha'
                  rw [hk2, hkk] at hk'
                  exact e (Option.some.inj hk').symm), s6 _ _ (hC k' u' v' a' hk' ha')]
                have e2 : ((u', v') ∈ (CpCmb.cmbs (upP N.ls os w0)).take t ++ [(i1, k1)]) ↔ (u', v') ∈ (CpCmb.cmbs (upP N.ls os w0)).take t := by
                  rw [List.mem_append, List.mem_singleton]
                  exact ⟨fun h => h.resolve_right e, .inl⟩
                by_cases c : (u', v') ∈ (CpCmb.cmbs (upP N.ls os w0)).take t
                · rw [if_pos c, if_pos (e2.mpr c)]
                · rw [if_neg c, if_neg (fun z => c (e2.mp z))]
        · obtain ⟨y6, rfl, s5, k5, hC⟩ := hP
          refine ⟨_, _, _, _, rfl, s5, k5, fun k u v a hk ha => ?_⟩
          have hpl : (pairsL N.ls os)[k]? = some (u, v) := hk
          have hp := (mem_pairsL okN oo).mp (List.mem_of_getElem? hpl)
          have hlen : (CpCmb.cmbs ((upP N.ls os w0).map V.int)).length = (CpCmb.cmbs (upP N.ls os w0)).length := by rw [CpCmb.cmbs_map, List.length_map]
          rw [hC k u v a hk ha, hlen, List.take_length, take_snoc hg, List.filter_append, List.map_append]
          congr 2
          have e : ((u, v) ∈ CpCmb.cmbs (upP N.ls os w0)) ↔ ((w0, u) ∈ pairsL N.ls os ∧ (w0, v) ∈ pairsL N.ls os) := by
            rw [mem_cmbsF hs, mem_upP okN oo, mem_upP okN oo, mem_pairsL okN oo, mem_pairsL okN oo]
            exact ⟨fun h => h.2, fun h => ⟨hp.1, h⟩⟩
          by_cases c : (w0, u) ∈ pairsL N.ls os ∧ (w0, v) ∈ pairsL N.ls os
          · rw [if_pos (e.mpr c), List.filter_cons, decide_eq_true c.1, decide_eq_true c.2]
            rfl
          · rw [if_neg (fun z => c (e.mp z)), List.filter_cons]
            have hf : (decide ((w0, u) ∈ pairsL N.ls os) && decide ((w0, v) ∈ pairsL N.ls os)) = false := by
              rw [Bool.and_eq_false_iff, decide_eq_false_iff_not, decide_eq_false_iff_not]
              exact Classical.not_and_iff_not_or_not.mp c
            rw [hf]
            rfl
      · obtain ⟨y2, y4', y5', y6, rfl, s4, k4, hB⟩ := hP
        rw [List.length_map, List.take_length] at hB
        have e34 := msk_get k4 e3 nn2
        refine g_ret (vl_var rfl) (q H4 d2 _ s4 (Same.free s2 n2) ⟨e34, by rw [kz_len (by rw [List.length_map]; exact l2), List.length_map], fun kv hkv => ?_, fun u v hm => ?_⟩)
        · obtain ⟨k, hk⟩ := List.mem_iff_getElem?.mp hkv
          unfold kz at hk
          rw [List.getElem?_zipWith] at hk
          cases h1 : ((pairsL N.ls os).map K2)[k]? with
          | none =>
            rw [h1] at hk
            cases hk
          | some kk =>
            cases h2 : r2[k]? with
            | none =>
              rw [h1, h2] at hk
              cases hk
            | some a =>
              rw [h1, h2] at hk
              cases hk
              rw [List.getElem?_map] at h1
              cases h3 : (pairsL N.ls os)[k]? with
              | none =>
                rw [h3] at h1
                cases h1
              | some uv =>
                obtain ⟨u, v⟩ := uv
                rw [h3] at h1
                cases h1
                exact ⟨u, v, a, List.mem_of_getElem? h3, rfl, hrd a (List.mem_of_getElem? h2), hB k u v a h3 h2⟩
        · obtain ⟨k, hk⟩ := List.mem_iff_getElem?.mp hm
          have hkl := (List.getElem?_eq_some_iff.mp hk).1
          have hb : r2[k]? = some r2[k] := List.getElem?_eq_getElem (by omega)
          exact ⟨_, kz_val (ks := (pairsL N.ls os).map K2) (rs := r2) (k := K2 (u, v)) (List.Pairwise.map _ (fun a b hab e => hab (K2_inj e)) hLn) (by rw [List.getElem?_map, hk] <;> rfl) hb⟩
end
/-! ### fillings, row by row -/
def mkRow (N : Net) (os : List Int) (L : List (Int × Int)) (rs : List Row) (u v : Int) : Row :=
  let a := bestF (linkW N.ls u v) (fun w => addO (prR rs u w) (prR rs w v)) (lowerL L os u v)
  let b := bestF (linkW N.ls v u) (fun w => addO (prR rs v w) (prR rs w u)) (lowerL L os u v)
  ⟨u, v, a.1, b.1, a.2, b.2⟩
theorem bestF_congr {o : Option Int} {s t : Int → Option Int} {ws : List Int} (h : ∀ w ∈ ws, s w = t w) : bestF o s ws = bestF o t ws := by
  unfold bestF
  have gen : ∀ (ws : List Int) (acc : Option Int × Option Int), (∀ w ∈ ws, s w = t w) → ws.foldl (bestStep s) acc = ws.foldl (bestStep t) acc := by
    intro ws
    induction ws with
    | nil => intro acc _; rfl
    | cons w r ih =>
      intro acc h
      rw [List.foldl_cons, List.foldl_cons, show bestStep s acc w = bestStep t acc w by
        unfold bestStep
        rw [h w List.mem_cons_self]]
      exact ih _ fun x hx => h x (List.mem_cons_of_mem _ hx)
  exact gen ws _ h
def prOf (r : Row) : Int × Int := (r.u, r.v)
theorem find_none {rs : List Row} {x y : Int} (h : (x, y) ∉ rs.map prOf) : rs.find? (fun r => decide (r.u = x ∧ r.v = y)) = none := by
  rw [List.find?_eq_none]
  intro r hr z
  have z := of_decide_eq_true z
  exact h (List.mem_map.mpr ⟨r, hr, by
    unfold prOf
    rw [z.1, z.2]⟩)
theorem find_some {rs : List Row} {x y : Int} (h : (x, y) ∈ rs.map prOf) : ∃ r, rs.find? (fun r => decide (r.u = x ∧ r.v = y)) = some r ∧ r ∈ rs ∧ r.u = x ∧ r.v = y := by
  obtain ⟨r0, hr, e⟩ := List.mem_map.mp h
  have h1 := congrArg Prod.fst e
  have h2 := congrArg Prod.snd e
  cases e2 : rs.find? (fun r => decide (r.u = x ∧ r.v = y)) with
  | none =>
    rw [List.find?_eq_none] at e2
    exact absurd (decide_eq_true ⟨h1, h2⟩) (e2 r0 hr)
  | some r =>
    have h3 : r.u = x ∧ r.v = y := by simpa using List.find?_some e2
    exact ⟨r, rfl, List.mem_of_find?_eq_some e2, h3⟩
theorem prR_pre1 {rs ss : List Row} {x y : Int} (h : (x, y) ∈ rs.map prOf) : prR (rs ++ ss) x y = prR rs x y := by
  obtain ⟨r, e, _⟩ := find_some h
  unfold prR
  rw [List.find?_append, e] <;> rfl
theorem prR_pre2 {rs ss : List Row} {x y : Int} (h : (y, x) ∈ rs.map prOf) (n : (x, y) ∉ (rs ++ ss).map prOf) : prR (rs ++ ss) x y = prR rs x y := by
  obtain ⟨r, e, _⟩ := find_some h
  have n1 : (x, y) ∉ rs.map prOf := fun z => n (by
    rw [List.map_append]
    exact List.mem_append.mpr (.inl z))
  unfold prR
  rw [find_none n, find_none n1, List.find?_append, e] <;> rfl
theorem pairsL_sorted {n : Int} {ls : List Lnk} {os : List Int} (oo : OrdOk n os) : (pairsL ls os).Pairwise fun p q => posOf p.1 os ≤ posOf q.1 os := by
  unfold pairsL
  rw [List.pairwise_flatMap]
  constructor
  · intro u _
    rw [List.pairwise_map]
    exact List.pairwise_of_forall fun _ _ => Nat.le_refl _
  · exact (pos_sorted oo.nodup).imp fun h x hx y hy => by
      obtain ⟨_, _, rfl⟩ := List.mem_map.mp hx
      obtain ⟨_, _, rfl⟩ := List.mem_map.mp hy
      exact Nat.le_of_lt h
section
variable {N : Net} {os : List Int}
theorem before (ok : NetOk N) (oo : OrdOk N.n os) {i : Nat} {u v w z : Int} (hi : (pairsL N.ls os)[i]? = some (u, v)) (hm : (w, z) ∈ pairsL N.ls os) (hl : posOf w os < posOf u os) : (w, z) ∈ (pairsL N.ls os).take i := by
  obtain ⟨j, hj⟩ := List.mem_iff_getElem?.mp hm
  have hjl := (List.getElem?_eq_some_iff.mp hj).1
  have hil := (List.getElem?_eq_some_iff.mp hi).1
  by_cases c : j < i
  · refine List.mem_iff_getElem?.mpr ⟨j, ?_⟩
    rw [List.getElem?_take, if_pos c]
    exact hj
  · exfalso
    by_cases e : j = i
    · rw [e, hi] at hj
      cases hj
      exact Nat.lt_irrefl _ hl
    · have := List.pairwise_iff_getElem.mp (pairsL_sorted (ls := N.ls) oo) i j hil hjl (by omega)
      rw [(List.getElem?_eq_some_iff.mp hi).2, (List.getElem?_eq_some_iff.mp hj).2] at this
      have this : posOf u os ≤ posOf w os := this
      omega
theorem anti (ok : NetOk N) (oo : OrdOk N.n os) {u v : Int} (h : (u, v) ∈ pairsL N.ls os) : (v, u) ∉ pairsL N.ls os := fun h2 => by
  have h1 := ((mem_pairsL ok oo).mp h).1
  have h3 := ((mem_pairsL ok oo).mp h2).1
  omega
/-- the prices of lower pairs, told by the rows ahead -/
theorem pr_lower (ok : NetOk N) (oo : OrdOk N.n os) {rows : List Row} (hp : rows.map prOf = pairsL N.ls os) {i : Nat} {r : Row} (hi : rows[i]? = some r) {w z : Int} (hz : z = r.u ∨ z = r.v) (hw : w ∈ lowerL (pairsL N.ls os) os r.u r.v) :
    (w, z) ∈ (rows.take i).map prOf ∧ prR rows w z = prR (rows.take i) w z ∧ prR rows z w = prR (rows.take i) z w := by
  have hm := mem_lowerL.mp hw
  have hwz : (w, z) ∈ pairsL N.ls os := by
    rcases hz with rfl | rfl
    · exact hm.2.1
    · exact hm.2.2
  have hl := ((mem_pairsL ok oo).mp hm.2.1).1
  have hiL : (pairsL N.ls os)[i]? = some (r.u, r.v) := by
    rw [← hp, List.getElem?_map, hi] <;> rfl
  have hb := before ok oo hiL hwz hl
  rw [← hp, ← List.map_take] at hb
  have e : rows = rows.take i ++ rows.drop i := (List.take_append_drop i rows).symm
  refine ⟨hb, ?_, ?_⟩
  · have := prR_pre1 (ss := rows.drop i) hb
    rw [← e] at this
    exact this
  · have := prR_pre2 (ss := rows.drop i) (x := z) (y := w) hb (by
      rw [← e, hp]
      exact anti ok oo hwz)
    rw [← e] at this
    exact this
theorem mk_full (ok : NetOk N) (oo : OrdOk N.n os) {rows : List Row} (hp : rows.map prOf = pairsL N.ls os) {i : Nat} {r : Row} (hi : rows[i]? = some r) :
    mkRow N os (pairsL N.ls os) rows r.u r.v = mkRow N os (pairsL N.ls os) (rows.take i) r.u r.v := by
  unfold mkRow
  dsimp only
  rw [bestF_congr (fun w hw => by rw [(pr_lower ok oo hp hi (.inl rfl) hw).2.2, (pr_lower ok oo hp hi (.inr rfl) hw).2.1] : ∀ w ∈ lowerL (pairsL N.ls os) os r.u r.v, addO (prR rows r.u w) (prR rows w r.v) = addO (prR (rows.take i) r.u w) (prR (rows.take i) w r.v)),
    bestF_congr (fun w hw => by rw [(pr_lower ok oo hp hi (.inr rfl) hw).2.2, (pr_lower ok oo hp hi (.inl rfl) hw).2.1] : ∀ w ∈ lowerL (pairsL N.ls os) os r.u r.v, addO (prR rows r.v w) (prR rows w r.u) = addO (prR (rows.take i) r.v w) (prR (rows.take i) w r.u))]
theorem fill_iff (ok : NetOk N) (oo : OrdOk N.n os) {rows : List Row} : FillOk N os rows ↔ rows.map prOf = pairsL N.ls os ∧ ∀ (i : Nat) r, rows[i]? = some r → r = mkRow N os (pairsL N.ls os) (rows.take i) r.u r.v := by
  constructor
  · intro h
    refine ⟨h.pairs, fun i r hi => ?_⟩
    rw [← mk_full ok oo h.pairs hi]
    have hm := List.mem_of_getElem? hi
    have h1 := h.up r hm
    have h2 := h.dn r hm
    unfold mkRow
    dsimp only
    rw [← h1, ← h2]
  · rintro ⟨hp, h⟩
    have key : ∀ r ∈ rows, r = mkRow N os (pairsL N.ls os) rows r.u r.v := fun r hr => by
      obtain ⟨i, hi⟩ := List.mem_iff_getElem?.mp hr
      rw [mk_full ok oo hp hi]
      exact h i r hi
    refine ⟨hp, fun r hr => ?_, fun r hr => ?_⟩
    · have := key r hr
      have e1 := congrArg Row.up this
      have e2 := congrArg Row.um this
      exact Prod.ext e1 e2
    · have := key r hr
      have e1 := congrArg Row.dn this
      have e2 := congrArg Row.dm this
      exact Prod.ext e1 e2
end
def spWayF (K : PySem.W.Frag) : Sp := fun vs H Q _ => ∃ (dl dp pl : Addr) (x y : Int) (ls : List Lnk) (kvs : List (List L2.Key × V)) (ws : List Int) (o : Option Int) (f g : Int → Option Int), vs = [.ref dl, .ref dp, .ref pl, .int x, .int y] ∧
  LinksAt H dl ls ∧ (lkv ls x y).getD .non = oV o ∧ H dp = some (.dT kvs) ∧ SqL K H pl (ws.map V.int) ∧ ws.length ≤ 1000 ∧ (∀ w ∈ ws, valV kvs (K2 (x, w)) = some (oV (f w)) ∧ valV kvs (K2 (w, y)) = some (oV (g w))) ∧
  ∀ H' T, Same H H' → H' T = some (.tup [oV (bestF o (fun w => addO (f w) (g w)) ws).1, oV (bestF o (fun w => addO (f w) (g w)) ws).2]) → Q (.ref T) H'
theorem bs_none {s : Int → Option Int} {acc : Option Int × Option Int} {w : Int} (h : s w = none) : bestStep s acc w = acc := by
  unfold bestStep
  rw [h]
theorem bs_first {s : Int → Option Int} {m : Option Int} {w t : Int} (h : s w = some t) : bestStep s (none, m) w = (some t, some w) := by
  unfold bestStep
  rw [h]
theorem bs_next {s : Int → Option Int} {m : Option Int} {w t b : Int} (h : s w = some t) : bestStep s (some b, m) w = if t < b then (some t, some w) else (some b, m) := by
  unfold bestStep
  rw [h]
abbrev sWayF : Stmt := topS 29
theorem scWayF : FnScope ["links", "prices", "places", "x", "y", "price", "middle", "place", "first", "second"] ["links", "prices", "places", "x", "y"] (defScope sWayF) := ⟨rfl, rfl, rfl, by decide +kernel, rfl, by decide +kernel, by decide +kernel⟩
section
variable {P : Program} {w : World} {K : PySem.W.Frag} {mg : Str → Option Value} {base : Heap}
theorem ok_wayF {f : Addr} {fd : FuncData} {k : Nat} (F : Fun K "fill_way" "fill_way" sWayF f fd) : FnOk P w K mg base CX0 (k + 1) f fd ["links", "prices", "places", "x", "y"] (spWayF K) := by
  refine F.ok scWayF (fun vs H Q E h => ?_) (fun cdv A outer s H vs Q E hr h => ?_)
  · obtain ⟨dl, dp, pl, x, y, ls, kvs, ws, o, f1, g1, rfl, _⟩ := h
    rfl
  · obtain ⟨dl, dp, pl, x, y, ls, kvs, ws, o, f1, g1, rfl, hL, ho, hD, hP, hw, hk, q⟩ := h
    have hu := hu_of hr
    refine ⟨_, pss_cons (ps_set (i := 5) scWayF.nd rfl (.inl rfl) (pe_dget1 hu (pv 0) (pe_tup (pa_cons (pv 3) (pa_cons (pv 4) pa_nil))) ⟨by rfl, by rfl, by rfl, by rfl⟩))
      (pss_cons (ps_set (i := 6) scWayF.nd rfl (.inl rfl) pe_non)
      (pss_cons (ps_for PassesOwn.never rfl (pi_list (pv 2)) (pg_name (i := 7) scWayF.nd rfl (.inl rfl))
      (pss_cons (ps_par (i := 8) (j := 9) (by rfl) scWayF.nd rfl rfl (by decide) rfl rfl (pa_cons (pe_dget hu (pv 1) (pe_tup (pa_cons (pv 3) (pa_cons (pv 7) pa_nil))) (fun _ _ => rfl)) (pa_cons (pe_dget hu (pv 1) (pe_tup (pa_cons (pv 7) (pa_cons (pv 4) pa_nil))) (fun _ _ => rfl)) pa_nil)) (by rfl))
        (pss_cons (ps_if (PW.pt (pw_or (pt_cmpR op_isN (pv 8) pe_non (nomark _)) (pw_or1 (pt_cmpR op_isN (pv 9) pe_non (nomark _)))))
        (pss_one ps_continue)
        pss_nil)
        (pss_one (ps_if (PW.pt (pw_or (pt_cmpR op_isN (pv 5) pe_non (nomark _)) (pw_or1 (pt_cmpR op_lt (pe_op op_add (pv 8) (pv 9)) (pv 5) (nomark _)))))
        (pss_cons (ps_set (i := 5) scWayF.nd rfl (.inl rfl) (pe_op op_add (pv 8) (pv 9)))
          (pss_one (ps_set (i := 6) scWayF.nd rfl (.inl rfl) (pv 7))))
        pss_nil)))))
      (pss_one (ps_ret (pe_tup (pa_cons (pv 5) (pa_cons (pv 6) pa_nil))))))), ?_⟩
    obtain ⟨lkvs, eL, lL, vL⟩ := hL.ex
    refine q_dgetT (vl_var rfl) (fun _ => vl_var rfl) (fun _ => vl_var rfl) eL fun T0 nT0 => ?_
    rw [vL, ho]
    refine q_asg vl_c ?_
    have s0 : Same H (upd H T0 (.tup [.int x, .int y])) := same_upd nT0
    refine q_forL (K := K) (j := 7) (xs := ws.map V.int) (vl_var rfl) (s0.seq hP)
      (fun i σ H1 => ∃ y7 y8 y9 p m, σ = [some (.ref dl), some (.ref dp), some (.ref pl), some (.int x), some (.int y), some (oV p), some (oV m), y7, y8, y9] ∧ Same H H1 ∧ (p, m) = (ws.take i).foldl (bestStep fun w => addO (f1 w) (g1 w)) (o, none))
      ⟨none, none, none, o, none, rfl, s0, rfl⟩ (fun i σ H1 hP1 => ?_) (fun i v σ H1 hi hP1 => ?_) (fun σ H1 hP1 => ?_)
    · obtain ⟨_, _, _, _, _, _, s1, _⟩ := hP1
      exact s1.seq hP
    · obtain ⟨y7, y8, y9, p, m, rfl, s1, hf⟩ := hP1
      rw [List.getElem?_map] at hi
      cases hg : ws[i]? with
      | none =>
        rw [hg] at hi
        cases hi
      | some w0 =>
        rw [hg] at hi
        cases hi
        obtain ⟨k1, k2⟩ := hk w0 (List.mem_of_getElem? hg)
        refine ⟨.ref dp, rfl, .int x, rfl, .int w0, rfl, by show 2 ≤ sizeLine; decide, fun T nT => ?_⟩
        have s2 : Same H1 (upd H1 T (.tup [.int x, .int w0])) := same_upd nT
        have s12 := s1.trans s2
        refine ⟨dp, oV (f1 w0), rfl, by
          rw [← k1]
          exact DGet.t (k := K2 (x, w0)) (s12 _ _ hD) upd_same, .ref dp, rfl, .int w0, rfl, .int y, rfl, by show 2 ≤ sizeLine; decide, fun T2 nT2 => ?_⟩
        have s3 : Same (upd H1 T (.tup [.int x, .int w0])) (upd (upd H1 T (.tup [.int x, .int w0])) T2 (.tup [.int w0, .int y])) := same_upd nT2
        have s13 := s12.trans s3
        refine ⟨dp, oV (g1 w0), rfl, by
          rw [← k2]
          exact DGet.t (k := K2 (w0, y)) (s13 _ _ hD) upd_same, _, _, rfl, ?_⟩
        have hstep : (ws.take (i + 1)).foldl (bestStep fun w => addO (f1 w) (g1 w)) (o, none) = bestStep (fun w => addO (f1 w) (g1 w)) (p, m) w0 := by
          rw [take_snoc hg, List.foldl_append, ← hf]
          rfl
        generalize upd (upd H1 T (.tup [.int x, .int w0])) T2 (.tup [.int w0, .int y]) = H3 at s13 ⊢
        refine q_when (b := decide (oV (f1 w0) = .non) || decide (oV (g1 w0) = .non)) (an_or (an_test (vl_isN (vl_var rfl))) fun _ => an_test (vl_isN (vl_var rfl))) (fun hb => ?_) (fun hb => ?_)
        · refine ⟨_, _, _, p, m, rfl, s13, ?_⟩
          rw [oV_non, oV_non] at hb
          rw [hstep]
          refine (bs_none ?_).symm
          show addO (f1 w0) (g1 w0) = none
          cases e1 : f1 w0 with
          | none => rfl
          | some a =>
            cases e2 : g1 w0 with
            | none => rfl
            | some c =>
              rw [e1, e2] at hb
              cases hb
        · rw [oV_non, oV_non] at hb
          cases e1 : f1 w0 with
          | none =>
            rw [e1] at hb
            cases hb
          | some a =>
            cases e2 : g1 w0 with
            | none =>
              rw [e1, e2] at hb
              cases hb
            | some c =>
              have hsum : (fun w => addO (f1 w) (g1 w)) w0 = some (a + c) := by
                show addO (f1 w0) (g1 w0) = some (a + c)
                rw [e1, e2]
                rfl
              cases p with
              | none =>
                refine g_when (b := true) (an_or (k := true) (m := true) (an_test ((vl_isN (vl_var rfl)).is rfl)) fun h => by cases h) (fun _ => ?_) (fun h => by cases h)
                refine q_asg (v := .int (a + c)) (vl_I0 (vl_var rfl) (vl_var rfl)) ?_
                exact g_asg (v := .int w0) (vl_var rfl) ⟨_, _, _, some (a + c), some w0, rfl, s13, by rw [hstep, bs_first hsum]⟩
              | some b =>
                refine g_when (b := decide (a + c < b)) ((an_or (k := false) (m := decide (a + c < b)) (an_test ((vl_isN (vl_var rfl)).is rfl)) fun _ => an_test (vl_I0 (g := fun i j => .bl (decide (i < j))) (vl_I0 (vl_var rfl) (vl_var rfl)) (vl_var rfl))).is (Bool.false_or _)) (fun h => ?_) (fun h => ?_)
                · refine q_asg (v := .int (a + c)) (vl_I0 (vl_var rfl) (vl_var rfl)) ?_
                  refine g_asg (v := .int w0) (vl_var rfl) ⟨_, _, _, some (a + c), some w0, rfl, s13, ?_⟩
                  rw [hstep, bs_next hsum]
                  exact (if_pos (of_decide_eq_true h)).symm
                · refine ⟨_, _, _, some b, m, rfl, s13, ?_⟩
                  rw [hstep, bs_next hsum]
                  exact (if_neg (of_decide_eq_false h)).symm
    · obtain ⟨y7, y8, y9, p, m, rfl, s1, hf⟩ := hP1
      rw [List.length_map, List.take_length] at hf
      refine ⟨_, rfl, _, rfl, by show 2 ≤ sizeLine; decide, fun T nT => q _ T (s1.trans (same_upd nT)) ?_⟩
      unfold bestF
      rw [← hf]
      exact upd_same
end
theorem keepV {x y : Int} : ∀ (ls : List Lnk) (f : Option V), (∀ m ∈ ls, ¬ (x = m.b ∧ y = m.a) ∧ ¬ (x = m.a ∧ y = m.b)) → ls.foldl (lkS x y) f = f
  | [], f, _ => rfl
  | l :: ls, f, h => by
    have hl := h l List.mem_cons_self
    rw [List.foldl_cons, show lkS x y f l = f by
      unfold lkS
      rw [if_neg hl.1, if_neg hl.2]]
    exact keepV ls f fun m hm => h m (List.mem_cons_of_mem _ hm)
theorem lkv_fold {x y : Int} : ∀ (ls : List Lnk), ls.Pairwise LnkLt → (∀ m ∈ ls, m.a < m.b) → (ls.foldl (lkS x y) none).getD .non = oV (linkW ls x y)
  | [], _, _ => rfl
  | l :: ls, hp, ha => by
    have hp := List.pairwise_cons.mp hp
    have hl := ha l List.mem_cons_self
    have far : (x = l.b ∧ y = l.a) ∨ (x = l.a ∧ y = l.b) → ∀ m ∈ ls, ¬ (x = m.b ∧ y = m.a) ∧ ¬ (x = m.a ∧ y = m.b) := fun h m hm => by
      have h1 := hp.1 m hm
      have h2 := ha m (List.mem_cons_of_mem _ hm)
      unfold LnkLt at h1
      omega
    rw [List.foldl_cons]
    unfold linkW
    by_cases c1 : l.a = x ∧ l.b = y
    · rw [if_pos c1, show lkS x y none l = some (oV l.t) by
        unfold lkS
        rw [if_neg (by omega), if_pos ⟨c1.1.symm, c1.2.symm⟩], keepV ls _ (far (.inr ⟨c1.1.symm, c1.2.symm⟩))]
      rfl
    · rw [if_neg c1]
      by_cases c2 : l.b = x ∧ l.a = y
      · rw [if_pos c2, show lkS x y none l = some (oV l.k) by
          unfold lkS
          rw [if_pos ⟨c2.1.symm, c2.2.symm⟩], keepV ls _ (far (.inl ⟨c2.1.symm, c2.2.symm⟩))]
        rfl
      · rw [if_neg c2, show lkS x y none l = none by
          unfold lkS
          rw [if_neg (fun z => c2 ⟨z.1.symm, z.2.symm⟩), if_neg (fun z => c1 ⟨z.1.symm, z.2.symm⟩)]]
        exact lkv_fold ls hp.2 fun m hm => ha m (List.mem_cons_of_mem _ hm)
theorem lkv_linkW {N : Net} (ok : NetOk N) (x y : Int) : (lkv N.ls x y).getD .non = oV (linkW N.ls x y) := lkv_fold N.ls ok.lt fun m hm => (ok.ok m hm).ab
def spRowF (K : PySem.W.Frag) : Sp := fun vs H Q _ => ∃ (dl dp dw pl : Addr) (u v : Int) (ls : List Lnk) (kvs kvw : List (List L2.Key × V)) (ws : List Int) (pr lk : Int → Int → Option Int), vs = [.ref dl, .ref dp, .ref dw, .int u, .int v] ∧
  LinksAt H dl ls ∧ (∀ x y, (lkv ls x y).getD .non = oV (lk x y)) ∧ H dp = some (.dT kvs) ∧ H dw = some (.dT kvw) ∧ valV kvw (K2 (u, v)) = some (.ref pl) ∧ SqL K H pl (ws.map V.int) ∧ ws.length ≤ 1000 ∧
  (∀ w ∈ ws, ∀ z, (z = u ∨ z = v) → valV kvs (K2 (z, w)) = some (oV (pr z w)) ∧ valV kvs (K2 (w, z)) = some (oV (pr w z))) ∧
  ∀ H' T, Same H H' → H T = none → H' T = some (.tup (rowV ⟨u, v, (bestF (lk u v) (fun w => addO (pr u w) (pr w v)) ws).1, (bestF (lk v u) (fun w => addO (pr v w) (pr w u)) ws).1, (bestF (lk u v) (fun w => addO (pr u w) (pr w v)) ws).2, (bestF (lk v u) (fun w => addO (pr v w) (pr w u)) ws).2⟩)) → Q (.ref T) H'
abbrev sRowF : Stmt := topS 31
theorem scRowF : FnScope ["links", "prices", "lower", "low", "high", "places", "up", "up_middle", "down", "down_middle"] ["links", "prices", "lower", "low", "high"] (defScope sRowF) := ⟨rfl, rfl, rfl, by decide +kernel, rfl, by decide +kernel, by decide +kernel⟩
section
variable {P : Program} {w : World} {K : PySem.W.Frag} {mg : Str → Option Value} {base : Heap}
theorem ok_rowF {f : Addr} {fd : FuncData} {k : Nat} (F : Fun K "_row" "_row" sRowF f fd) (c_fill_way : Kal P w K mg base k "fill_way" ["links", "prices", "places", "x", "y"] (spWayF K)) : FnOk P w K mg base CX0 (k + 1) f fd ["links", "prices", "lower", "low", "high"] (spRowF K) := by
  refine F.ok scRowF (fun vs H Q E h => ?_) (fun cdv A outer s H vs Q E hr h => ?_)
  · obtain ⟨dl, dp, dw, pl, u, v, ls, kvs, kvw, ws, pr, lk, rfl, _⟩ := h
    rfl
  · obtain ⟨dl, dp, dw, pl, u, v, ls, kvs, kvw, ws, pr, lk, rfl, hL, hlk, hD, hW, hpl, hP, hw, hk, q⟩ := h
    have hu := hu_of hr
    refine ⟨_, pss_cons (ps_set (i := 5) scRowF.nd rfl (.inl rfl) (pe_dget hu (pv 2) (pe_tup (pa_cons (pv 3) (pa_cons (pv 4) pa_nil))) (fun _ _ => rfl)))
      (pss_cons (ps_asg (pe_k c_fill_way hr (by first | decide | omega) (by rfl) (pa_cons (pv 0) (pa_cons (pv 1) (pa_cons (pv 5) (pa_cons (pv 3) (pa_cons (pv 4) pa_nil)))))) (pg_tup rfl (pgs_cons (pg_name (i := 6) scRowF.nd rfl (.inl rfl)) (pgs_cons (pg_name (i := 7) scRowF.nd rfl (.inl rfl)) pgs_nil))))
      (pss_cons (ps_asg (pe_k c_fill_way hr (by first | decide | omega) (by rfl) (pa_cons (pv 0) (pa_cons (pv 1) (pa_cons (pv 5) (pa_cons (pv 4) (pa_cons (pv 3) pa_nil)))))) (pg_tup rfl (pgs_cons (pg_name (i := 8) scRowF.nd rfl (.inl rfl)) (pgs_cons (pg_name (i := 9) scRowF.nd rfl (.inl rfl)) pgs_nil))))
      (pss_one (ps_ret (pe_tup (pa_cons (pv 3) (pa_cons (pv 4) (pa_cons (pv 6) (pa_cons (pv 8) (pa_cons (pv 7) (pa_cons (pv 9) pa_nil))))))))))), ?_⟩
    refine q_asgE ⟨.ref dw, rfl, .int u, rfl, .int v, rfl, by show 2 ≤ sizeLine; decide, fun T0 nT0 => ?_⟩
    have s0 : Same H (upd H T0 (.tup [.int u, .int v])) := same_upd nT0
    refine ⟨dw, .ref pl, rfl, by
      rw [← hpl]
      exact DGet.t (k := K2 (u, v)) (s0 _ _ hW) upd_same, ?_⟩
    generalize upd H T0 (.tup [.int u, .int v]) = H0 at s0 ⊢
    refine ⟨.ref dl, rfl, .ref dp, rfl, .ref pl, rfl, .int u, rfl, .int v, rfl, dl, dp, pl, u, v, ls, kvs, ws, lk u v, fun w => pr u w, fun w => pr w v, rfl, hL.to s0, hlk u v, s0 _ _ hD, s0.seq hP, hw, fun w hw2 => ⟨(hk w hw2 u (.inl rfl)).1, (hk w hw2 v (.inr rfl)).2⟩, fun H1 T1 s1 e1 => ?_⟩
    refine ⟨T1, _, rfl, .of e1, rfl, _, _, rfl, _, _, rfl, rfl, ?_⟩
    have s01 := s0.trans s1
    refine ⟨.ref dl, rfl, .ref dp, rfl, .ref pl, rfl, .int v, rfl, .int u, rfl, dl, dp, pl, v, u, ls, kvs, ws, lk v u, fun w => pr v w, fun w => pr w u, rfl, hL.to s01, hlk v u, s01 _ _ hD, s01.seq hP, hw, fun w hw2 => ⟨(hk w hw2 v (.inr rfl)).1, (hk w hw2 u (.inl rfl)).2⟩, fun H2 T2 s2 e2 => ?_⟩
    refine ⟨T2, _, rfl, .of e2, rfl, _, _, rfl, _, _, rfl, rfl, ?_⟩
    refine ⟨_, rfl, _, rfl, _, rfl, _, rfl, _, rfl, _, rfl, by show 6 ≤ sizeLine; decide, fun T nT => q _ T ((s01.trans s2).trans (same_upd nT)) (Same.free (s01.trans s2) nT) upd_same⟩
end
theorem prR_newU {rs : List Row} {r : Row} (h : (r.u, r.v) ∉ rs.map prOf) : prR (rs ++ [r]) r.u r.v = r.up := by
  unfold prR
  rw [List.find?_append, find_none h, Option.none_or, List.find?_cons, decide_eq_true (show r.u = r.u ∧ r.v = r.v from ⟨rfl, rfl⟩)]
theorem prR_newD {rs : List Row} {r : Row} (h : (r.u, r.v) ∉ rs.map prOf) (h2 : (r.v, r.u) ∉ (rs ++ [r]).map prOf) : prR (rs ++ [r]) r.v r.u = r.dn := by
  unfold prR
  rw [find_none h2]
  rw [List.find?_append, find_none h, Option.none_or, List.find?_cons, decide_eq_true (show r.u = r.u ∧ r.v = r.v from ⟨rfl, rfl⟩)]
/-- the dict of prices, told by the rows -/
structure PrAt (kvs : List (List L2.Key × V)) (rs : List Row) : Prop where
  len : kvs.length ≤ 2 * rs.length
  at_ : ∀ x y : Int, ((x, y) ∈ rs.map prOf ∨ (y, x) ∈ rs.map prOf) → valV kvs (K2 (x, y)) = some (oV (prR rs x y))
theorem PrAt.nil : PrAt [] [] := ⟨Nat.le_refl _, fun x y h => by rcases h with h | h <;> cases h⟩
theorem PrAt.step {N : Net} {os : List Int} {kvs : List (List L2.Key × V)} {rs : List Row} {r : Row} {i : Nat} (ok : NetOk N) (oo : OrdOk N.n os) (h : PrAt kvs rs) (hp : rs.map prOf = (pairsL N.ls os).take i) (hi : (pairsL N.ls os)[i]? = some (r.u, r.v)) :
    PrAt (putK (putK kvs (K2 (r.u, r.v)) (oV r.up)) (K2 (r.v, r.u)) (oV r.dn)) (rs ++ [r]) := by
  have hLn := pairsL_nodup (ls := N.ls) oo
  have hmL : (r.u, r.v) ∈ pairsL N.ls os := List.mem_of_getElem? hi
  have hnew : (r.u, r.v) ∉ rs.map prOf := fun hh => by
    rw [hp] at hh
    obtain ⟨k, hk⟩ := List.mem_iff_getElem?.mp hh
    have hlt := (List.getElem?_eq_some_iff.mp hk).1
    rw [List.length_take] at hlt
    rw [List.getElem?_take, if_pos (by omega), ← hi] at hk
    have := (List.getElem?_inj (by omega) hLn).mp hk
    omega
  have hall : ∀ p ∈ (rs ++ [r]).map prOf, p ∈ pairsL N.ls os := fun p hpm => by
    rw [List.map_append] at hpm
    rcases List.mem_append.mp hpm with e | e
    · rw [hp] at e
      exact List.mem_of_mem_take e
    · rw [List.mem_singleton.mp e]
      exact hmL
  have hD : (r.v, r.u) ∉ (rs ++ [r]).map prOf := fun hh => anti ok oo hmL (hall _ hh)
  refine ⟨?_, fun x y hxy => ?_⟩
  · have h1 := put_len (kvs := putK kvs (K2 (r.u, r.v)) (oV r.up)) (k := K2 (r.v, r.u)) (v := oV r.dn)
    have h2 := put_len (kvs := kvs) (k := K2 (r.u, r.v)) (v := oV r.up)
    have h3 := h.len
    rw [List.length_append]
    show _ ≤ 2 * (_ + 1)
    omega
  · rw [valV_put, valV_put]
    by_cases c1 : (x, y) = (r.v, r.u)
    · cases c1
      rw [if_pos rfl, prR_newD hnew hD]
    · rw [if_neg (fun z => c1 (K2_inj z))]
      by_cases c2 : (x, y) = (r.u, r.v)
      · cases c2
        rw [if_pos rfl, prR_newU hnew]
      · rw [if_neg (fun z => c2 (K2_inj z))]
        have old : (x, y) ∈ rs.map prOf ∨ (y, x) ∈ rs.map prOf := by
          rw [List.map_append] at hxy
          rcases hxy with e | e
          · rcases List.mem_append.mp e with e | e
            · exact .inl e
            · exact absurd (List.mem_singleton.mp e) c2
          · rcases List.mem_append.mp e with e | e
            · exact .inr e
            · have e := List.mem_singleton.mp e
              exact absurd (by
                have e1 := congrArg Prod.fst e
                have e2 := congrArg Prod.snd e
                exact Prod.ext e2 e1) c1
        rw [h.at_ x y old]
        rcases old with e | e
        · rw [prR_pre1 e]
        · rw [prR_pre2 e fun hh => anti ok oo (hall _ (by
            rw [List.map_append]
            exact List.mem_append.mpr (.inl e))) (hall _ hh)]
/-- the rows in the heap -/
structure RowsT (H : Hp) (tr : List V) (rs : List Row) : Prop where
  len : tr.length = rs.length
  at_ : ∀ (k : Nat) r, rs[k]? = some r → ∃ t, tr[k]? = some (.ref t) ∧ H t = some (.tup (rowV r))
theorem RowsT.to {H H' : Hp} {tr : List V} {rs : List Row} (h : RowsT H tr rs) (s : Same H H') : RowsT H' tr rs := ⟨h.len, fun k r e => let ⟨t, e1, e2⟩ := h.at_ k r e; ⟨t, e1, s _ _ e2⟩⟩
theorem RowsT.dp {K : PySem.W.Frag} {H : Hp} : ∀ {tr : List V} {rs : List Row}, RowsT H tr rs → DpAll K H tr (rs.map rowD)
  | [], [], _ => .nil
  | [], _ :: _, h => absurd h.len (by simp)
  | _ :: _, [], h => absurd h.len (by simp)
  | x :: tr, r :: rs, h => by
    obtain ⟨t, e1, e2⟩ := h.at_ 0 r rfl
    cases Option.some.inj e1
    exact .cons (.tup (.of e2) (.cons (.int _) (.cons (.int _) (.cons (Dp.o _) (.cons (Dp.o _) (.cons (Dp.o _) (.cons (Dp.o _) .nil))))))) (RowsT.dp ⟨Nat.succ.inj h.len, fun k r e => h.at_ (k + 1) r e⟩)
theorem LowD.get {H H' : Hp} {d : Addr} {kvs : List (List L2.Key × V)} {L : List (Int × Int)} {os : List Int} (h : LowD H H' d kvs L os) {u v : Int} (hm : (u, v) ∈ L) : ∃ a, valV kvs (K2 (u, v)) = some (.ref a) ∧ H' a = some (.lst ((lowerL L os u v).map V.int)) := by
  obtain ⟨y, hy⟩ := h.has u v hm
  unfold valV at hy
  cases e : kvs.find? fun kv => decide (kv.1 = [Sum.inl u, Sum.inl v]) with
  | none =>
    rw [e] at hy
    cases hy
  | some p =>
    have e1 := List.mem_of_find?_eq_some e
    have e2 : p.1 = [Sum.inl u, Sum.inl v] := by simpa using List.find?_some e
    obtain ⟨u', v', a, hm', rfl, _, ha⟩ := h.all p e1
    have e3 := key2.mp e2
    obtain ⟨rfl, rfl⟩ := e3
    refine ⟨a, ?_, ha⟩
    show (kvs.find? fun kv => decide (kv.1 = [Sum.inl u', Sum.inl v'])).map (·.2) = _
    rw [e] <;> rfl
/-- what the row of a pair wants, from the rows ahead -/
theorem row_wants {N : Net} {os : List Int} {kvs : List (List L2.Key × V)} {rs : List Row} {i : Nat} {u v : Int} (ok : NetOk N) (oo : OrdOk N.n os) (h : PrAt kvs rs) (hp : rs.map prOf = (pairsL N.ls os).take i) (hi : (pairsL N.ls os)[i]? = some (u, v)) :
    ∀ w ∈ lowerL (pairsL N.ls os) os u v, ∀ z, (z = u ∨ z = v) → valV kvs (K2 (z, w)) = some (oV (prR rs z w)) ∧ valV kvs (K2 (w, z)) = some (oV (prR rs w z)) := fun w hw z hz => by
  have hm := mem_lowerL.mp hw
  have hl := ((mem_pairsL ok oo).mp hm.2.1).1
  have hwz : (w, z) ∈ pairsL N.ls os := by
    rcases hz with rfl | rfl
    · exact hm.2.1
    · exact hm.2.2
  have hb := before ok oo hi hwz hl
  rw [← hp] at hb
  exact ⟨h.at_ z w (.inr hb), h.at_ w z (.inl hb)⟩
abbrev sFill : Stmt := topS 28
theorem scFill : FnScope ["net", "order", "found", "lower", "links", "prices", "rows", "low", "high", "row"] ["net", "order"] (defScope sFill) := ⟨rfl, rfl, rfl, by decide +kernel, rfl, by decide +kernel, by decide +kernel⟩
section
variable {P : Program} {w : World} {K : PySem.W.Frag} {mg : Str → Option Value} {base : Heap}
theorem ok_fill {f : Addr} {fd : FuncData} {k k1 k2 k3 k4 : Nat} (h1 : k1 ≤ k) (h2 : k2 ≤ k) (h3 : k3 ≤ k) (h4 : k4 ≤ k) (F : Fun K "fill" "fill" sFill f fd) (c_pairs : Kal P w K mg base k1 "pairs" ["net", "order"] (spPairs K)) (c_lower_by_pair : Kal P w K mg base k2 "_lower_by_pair" ["found", "order"] (spLowBy K))
    (c_link_ways : Kal P w K mg base k3 "link_ways" ["net"] (spLinkWays K)) (c_row : Kal P w K mg base k4 "_row" ["links", "prices", "lower", "low", "high"] (spRowF K)) : FnOk P w K mg base CX0 (k + 1) f fd ["net", "order"] (spFill K) := by
  refine F.ok scFill (fun vs H Q E h => ?_) (fun cdv A outer s H vs Q E hr h => ?_)
  · obtain ⟨v, N, p, os, rfl, _⟩ := h
    rfl
  · obtain ⟨v, N, p, os, rfl, hN, okN, hS, oo, q⟩ := h
    have hu := hu_of hr
    refine ⟨_, pss_cons (ps_set (i := 2) scFill.nd rfl (.inl rfl) (pe_k c_pairs hr (by first | decide | omega) (by rfl) (pa_cons (pv 0) (pa_cons (pv 1) pa_nil))))
      (pss_cons (ps_set (i := 3) scFill.nd rfl (.inl rfl) (pe_k c_lower_by_pair hr (by first | decide | omega) (by rfl) (pa_cons (pv 2) (pa_cons (pv 1) pa_nil))))
      (pss_cons (ps_set (i := 4) scFill.nd rfl (.inl rfl) (pe_k c_link_ways hr (by first | decide | omega) (by rfl) (pa_cons (pv 0) pa_nil)))
      (pss_cons (ps_set (i := 5) scFill.nd rfl (.inl rfl) pe_dnewT)
      (pss_cons (ps_set (i := 6) scFill.nd rfl (.inl rfl) (pe_lst pa_nil))
      (pss_cons (ps_for PassesOwn.never rfl (pi_list (pv 2)) (pg_tup rfl (pgs_cons (pg_name (i := 7) scFill.nd rfl (.inl rfl)) (pgs_cons (pg_name (i := 8) scFill.nd rfl (.inl rfl)) pgs_nil)))
      (pss_cons (ps_set (i := 9) scFill.nd rfl (.inl rfl) (pe_k c_row hr (by first | decide | omega) (by rfl) (pa_cons (pv 4) (pa_cons (pv 5) (pa_cons (pv 3) (pa_cons (pv 7) (pa_cons (pv 8) pa_nil)))))))
        (pss_cons (ps_dput hu (pv 5) (pe_tup (pa_cons (pv 7) (pa_cons (pv 8) pa_nil))) (pe_ix ix_tup (pv 9) pe_int (fun _ _ => rfl)) rfl)
        (pss_cons (ps_dput hu (pv 5) (pe_tup (pa_cons (pv 8) (pa_cons (pv 7) pa_nil))) (pe_ix ix_tup (pv 9) pe_int (fun _ _ => rfl)) rfl)
        (pss_one (ps_expr (pe_bm PySem.F.plainAttrs_list PySem.F.slot_list_append PySem.F.type_list_append mt_append (pv 6) (pa_cons (pv 9) pa_nil))))))))
      (pss_one (ps_ret (pv 6)))))))), ?_⟩
    have l16 := okN.len
    have hLl := pairsL_len okN oo
    refine q_asgE ⟨v, rfl, .ref p, rfl, v, N, p, os, rfl, hN, okN, hS, oo, fun H1 fp ts s1 nfp efp hT => ?_⟩
    refine q_asgE ⟨.ref fp, rfl, .ref p, rfl, fp, p, ts, N, os, rfl, .of efp, hT, s1.seq hS, okN, oo, fun H2 d kvw s2 nd hLow => ?_⟩
    have s12 := s1.trans s2
    refine q_asgE ⟨v, rfl, v, N, rfl, Dp.to hN s12, by omega, fun H3 dl s3 ndl hLk => ?_⟩
    have s13 := s12.trans s3
    refine q_dnewT fun dp ndp => ?_
    refine q_lnew fun ro nro => ?_
    have s4 : Same H3 (upd H3 dp (.dT [])) := same_upd ndp
    have s5 : Same (upd H3 dp (.dT [])) (upd (upd H3 dp (.dT [])) ro (.lst [])) := same_upd nro
    have hrd : ro ≠ dp := fun z => by
      rw [z, upd_same] at nro
      cases nro
    have nro3 : H3 ro = none := Same.free s4 nro
    have hT3 := hT.to (s2.trans s3)
    have efp3 := (s2.trans s3) _ _ efp
    refine q_forP (vl_var rfl) (.of ((s4.trans s5) _ _ efp3)) hT.len
      (fun i σ H4 => ∃ y7 y8 y9 kvs rs tr, σ = [some v, some (.ref p), some (.ref fp), some (.ref d), some (.ref dl), some (.ref dp), some (.ref ro), y7, y8, y9] ∧ Same H3 H4 ∧ H4 dp = some (.dT kvs) ∧ H4 ro = some (.lst tr) ∧ RowsT H4 tr rs ∧ PrAt kvs rs ∧ rs.map prOf = (pairsL N.ls os).take i ∧
        ∀ (k : Nat) r, rs[k]? = some r → r = mkRow N os (pairsL N.ls os) (rs.take k) r.u r.v)
      ⟨none, none, none, [], [], [], rfl, s4.trans s5, by rw [upd_ne (fun z => hrd z.symm)]; exact upd_same, upd_same, ⟨rfl, fun k r e => by simp at e⟩, PrAt.nil, by simp, fun k r e => by simp at e⟩ (fun i σ H4 hP => ?_) (fun i u v0 t σ H4 hi ht hP => ?_) (fun σ H4 hP => ?_)
    · obtain ⟨_, _, _, _, _, _, _, s6, _⟩ := hP
      exact ⟨.of (s6 _ _ efp3), hT3.to s6⟩
    · obtain ⟨y7, y8, y9, kvs, rs, tr, rfl, s6, edp, ero, hR, hPr, hpm, hmk⟩ := hP
      have hm : (u, v0) ∈ pairsL N.ls os := List.mem_of_getElem? hi
      have hil := (List.getElem?_eq_some_iff.mp hi).1
      obtain ⟨pl, hv, hpl⟩ := hLow.get hm
      have hrl : rs.length = i := by
        have := congrArg List.length hpm
        rw [List.length_map, List.length_take] at this
        omega
      refine q_asgE ⟨.ref dl, rfl, .ref dp, rfl, .ref d, rfl, .int u, rfl, .int v0, rfl, dl, dp, d, pl, u, v0, N.ls, kvs, kvw, lowerL (pairsL N.ls os) os u v0, prR rs, linkW N.ls, rfl, hLk.to s6, lkv_linkW okN, edp, s6 _ _ (s3 _ _ hLow.d), hv, .of (s6 _ _ (s3 _ _ hpl)), ?_, row_wants okN oo hPr hpm hi, fun H5 T s7 nT eT => ?_⟩
      · have e1 : (lowerL (pairsL N.ls os) os u v0).length ≤ os.length := List.length_filter_le _ _
        have := oo.len
        have := okN.n40
        omega
      · have hreq : mkRow N os (pairsL N.ls os) rs u v0 = ⟨u, v0, (bestF (linkW N.ls u v0) (fun w => addO (prR rs u w) (prR rs w v0)) (lowerL (pairsL N.ls os) os u v0)).1, (bestF (linkW N.ls v0 u) (fun w => addO (prR rs v0 w) (prR rs w u)) (lowerL (pairsL N.ls os) os u v0)).1, (bestF (linkW N.ls u v0) (fun w => addO (prR rs u w) (prR rs w v0)) (lowerL (pairsL N.ls os) os u v0)).2, (bestF (linkW N.ls v0 u) (fun w => addO (prR rs v0 w) (prR rs w u)) (lowerL (pairsL N.ls os) os u v0)).2⟩ := rfl
        rw [← hreq] at eT
        have ru : (mkRow N os (pairsL N.ls os) rs u v0).u = u := rfl
        have rv : (mkRow N os (pairsL N.ls os) rs u v0).v = v0 := rfl
        generalize hrr : mkRow N os (pairsL N.ls os) rs u v0 = r at eT ru rv
        have s67 := s6.trans s7
        have hstep := hPr.step (r := r) okN oo hpm (by rw [ru, rv]; exact hi)
        rw [ru, rv] at hstep
        refine q_dputK (v := oV r.up) (y1 := u) (y2 := v0) (vl_ixT (K := K) (vl_var rfl) vl_c (.of eT) (atI_nat (j := 2) rfl)) (vl_var rfl) (vl_var rfl) (vl_var rfl) (s7 _ _ edp) ?_ fun T1 nT1 oT1 => ?_
        · have := hPr.len
          exact Nat.lt_of_le_of_lt (m := 10000) (by omega) (by decide)
        have s8 : Same H5 (upd H5 T1 (.tup [.int u, .int v0])) := same_upd nT1
        have hT_dp : T ≠ dp := fun z => by
          rw [z, s7 _ _ edp] at eT
          cases eT
        have eT8 : upd (upd H5 T1 (.tup [.int u, .int v0])) dp (.dT (putK kvs [.inl u, .inl v0] (oV r.up))) T = some (.tup (rowV r)) := by
          rw [upd_ne hT_dp]
          exact s8 _ _ eT
        have b8 : Same (but H5 dp) (but (upd (upd H5 T1 (.tup [.int u, .int v0])) dp (.dT (putK kvs [.inl u, .inl v0] (oV r.up)))) dp) := by
          rw [but_upd]
          exact but_mono s8
        have g8 : Same H3 (upd (upd H5 T1 (.tup [.int u, .int v0])) dp (.dT (putK kvs [.inl u, .inl v0] (oV r.up)))) := same_upd' (s67.trans s8) ndp
        have e8 : upd (upd H5 T1 (.tup [.int u, .int v0])) dp (.dT (putK kvs [.inl u, .inl v0] (oV r.up))) dp = some (.dT (putK kvs [.inl u, .inl v0] (oV r.up))) := upd_same
        generalize upd (upd H5 T1 (.tup [.int u, .int v0])) dp (.dT (putK kvs [.inl u, .inl v0] (oV r.up))) = H8 at eT8 b8 g8 e8 ⊢
        refine q_dputK (v := oV r.dn) (y1 := v0) (y2 := u) (vl_ixT (K := K) (vl_var rfl) vl_c (.of eT8) (atI_nat (j := 3) rfl)) (vl_var rfl) (vl_var rfl) (vl_var rfl) e8 ?_ fun T2 nT2 oT2 => ?_
        · have h1 := hPr.len
          have h2 := put_len (kvs := kvs) (k := [Sum.inl u, Sum.inl v0]) (v := oV r.up)
          exact Nat.lt_of_le_of_lt (m := 10000) (by omega) (by decide)
        have s9 : Same H8 (upd H8 T2 (.tup [.int v0, .int u])) := same_upd nT2
        have eT9 : upd (upd H8 T2 (.tup [.int v0, .int u])) dp (.dT (putK (putK kvs [.inl u, .inl v0] (oV r.up)) [.inl v0, .inl u] (oV r.dn))) T = some (.tup (rowV r)) := by
          rw [upd_ne hT_dp]
          exact s9 _ _ eT8
        have b9 : Same (but H5 dp) (but (upd (upd H8 T2 (.tup [.int v0, .int u])) dp (.dT (putK (putK kvs [.inl u, .inl v0] (oV r.up)) [.inl v0, .inl u] (oV r.dn)))) dp) := by
          rw [but_upd]
          exact b8.trans (but_mono s9)
        have g9 : Same H3 (upd (upd H8 T2 (.tup [.int v0, .int u])) dp (.dT (putK (putK kvs [.inl u, .inl v0] (oV r.up)) [.inl v0, .inl u] (oV r.dn)))) := same_upd' (g8.trans s9) ndp
        have e9 : upd (upd H8 T2 (.tup [.int v0, .int u])) dp (.dT (putK (putK kvs [.inl u, .inl v0] (oV r.up)) [.inl v0, .inl u] (oV r.dn))) dp = some (.dT (putK (putK kvs [.inl u, .inl v0] (oV r.up)) [.inl v0, .inl u] (oV r.dn))) := upd_same
        generalize upd (upd H8 T2 (.tup [.int v0, .int u])) dp (.dT (putK (putK kvs [.inl u, .inl v0] (oV r.up)) [.inl v0, .inl u] (oV r.dn))) = H9 at eT9 b9 g9 e9 ⊢
        have keep : ∀ a x, a ≠ dp → H5 a = some x → H9 a = some x := fun a x hne hx => but_same _ _ (b9 _ _ (by rw [but_ne hne]; exact hx))
        have ero9 := keep ro _ hrd (s7 _ _ ero)
        have hTro : T ≠ ro := fun z => by
          rw [z, ero9] at eT9
          cases eT9
        refine g_app (v := .ref T) (vl_var rfl) ero9 (vl_var rfl) ?_ ⟨_, _, _, _, rs ++ [r], tr ++ [.ref T], rfl, same_upd' g9 nro3, ?_, upd_same, ⟨?_, fun k r' hk => ?_⟩, hstep, ?_, fun k r' hk => ?_⟩
        · rw [hR.len, hrl]
          exact Nat.lt_of_le_of_lt (m := 10000) (by omega) (by decide)
        · rw [upd_ne (fun z => hrd z.symm)]
          exact e9
        · rw [List.length_append, List.length_append, hR.len]
          rfl
        · by_cases hkl : k < rs.length
          · rw [List.getElem?_append_left hkl] at hk
            obtain ⟨t', z1, z2⟩ := hR.at_ k r' hk
            refine ⟨t', by rw [List.getElem?_append_left (by rw [hR.len]; exact hkl)]; exact z1, ?_⟩
            have zdp : t' ≠ dp := fun z => by
              rw [z, edp] at z2
              cases z2
            have zro : t' ≠ ro := fun z => by
              rw [z, ero] at z2
              cases z2
            rw [upd_ne zro]
            exact keep t' _ zdp (s7 _ _ z2)
          · rw [List.getElem?_append_right (by omega)] at hk
            have e0 : k - rs.length = 0 := by
              have := (List.getElem?_eq_some_iff.mp hk).1
              simp at this
              exact this
            rw [e0] at hk
            cases hk
            refine ⟨T, ?_, ?_⟩
            · rw [List.getElem?_append_right (by rw [hR.len]; omega), hR.len, e0]
              rfl
            · rw [upd_ne hTro]
              exact eT9
        · rw [List.map_append, hpm, take_snoc hi]
          show _ ++ [(r.u, r.v)] = _
          rw [ru, rv]
        · by_cases hkl : k < rs.length
          · rw [List.getElem?_append_left hkl] at hk
            rw [List.take_append_of_le_length (by omega)]
            exact hmk k r' hk
          · rw [List.getElem?_append_right (by omega)] at hk
            have e0 : k - rs.length = 0 := by
              have := (List.getElem?_eq_some_iff.mp hk).1
              simp at this
              exact this
            rw [e0] at hk
            cases hk
            have ek : k = rs.length := by omega
            rw [ek, List.take_left', ru, rv]
            · exact hrr.symm
            · rfl
    · obtain ⟨y7, y8, y9, kvs, rs, tr, rfl, s6, edp, ero, hR, hPr, hpm, hmk⟩ := hP
      rw [List.take_length] at hpm
      exact g_ret (vl_var rfl) (q H4 ro tr rs (s13.trans s6) (Same.free s13 nro3) ero hR.dp ((fill_iff okN oo).mpr ⟨hpm, hmk⟩))
end
theorem Dp.row_inv {K : PySem.W.Frag} {H : Hp} {v : V} {r : Row} (h : Dp K H v (rowD r)) : ∃ a, v = .ref a ∧ SqT K H a (rowV r) := by
  obtain ⟨a, xs, rfl, hs, ha⟩ := Dp.tup_inv h
  cases ha with
  | cons h1 r1 =>
    cases r1 with
    | cons h2 r2 =>
      cases r2 with
      | cons h3 r3 =>
        cases r3 with
        | cons h4 r4 =>
          cases r4 with
          | cons h5 r5 =>
            cases r5 with
            | cons h6 r6 =>
              cases r6
              rw [Dp.int_inv h1, Dp.int_inv h2, Dp.o_inv h3, Dp.o_inv h4, Dp.o_inv h5, Dp.o_inv h6] at hs
              exact ⟨a, rfl, hs⟩
theorem Dp.row {K : PySem.W.Frag} {H : Hp} {a : Addr} {r : Row} (h : SqT K H a (rowV r)) : Dp K H (.ref a) (rowD r) :=
  .tup h (.cons (.int _) (.cons (.int _) (.cons (Dp.o _) (.cons (Dp.o _) (.cons (Dp.o _) (.cons (Dp.o _) .nil))))))
theorem eqvAll_prs : ∀ L M : List (Int × Int), PyData.eqvAll (L.map pairD2) (M.map pairD2) = decide (L = M)
  | [], [] => rfl
  | [], _ :: _ => rfl
  | _ :: _, [] => rfl
  | (a, b) :: L, (c, d) :: M => by
    show (((a == c) && ((b == d) && true)) && PyData.eqvAll (L.map pairD2) (M.map pairD2)) = _
    rw [eqvAll_prs L M, Bool.and_true, Bool.eq_iff_iff, Bool.and_eq_true, Bool.and_eq_true, beq_iff_eq, beq_iff_eq, decide_eq_true_eq, decide_eq_true_eq]
    constructor
    · rintro ⟨⟨rfl, rfl⟩, rfl⟩
      rfl
    · intro h
      cases h
      exact ⟨⟨rfl, rfl⟩, rfl⟩
theorem lay_prs : ∀ L : List (Int × Int), PyData.canLayAll0 (L.map pairD2) = true ∧ PyData.depthAll (L.map pairD2) ≤ 1
  | [] => ⟨rfl, Nat.zero_le _⟩
  | p :: L => by
    have ih := lay_prs L
    constructor
    · show (((true && (true && true))) && PyData.canLayAll0 (L.map pairD2)) = true
      rw [ih.1]
      rfl
    · show max (max 0 (max 0 0) + 1) (PyData.depthAll (L.map pairD2)) ≤ 1
      have := ih.2
      omega
theorem shaped_prs (L : List (Int × Int)) : SeqAt.shaped (.list (L.map pairD2)) = true := by
  have h := lay_prs L
  show (PyData.canLayAll0 (L.map pairD2) && decide (PyData.depthAll (L.map pairD2) + 1 ≤ 64)) = true
  rw [h.1, decide_eq_true (by
    have := h.2
    omega)]
  rfl
theorem shaped_row (r : Row) : SeqAt.shaped (rowD r) = true := by
  have h := lay_row r
  show ((rowD r).canLay0 && decide ((rowD r).depth ≤ 64)) = true
  rw [h.1, h.2]
  rfl
theorem eqv_row (r s : Row) : PyData.eqv (rowD r) (rowD s) = true ↔ r = s := by
  show ((r.u == s.u) && ((r.v == s.v) && (PyData.eqv (oD r.up) (oD s.up) && (PyData.eqv (oD r.dn) (oD s.dn) && (PyData.eqv (oD r.um) (oD s.um) && (PyData.eqv (oD r.dm) (oD s.dm) && true)))))) = true ↔ r = s
  rw [eqv_o, eqv_o, eqv_o, eqv_o, Bool.and_true]
  simp only [Bool.and_eq_true, beq_iff_eq, decide_eq_true_eq]
  constructor
  · rintro ⟨h1, h2, h3, h4, h5, h6⟩
    cases r
    cases s
    simp only at h1 h2 h3 h4 h5 h6
    rw [h1, h2, h3, h4, h5, h6]
  · rintro rfl
    exact ⟨rfl, rfl, rfl, rfl, rfl, rfl⟩
/-- [(row[0], row[1]) for row in rows] -/
theorem lc_prs {K : PySem.W.Frag} {σ : L2.St} {H : Hp} {tl : TE} {j : Nat} {rows : List Row} {xs : List V} {a : Addr} {Q : VK} (hj : j < σ.length) (hl : Vl tl σ H (.ref a)) (hx : SqL K H a xs) (hd : DpAll K H xs (rows.map rowD)) (hz : rows.length ≤ 100000)
    (q : ∀ D H' ts, Same H H' → H D = none → H' D = some (.lst ts) → TupsAt H' ts (rows.map prOf) → Q (.ref D) H') : tLc (iList K tl) (gName j) tYes (tTup (tCons (tOp (rIxT K) (tVar j) (tC (.int 0))) (tCons (tOp (rIxT K) (tVar j) (tC (.int 1))) tNil))) [j] σ H Q := by
  have lx := DpAll.len hd
  rw [List.length_map] at lx
  refine hl _ ⟨a, rfl, ⟨_, hx⟩, fun D nD => lc_list (xs := xs) (fun i H' => ∃ ts, H' D = some (.lst ts) ∧ Same H H' ∧ TupsAt H' ts ((rows.take i).map prOf)) ⟨[], upd_same, same_upd nD, TupsAt.nil⟩ (fun i H' _ hP => hP.choose_spec.2.1.seq hx) (fun i x H2 hi hP => ?_) (fun H2 hP => ?_)⟩
  · obtain ⟨ts, hD, s2, hT⟩ := hP
    have hil := (List.getElem?_eq_some_iff.mp hi).1
    have hg : rows[i]? = some rows[i] := List.getElem?_eq_getElem (by omega)
    generalize rows[i] = r at hg
    obtain ⟨v', ev, dv⟩ := DpAll.get (i := i) (d := rowD r) hd (by
      rw [List.getElem?_map, hg]
      rfl)
    cases hi.symm.trans ev
    obtain ⟨t, rfl, ht⟩ := Dp.row_inv dv
    have hjl : ((σ.set j none).set j (some (V.ref t)))[j]? = some (some (V.ref t)) := List.getElem?_set_self (by rw [List.length_set]; exact hj)
    refine ⟨?_, ?_⟩
    · show ((σ.set j none).set j (some (V.ref t))).set j none = σ.set j none
      rw [List.set_set, List.set_set]
    · refine iteT (B := ∃ ts, H2 D = some (.lst ts) ∧ Same H H2 ∧ TupsAt H2 ts ((rows.take (i + 1)).map prOf)) ((vl_ixT (K := K) (vl_var hjl) vl_c (seqT s2 ht) (atI_nat (j := 0) rfl)) _ ((vl_ixT (K := K) (vl_var hjl) vl_c (seqT s2 ht) (atI_nat (j := 1) rfl)) _ ⟨by show 2 ≤ sizeLine; decide, fun T nT => ⟨ts, same_upd nT _ _ hD, ?_, ts ++ [.ref T], upd_same, same_upd' (s2.trans (same_upd nT)) nD, ?_⟩⟩))
      · rw [hT.len, List.length_map, List.length_take]
        exact Nat.lt_of_le_of_lt (m := 100000) (by omega) (by decide)
      · rw [take_snoc hg, List.map_append]
        exact ((hT.to (same_upd nT)).app (TupsAt.one upd_same)).upd (same_upd nT _ _ hD)
  · obtain ⟨ts, hD, s2, hT⟩ := hP
    rw [lx, List.take_length] at hT
    exact q D H2 ts s2 nD hD hT
theorem g_retCall1 {sp : Sp} {t : TE} {tr : TA} {D : Ends} {σ : L2.St} {H : Hp} (h : t σ H fun x H1 => tr σ H1 fun xs H2 => sp ((x :: xs) ++ []) H2 D.rt E0) : tRet (tCall sp [] E0 (tCons t tr)) D σ H := h
theorem q_asgE1 {t : TE} {i : Nat} {D : Ends} {tw : TS} {σ : L2.St} {H : Hp} (h : t σ H fun x H1 => tw D (σ.set i (some x)) H1) : tSeq (tAsg t (gName i)) tw D σ H := h
section
variable {P : Program} {w : World} {K : PySem.W.Frag} {mg : Str → Option Value} {base : Heap}
end
/-- [row[:2] for row in rows] -/
theorem lc_cut2 {K : PySem.W.Frag} {σ : L2.St} {H : Hp} {tl : TE} {j : Nat} {rows : List Row} {xs : List V} {a : Addr} {Q : VK} (hj : j < σ.length) (hl : Vl tl σ H (.ref a)) (hx : SqL K H a xs) (hd : DpAll K H xs (rows.map rowD)) (hz : rows.length ≤ 100000)
    (q : ∀ D H' ts, Same H H' → H D = none → H' D = some (.lst ts) → TupsAt H' ts (rows.map prOf) → Q (.ref D) H') : tLc (iList K tl) (gName j) tYes (tSl (rSlT K) (tVar j) tNoPart (tPart (tC (.int 2)))) [j] σ H Q := by
  have lx := DpAll.len hd
  rw [List.length_map] at lx
  refine hl _ ⟨a, rfl, ⟨_, hx⟩, fun D nD => lc_list (xs := xs) (fun i H' => ∃ ts, H' D = some (.lst ts) ∧ Same H H' ∧ TupsAt H' ts ((rows.take i).map prOf)) ⟨[], upd_same, same_upd nD, TupsAt.nil⟩ (fun i H' _ hP => hP.choose_spec.2.1.seq hx) (fun i x H2 hi hP => ?_) (fun H2 hP => ?_)⟩
  · obtain ⟨ts, hD, s2, hT⟩ := hP
    have hil := (List.getElem?_eq_some_iff.mp hi).1
    have hg : rows[i]? = some rows[i] := List.getElem?_eq_getElem (by omega)
    generalize rows[i] = r at hg
    obtain ⟨v', ev, dv⟩ := DpAll.get (i := i) (d := rowD r) hd (by
      rw [List.getElem?_map, hg]
      rfl)
    cases hi.symm.trans ev
    obtain ⟨t, rfl, ht⟩ := Dp.row_inv dv
    have hjl : ((σ.set j none).set j (some (V.ref t)))[j]? = some (some (V.ref t)) := List.getElem?_set_self (by rw [List.length_set]; exact hj)
    refine ⟨?_, ?_⟩
    · show ((σ.set j none).set j (some (V.ref t))).set j none = σ.set j none
      rw [List.set_set, List.set_set]
    · refine iteT (B := ∃ ts, H2 D = some (.lst ts) ∧ Same H H2 ∧ TupsAt H2 ts ((rows.take (i + 1)).map prOf)) ⟨_, hjl, 2, rfl, t, rowV r, rfl, seqT s2 ht, fun z => ?_, fun T nT => ?_⟩
      · have := z.2
        rw [show HT.sIx (rowV r).length (rowV r).length (some 2) = min 2 6 from HT.sIx_nat 6 6 2] at this
        exact absurd (show (2 : Nat) = 6 from this) (by decide)
      · rw [show cutV (rowV r) none (some 2) = [.int r.u, .int r.v] from cut_to (xs := rowV r) (n := 2) (by show 2 ≤ 6; decide)]
        refine ⟨ts, same_upd nT _ _ hD, ?_, ts ++ [.ref T], upd_same, same_upd' (s2.trans (same_upd nT)) nD, ?_⟩
        · rw [hT.len, List.length_map, List.length_take]
          exact Nat.lt_of_le_of_lt (m := 100000) (by omega) (by decide)
        · rw [take_snoc hg, List.map_append]
          exact ((hT.to (same_upd nT)).app (TupsAt.one upd_same)).upd (same_upd nT _ _ hD)
  · obtain ⟨ts, hD, s2, hT⟩ := hP
    rw [lx, List.take_length] at hT
    exact q D H2 ts s2 nD hD hT
section
variable {K : PySem.W.Frag} {σ : L2.St} {H : Hp} {a : Addr} {D : Ends} {tz tw : TS} {te td ta tb : TE}
/-- for low, high, up, down, up_middle, down_middle in rows -/
theorem g_forRow {j1 j2 j3 j4 j5 j6 : Nat} {Hb : Hp} {xs : List V} {rows : List Row} {tl : TE} (h : Vl tl σ H (.ref a)) (hx : SqL K Hb a xs) (hL : DpAll K Hb xs (rows.map rowD)) (hb : Same Hb H) (Pv : Nat → L2.St → Hp → Prop) (h0 : Pv 0 σ H) (hl : ∀ i σ' H', Pv i σ' H' → Same Hb H')
    (hs : ∀ (i : Nat) r σ H, rows[i]? = some r → Pv i σ H → tz { D with nx := Pv (i + 1), ct := Pv (i + 1), bk := D.nx } ((((((σ.set j1 (some (.int r.u))).set j2 (some (.int r.v))).set j3 (some (oV r.up))).set j4 (some (oV r.dn))).set j5 (some (oV r.um))).set j6 (some (oV r.dm))) H) (hd : ∀ σ H, Pv rows.length σ H → D.nx σ H) :
    tFor (iList K tl) (gTup K 6 (gCons (gName j1) (gCons (gName j2) (gCons (gName j3) (gCons (gName j4) (gCons (gName j5) (gCons (gName j6) gNil))))))) tz D σ H := h _ ⟨a, rfl, ⟨_, hb.seq hx⟩, for_list (xs := xs) Pv h0 (fun i σ H _ p => (hl i σ H p).seq hx) (fun i x σ H hi p => by
      have e := DpAll.len hL
      rw [List.length_map] at e
      have hlt := (List.getElem?_eq_some_iff.mp hi).1
      have hg : rows[i]? = some rows[i] := List.getElem?_eq_getElem (by omega)
      obtain ⟨v, hv, dv⟩ := DpAll.get (i := i) (d := rowD rows[i]) hL (by
        rw [List.getElem?_map, hg]
        rfl)
      cases hi.symm.trans hv
      obtain ⟨t, rfl, ht⟩ := Dp.row_inv dv
      exact ⟨t, _, rfl, seqT (hl i σ H p) ht, rfl, _, _, rfl, _, _, rfl, _, _, rfl, _, _, rfl, _, _, rfl, _, _, rfl, rfl, hs i _ σ H hg p⟩) (fun σ H p => by
      have e := DpAll.len hL
      rw [List.length_map] at e
      rw [e] at p
      exact hd σ H p)⟩
theorem q_forRow {j1 j2 j3 j4 j5 j6 : Nat} {Hb : Hp} {xs : List V} {rows : List Row} {tl : TE} (h : Vl tl σ H (.ref a)) (hx : SqL K Hb a xs) (hL : DpAll K Hb xs (rows.map rowD)) (hb : Same Hb H) (Pv : Nat → L2.St → Hp → Prop) (h0 : Pv 0 σ H) (hl : ∀ i σ' H', Pv i σ' H' → Same Hb H')
    (hs : ∀ (i : Nat) r σ H, rows[i]? = some r → Pv i σ H → tz { D with nx := Pv (i + 1), ct := Pv (i + 1), bk := tw D } ((((((σ.set j1 (some (.int r.u))).set j2 (some (.int r.v))).set j3 (some (oV r.up))).set j4 (some (oV r.dn))).set j5 (some (oV r.um))).set j6 (some (oV r.dm))) H) (hd : ∀ σ H, Pv rows.length σ H → tw D σ H) :
    tSeq (tFor (iList K tl) (gTup K 6 (gCons (gName j1) (gCons (gName j2) (gCons (gName j3) (gCons (gName j4) (gCons (gName j5) (gCons (gName j6) gNil))))))) tz) tw D σ H := g_forRow (D := { D with nx := tw D }) h hx hL hb Pv h0 hl hs hd
/-- a loop over what a call has told -/
theorem q_forE {g : TG} (h : te σ H fun x H1 => tSeq (tFor (iList K fun _ H' Q => Q x H') g tz) tw D σ H1) : tSeq (tFor (iList K te) g tz) tw D σ H := h
theorem g_forE {g : TG} (h : te σ H fun x H1 => tFor (iList K fun _ H' Q => Q x H') g tz D σ H1) : tFor (iList K te) g tz D σ H := h
/-- d[x, y] of ints, the tuple new -/
theorem ve_dgetN {o : Addr} {kvs : List (List L2.Key × V)} {x y : Int} {v : V} (ho : Vl td σ H (.ref o)) (h1 : Vl ta σ H (.int x)) (h2 : Vl tb σ H (.int y)) (hd : H o = some (.dT kvs)) (hv : valV kvs (K2 (x, y)) = some v) : Ve (tDGet td (tTup (tCons ta (tCons tb tNil)))) σ H v := fun Q q =>
  ho _ (h1 _ (h2 _ ⟨by show 2 ≤ sizeLine; decide, fun T nT => ⟨o, v, rfl, by
    rw [← hv]
    exact DGet.t (k := K2 (x, y)) (same_upd nT _ _ hd) upd_same, q _ (same_upd nT)⟩⟩))
theorem ax_notNV {v : V} (h : Ve te σ H v) : Ax (tTest (tOp (fun x y H Q => y = V.non ∧ Q (V.bl (!decide (x = V.non))) H) te (tC .non))) σ H (!decide (v = .non)) := fun Q k => h _ fun H' s' => ⟨rfl, _, rfl, k H' s'⟩
theorem ve_I0 {g : Int → Int → V} {i j : Int} (h1 : Ve ta σ H (.int i)) (h2 : ∀ H', Same H H' → Ve tb σ H' (.int j)) : Ve (tOp (rI0 g) ta tb) σ H (g i j) := fun Q q => h1 _ fun H1 s1 => h2 H1 s1 _ fun H2 s2 => ⟨i, j, rfl, rfl, q H2 (s1.trans s2)⟩
theorem ax_op {r : R2} {b : Bool} (h : ∀ Q : Bool → Hp → Prop, (∀ H', Same H H' → Q b H') → ta σ H fun x H1 => tb σ H1 fun y H2 => r x y H2 fun z H3 => ∃ b', z = .bl b' ∧ Q b' H3) : Ax (tTest (tOp r ta tb)) σ H b := h
theorem ax_test {b : Bool} (h : Ve te σ H (.bl b)) : Ax (tTest te) σ H b := fun Q k => h _ fun H' s' => ⟨_, rfl, k H' s'⟩
/-- (p, m) != (q, n) -/
theorem ax_neOO {t1 t2 t3 t4 : TE} {p m q n : Option Int} (h1 : Vl t1 σ H (oV p)) (h2 : Vl t2 σ H (oV m)) (h3 : ∀ H', Same H H' → Vl t3 σ H' (oV q)) (h4 : ∀ H', Same H H' → Vl t4 σ H' (oV n)) :
    Ax (tTest (tOp (rNeD K) (tTup (tCons t1 (tCons t2 tNil))) (tTup (tCons t3 (tCons t4 tNil))))) σ H (!decide ((p, m) = (q, n))) := fun Q k =>
  h1 _ (h2 _ ⟨by show 2 ≤ sizeLine; decide, fun T nT => h3 _ (same_upd nT) _ (h4 _ (same_upd nT) _ ⟨by show 2 ≤ sizeLine; decide, fun S nS => by
    have s1 : Same H (upd H T (.tup [oV p, oV m])) := same_upd nT
    have s2 : Same (upd H T (.tup [oV p, oV m])) (upd (upd H T (.tup [oV p, oV m])) S (.tup [oV q, oV n])) := same_upd nS
    have lay : ∀ a b : Option Int, SeqAt.shaped (.tuple [oD a, oD b]) = true := fun a b => by
      have e1 := lay_o a
      have e2 := lay_o b
      show ((PyData.tuple [oD a, oD b]).canLay0 && decide ((PyData.tuple [oD a, oD b]).depth ≤ 64)) = true
      rw [show (PyData.tuple [oD a, oD b]).canLay0 = true by
        show ((oD a).canLay0 && ((oD b).canLay0 && true)) = true
        rw [e1.1, e2.1] <;> rfl, show (PyData.tuple [oD a, oD b]).depth = 1 by
        show max (oD a).depth (max (oD b).depth 0) + 1 = 1
        rw [e1.2, e2.2] <;> rfl]
      rfl
    refine ⟨.tuple [oD p, oD m], .tuple [oD q, oD n], .tup (.of (s2 _ _ upd_same)) (.cons (Dp.o _) (.cons (Dp.o _) .nil)), .tup (.of upd_same) (.cons (Dp.o _) (.cons (Dp.o _) .nil)), lay p m, lay q n, _, rfl, ?_⟩
    rw [show PyData.eqv (.tuple [oD p, oD m]) (.tuple [oD q, oD n]) = decide ((p, m) = (q, n)) by
      show (PyData.eqv (oD p) (oD q) && (PyData.eqv (oD m) (oD n) && true)) = _
      rw [eqv_o, eqv_o, Bool.and_true, Bool.eq_iff_iff, Bool.and_eq_true, decide_eq_true_eq, decide_eq_true_eq, decide_eq_true_eq]
      exact ⟨fun h => by rw [h.1, h.2], fun h => ⟨congrArg Prod.fst h, congrArg Prod.snd h⟩⟩]
    exact k _ (s1.trans s2)⟩)⟩)
end
def d4 (d : Int × Int × Option Int × Option Int) : List V := [.int d.1, .int d.2.1, oV d.2.2.1, oV d.2.2.2]
/-- for x, y, price, told in a list of two -/
theorem g_for4 {K : PySem.W.Frag} {σ : L2.St} {H : Hp} {D : Ends} {tz : TS} {j1 j2 j3 j4 : Nat} {Hb : Hp} {L T1 T2 : Addr} {d1 d2 : Int × Int × Option Int × Option Int} (eL : Hb L = some (.lst [.ref T1, .ref T2])) (e1 : Hb T1 = some (.tup (d4 d1))) (e2 : Hb T2 = some (.tup (d4 d2))) (hb : Same Hb H) (Pv : Nat → L2.St → Hp → Prop) (h0 : Pv 0 σ H)
    (hl : ∀ i σ' H', Pv i σ' H' → Same Hb H') (hs : ∀ (i : Nat) d σ H, [d1, d2][i]? = some d → Pv i σ H → tz { D with nx := Pv (i + 1), ct := Pv (i + 1), bk := D.nx } ((((σ.set j1 (some (.int d.1))).set j2 (some (.int d.2.1))).set j3 (some (oV d.2.2.1))).set j4 (some (oV d.2.2.2))) H) (hd : ∀ σ H, Pv 2 σ H → D.nx σ H) :
    tFor (iList K fun _ H' Q => Q (.ref L) H') (gTup K 4 (gCons (gName j1) (gCons (gName j2) (gCons (gName j3) (gCons (gName j4) gNil))))) tz D σ H := ⟨L, rfl, ⟨_, .of (hb _ _ eL)⟩, for_list (xs := [.ref T1, .ref T2]) Pv h0 (fun i σ H _ p => .of (hl i σ H p _ _ eL)) (fun i x σ H hi p => by
      match i, hi, p with
      | 0, hi, p =>
        cases hi
        exact ⟨T1, _, rfl, .of (hl _ _ _ p _ _ e1), rfl, _, _, rfl, _, _, rfl, _, _, rfl, _, _, rfl, rfl, hs 0 d1 σ H rfl p⟩
      | 1, hi, p =>
        cases hi
        exact ⟨T2, _, rfl, .of (hl _ _ _ p _ _ e2), rfl, _, _, rfl, _, _, rfl, _, _, rfl, _, _, rfl, rfl, hs 1 d2 σ H rfl p⟩
      | n + 2, hi, p => simp at hi) hd⟩
theorem oV_some {o : Option Int} {x : Int} (h : o = some x) : oV o = .int x := by
  rw [h]
  rfl
section
variable {P : Program} {w : World} {K : PySem.W.Frag} {mg : Str → Option Value} {base : Heap}
end
/-! ### ints that are not told, the heap grown on the way -/
def Vj (te : TE) (σ : L2.St) (H : Hp) (P : Int → Prop) : Prop := ∀ Q : VK, (∀ r H', Same H H' → P r → Q (.int r) H') → te σ H Q
section
variable {K : PySem.W.Frag} {σ : L2.St} {H : Hp} {ta tb te t0 t1 t2 : TE} {tr : TA} {D : Ends} {tw tz : TS} {P P1 P2 : Int → Prop} {a : Addr}
theorem vj_of (h : Vi te σ H P) : Vj te σ H P := fun Q q => h Q fun r hr => q r H (Same.refl H) hr
theorem vj_mono (h : Vj te σ H P1) (hh : ∀ r, P1 r → P r) : Vj te σ H P := fun Q q => h Q fun r H' s hr => q r H' s (hh r hr)
theorem vj_pick {xs : List Int} (hz : xs.length ≤ 1000) (h1 : Va tr σ H (xs.map V.int)) (h2 : ∀ H', Same H H' → Vi tb σ H' (fun r => 0 ≤ r ∧ r < (xs.length : Int))) : Vj (tOp (rIxL K) (tLst tr) tb) σ H (fun r => r ∈ xs) := fun Q q =>
  h1 _ ⟨by rw [List.length_map]; exact Nat.le_trans hz (by decide), fun l nl => h2 _ (same_upd nl) _ fun r hr => by
    obtain ⟨d, g, hd⟩ := at_int hr.1 hr.2
    exact ⟨l, _, r, _, rfl, rfl, .of upd_same, g, q d _ (same_upd nl) (List.mem_of_getElem? hd)⟩⟩
theorem vj_at {ds : List Int} {k : Int} (h0 : Vl t0 σ H (.ref a)) (h1 : Vl t1 σ H (.int k)) (h2 : Vj t2 σ H P2) (hS : SqL K H a (ds.map V.int)) (hk : 0 ≤ k) (hP : ∀ m, P2 m → 0 < m) : Vj (tCall (spAt K) [] E0 (tCons t0 (tCons t1 (tCons t2 tNil)))) σ H (fun r => ∃ m, P2 m ∧ 0 ≤ r ∧ r < m) := fun Q q =>
  h0 _ (h1 _ (h2 _ fun m H' s' hm => ⟨a, ds, k, m, rfl, s'.seq hS, hk, hP m hm, fun r hr => q r H' s' ⟨m, hm, hr⟩⟩))
theorem vi_at {ds : List Int} {k m : Int} (h0 : Vl t0 σ H (.ref a)) (h1 : Vl t1 σ H (.int k)) (h2 : Vl t2 σ H (.int m)) (hS : SqL K H a (ds.map V.int)) (hk : 0 ≤ k) (hm : 0 < m) : Vi (tCall (spAt K) [] E0 (tCons t0 (tCons t1 (tCons t2 tNil)))) σ H (fun r => 0 ≤ r ∧ r < m) :=
  vi_call (va_cons h0 (va_cons h1 (va_cons h2 va_nil))) fun _ _ q => ⟨a, ds, k, m, rfl, hS, hk, hm, q⟩
theorem vj_I0 {g : Int → Int → Int} {p : Int} (ha : Vl ta σ H (.int p)) (hb : Vj tb σ H P2) (h : ∀ q, P2 q → P (g p q)) : Vj (tOp (rI0 fun i j => .int (g i j)) ta tb) σ H P := fun Q k => ha _ (hb _ fun q H' s hq => ⟨p, q, rfl, rfl, k _ H' s (h q hq)⟩)
theorem q_asgJ {i : Nat} (h : Vj te σ H P) (k : ∀ r H', Same H H' → P r → tw D (σ.set i (some (.int r))) H') : tSeq (tAsg te (gName i)) tw D σ H := h _ k
/-! ### tests that are not told -/
def Ab (t : TT) (σ : L2.St) (H : Hp) : Prop := ∀ Q : Bool → Hp → Prop, (∀ b, Q b H) → t σ H Q
variable {t u : TT}
theorem ab_of {b : Bool} (h : An t σ H b) : Ab t σ H := fun Q q => h Q (q b)
theorem ab_and (h1 : Ab t σ H) (h2 : Ab u σ H) : Ab (tAnd t u) σ H := fun Q q => h1 _ fun b => by
  cases b with
  | true => exact iteT (h2 _ q)
  | false => exact iteF (q false)
theorem ab_or (h1 : Ab t σ H) (h2 : Ab u σ H) : Ab (tOr t u) σ H := fun Q q => h1 _ fun b => by
  cases b with
  | true => exact iteT (q true)
  | false => exact iteF (h2 _ q)
theorem ab_not (h : Ab t σ H) : Ab (tNot t) σ H := fun Q q => h _ fun b => q (!b)
theorem ab_eq {n : Int} (ha : Vi ta σ H P) (hb : Vl tb σ H (.int n)) : Ab (tTest (tOp rEq ta tb)) σ H := fun Q q => ha _ fun r _ => hb _ ⟨rfl, _, rfl, q _⟩
theorem ab_I0 {g : Int → Int → Bool} {n : Int} (ha : Vi ta σ H P) (hb : Vl tb σ H (.int n)) : Ab (tTest (tOp (rI0 fun i j => .bl (g i j)) ta tb)) σ H := fun Q q => ha _ fun r _ => hb _ ⟨r, n, rfl, rfl, _, rfl, q _⟩
theorem g_whenB (h : Ab t σ H) (h1 : tz D σ H) (h2 : D.nx σ H) : tIfS t tz tNext D σ H := h _ fun b => by
  cases b with
  | true => exact iteT h1
  | false => exact iteF h2
theorem q_whenB (h : Ab t σ H) (h1 : tz { D with nx := tw D } σ H) (h2 : tw D σ H) : tSeq (tIfS t tz tNext) tw D σ H := g_whenB (D := { D with nx := tw D }) h h1 h2
end
def spNet3 (K : PySem.W.Frag) : Sp := fun vs H Q _ => ∃ (a : Addr) (ds : List Int) (k : Int), vs = [.ref a, .int k] ∧ SqL K H a (ds.map V.int) ∧ 0 ≤ k ∧
  ∀ (H' : Hp) (v : V) (N : Net), Same H H' → NetAt K H' v N → NetOk N → N.n ≤ 13 → Q v H'
def spOrder3 (K : PySem.W.Frag) : Sp := fun vs H Q _ => ∃ (a : Addr) (ds : List Int) (k n : Int), vs = [.ref a, .int k, .int n] ∧ SqL K H a (ds.map V.int) ∧ 0 ≤ k ∧ 0 ≤ n ∧ n ≤ 40 ∧
  ∀ (H' : Hp) (p : Addr) (os : List Int), Same H H' → H p = none → H' p = some (.lst (os.map V.int)) → OrdOk n os → Q (.ref p) H'
abbrev sNet3 : Stmt := topS 37
abbrev sOrder3 : Stmt := topS 38
theorem scNet3 : FnScope ["draws", "k", "count", "many", "top", "links", "a", "b", "at", "j", "prices"] ["draws", "k"] (defScope sNet3) := ⟨rfl, rfl, rfl, by decide +kernel, rfl, by decide +kernel, by decide +kernel⟩
theorem scOrder3 : FnScope ["draws", "k", "count", "left", "order", "turn", "pick", "place"] ["draws", "k", "count"] (defScope sOrder3) := ⟨rfl, rfl, rfl, by decide +kernel, rfl, by decide +kernel, by decide +kernel⟩
section
variable {P : Program} {w : World} {K : PySem.W.Frag} {mg : Str → Option Value} {base : Heap}
theorem ok_net3 {f : Addr} {fd : FuncData} {k : Nat} (F : Fun K "_law_net" "_law_net" sNet3 f fd) (c_law_mix : Kal P w K mg base k "_law_mix" ["draws", "k", "many"] (spAt K)) (mr : mg "range" = none) (ml : mg "len" = none) : FnOk P w K mg base CX0 (k + 1) f fd ["draws", "k"] (spNet3 K) := by
  refine F.ok scNet3 (fun vs H Q E h => ?_) (fun cdv A outer s H vs Q E hr h => ?_)
  · obtain ⟨a, ds, k, rfl, _⟩ := h
    rfl
  · obtain ⟨a, ds, k, rfl, hS, hk, q⟩ := h
    refine ⟨_, pss_cons (ps_set (i := 2) scNet3.nd rfl (.inl rfl) (pe_op op_add pe_int (pe_k c_law_mix hr (by first | decide | omega) (by rfl) (pa_cons (pv 0) (pa_cons (pv 1) (pa_cons (pe_ix ix_list (pe_lst (pa_cons pe_int (pa_cons pe_int (pa_cons pe_int (pa_cons pe_int pa_nil))))) (pe_k c_law_mix hr (by first | decide | omega) (by rfl) (pa_cons (pv 0) (pa_cons (pe_op op_add (pv 1) pe_int) (pa_cons pe_int pa_nil)))) (fun _ _ => rfl)) pa_nil))))))
      (pss_cons (ps_set (i := 3) scNet3.nd rfl (.inl rfl) (pe_ix ix_list (pe_lst (pa_cons pe_int (pa_cons pe_int (pa_cons pe_int pa_nil)))) (pe_k c_law_mix hr (by first | decide | omega) (by rfl) (pa_cons (pv 0) (pa_cons (pe_op op_add (pv 1) pe_int) (pa_cons pe_int pa_nil)))) (fun _ _ => rfl)))
      (pss_cons (ps_set (i := 4) scNet3.nd rfl (.inr rfl) (pe_ix ix_list (pe_lst (pa_cons pe_int (pa_cons pe_int (pa_cons pe_int (pa_cons pe_int pa_nil))))) (pe_k c_law_mix hr (by first | decide | omega) (by rfl) (pa_cons (pv 0) (pa_cons (pe_op op_add (pv 1) pe_int) (pa_cons pe_int pa_nil)))) (fun _ _ => rfl)))
      (pss_cons (ps_set (i := 5) scNet3.nd rfl (.inl rfl) (pe_lst pa_nil))
      (pss_cons (ps_for PassesOwn.never rfl (pi_range1 (by rfl) mr (pa_cons (pv 2) pa_nil)) (pg_name (i := 6) scNet3.nd rfl (.inl rfl))
      (pss_one (ps_for PassesOwn.never rfl (pi_range2 (by rfl) mr (pa_cons (pe_op op_add (pv 6) pe_int) (pa_cons (pv 2) pa_nil))) (pg_name (i := 7) scNet3.nd rfl (.inl rfl))
        (pss_cons (ps_set (i := 8) scNet3.nd rfl (.inr rfl) (pe_op op_add (pe_op op_add (pe_op op_add (pe_op op_add (pv 1) pe_int) (pe_op op_mul pe_int (pe_callB call_len_seq (by rfl) ml PySem.boot_len (pa_cons (pv 5) pa_nil)))) (pe_op op_mul pe_int (pv 6))) (pv 7)))
          (pss_one (ps_if (PW.pt (pw_or (pt_cmpR op_eq (pe_k c_law_mix hr (by first | decide | omega) (by rfl) (pa_cons (pv 0) (pa_cons (pv 8) (pa_cons (pv 3) pa_nil)))) pe_int (nomark _)) (pw_or1 (PW.pt (pw_and (pt_cmpR op_eq (pv 7) (pe_op op_add (pv 6) pe_int) (nomark _)) (pw_and1 (pt_cmpR op_gt (pe_k c_law_mix hr (by first | decide | omega) (by rfl) (pa_cons (pv 0) (pa_cons (pe_op op_add (pv 8) pe_int) (pa_cons pe_int pa_nil)))) pe_int (nomark _))))))))
          (pss_cons (ps_setLc (i := 10) (own := [("j", 9)]) (g := gName 9) (tt := tYes) (te := (tOp (rI0 fun i j => .int (i + j)) (tC (.int 1)) _)) (by rfl) scNet3.nd rfl rfl (sw_true rfl rfl rfl (by decide +kernel)) (pi_range1 (by rfl) mr (pa_cons pe_int pa_nil)) (blkOk_by (own := [("j", 9)]) (N := ["draws", "k", "count", "many", "top", "links", "a", "b", "at", "j", "prices"]) (sc := defScope sNet3) (by decide +kernel)) (fun _ _ _ _ _ => pg_name (i := 9) scNet3.nd rfl (Or.inl rfl)) (fun _ _ _ _ _ => by exact pts_nil) (fun _ _ _ _ _ => by exact (pe_op op_add pe_int (pe_k c_law_mix hr (by first | decide | omega) (by rfl) (pa_cons (pv 0) (pa_cons (pe_op op_add (pe_op op_add (pv 8) pe_int) (pv 9)) (pa_cons (pv 4) pa_nil)))))))
            (pss_cons (ps_for PassesOwn.never rfl (pi_range1 (by rfl) mr (pa_cons pe_int pa_nil)) (pg_name (i := 9) scNet3.nd rfl (.inl rfl))
            (pss_one (ps_if (pt_cmpR op_eq (pe_k c_law_mix hr (by first | decide | omega) (by rfl) (pa_cons (pv 0) (pa_cons (pe_op op_add (pe_op op_add (pv 8) pe_int) (pv 9)) (pa_cons pe_int pa_nil)))) pe_int (nomark _))
              (pss_one (ps_asg pe_non (pg_sub (pv 10) (pv 9) set_list)))
              pss_nil)))
            (pss_one (ps_expr (pe_bm PySem.F.plainAttrs_list PySem.F.slot_list_append PySem.F.type_list_append mt_append (pv 5) (pa_cons (pe_tup (pa_cons (pv 6) (pa_cons (pv 7) (pa_cons (pe_ix ix_list (pv 10) pe_int (fun _ _ => rfl)) (pa_cons (pe_ix ix_list (pv 10) pe_int (fun _ _ => rfl)) pa_nil))))) pa_nil))))))
          pss_nil))))))
      (pss_one (ps_ret (pe_tup (pa_cons (pv 2) (pa_cons (pv 5) pa_nil))))))))), ?_⟩
    refine q_asgJ (P := fun r => 1 ≤ r ∧ r ≤ 13) (vj_I0 (P2 := fun r => ∃ m, m ∈ [5, 8, 11, 13] ∧ 0 ≤ r ∧ r < m) vl_c (vj_at (ds := ds) (vl_var rfl) (vl_var rfl) (vj_pick (xs := [5, 8, 11, 13]) (by decide) (va_cons vl_c (va_cons vl_c (va_cons vl_c (va_cons vl_c va_nil)))) fun H' s' => vi_at (vl_var rfl) (vl_I0 (vl_var rfl) vl_c) vl_c (s'.seq hS) (by omega) (by decide)) hS hk (fun m hm => by
      simp only [List.mem_cons, List.not_mem_nil, or_false] at hm
      omega)) (fun q ⟨m, hm, hq⟩ => by
      simp only [List.mem_cons, List.not_mem_nil, or_false] at hm
      omega)) (fun n H1 s1 hn => ?_)
    refine q_asgJ (P := fun r => r ∈ [2, 3, 5]) (vj_pick (xs := [2, 3, 5]) (by decide) (va_cons vl_c (va_cons vl_c (va_cons vl_c va_nil))) fun H' s' => vi_at (vl_var rfl) (vl_I0 (vl_var rfl) vl_c) vl_c ((s1.trans s').seq hS) (by omega) (by decide)) (fun mny H2 s2 hmny => ?_)
    refine q_asgJ (P := fun r => r ∈ [3, 9, 60, 1000000]) (vj_pick (xs := [3, 9, 60, 1000000]) (by decide) (va_cons vl_c (va_cons vl_c (va_cons vl_c (va_cons vl_c va_nil)))) fun H' s' => vi_at (vl_var rfl) (vl_I0 (vl_var rfl) vl_c) vl_c (((s1.trans s2).trans s').seq hS) (by omega) (by decide)) (fun tp H3 s3 htp => ?_)
    have hmny1 : 0 < mny := by
      simp only [List.mem_cons, List.not_mem_nil, or_false] at hmny
      omega
    have htp1 : 0 < tp ∧ tp ≤ 1000000 := by
      simp only [List.mem_cons, List.not_mem_nil, or_false] at htp
      omega
    have s13 := (s1.trans s2).trans s3
    replace hS := s13.seq hS
    refine q_lnew fun o no => ?_
    refine q_forR (n := n) (va_cons (vl_var rfl) va_nil) ⟨by omega, by omega⟩
      (fun i σ H4 => ∃ y6 y7 y8 y9 y10 xs ls, σ = [some (.ref a), some (.int k), some (.int n), some (.int mny), some (.int tp), some (.ref o), y6, y7, y8, y9, y10] ∧ H4 o = some (.lst xs) ∧ Same H3 (but H4 o) ∧ DpAll K (but H4 o) xs (ls.map lnkD) ∧ LsAt n i 0 ls ∧ ls.length ≤ i * 40)
      ⟨_, _, _, _, _, [], [], rfl, upd_same, same_but (same_upd no) no, .nil, .nil, by simp⟩ (fun i σ H4 hi hP => ?_) (fun σ H4 hP => ?_)
    · obtain ⟨y6, y7, y8, y9, y10, xs, ls, rfl, ho, sm, hx, hl, hlen⟩ := hP
      refine g_forR2 (lo := (i : Int) + 1) (n := n) (va_cons (vl_I0 (vl_var rfl) vl_c) (va_cons (vl_var rfl) va_nil)) ⟨by omega, by omega, by omega, by omega⟩
        (fun j σ H4 => ∃ y7 y8 y9 y10 xs ls, σ = [some (.ref a), some (.int k), some (.int n), some (.int mny), some (.int tp), some (.ref o), some (.int i), y7, y8, y9, y10] ∧ H4 o = some (.lst xs) ∧ Same H3 (but H4 o) ∧ DpAll K (but H4 o) xs (ls.map lnkD) ∧ LsAt n i ((i : Int) + 1 + j) ls ∧ ls.length ≤ i * 40 + j)
        ⟨y7, y8, y9, y10, xs, ls, rfl, ho, sm, hx, hl.mono (.inr ⟨rfl, by omega⟩), hlen⟩ (fun j σ H4 hj hP => ?_) (fun σ H4 hP => ?_)
      · obtain ⟨y7, y8, y9, y10, xs, ls, rfl, ho, sm, hx, hl, hlen⟩ := hP
        have e := DpAll.len hx
        rw [List.length_map] at e
        refine q_asg (v := .int (k + 4 + 3 * (xs.length : Int) + 7 * (i : Int) + ((i : Int) + 1 + j))) (vl_I0 (vl_I0 (vl_I0 (vl_I0 (vl_var rfl) vl_c) (vl_I vl_c (vl_lenL (vl_var rfl) (.of ho)) (.inl ⟨by decide, by decide⟩))) (vl_I vl_c (vl_var rfl) (.inl ⟨by decide, by decide⟩))) (vl_var rfl)) ?_
        generalize hat : k + 4 + 3 * (xs.length : Int) + 7 * (i : Int) + ((i : Int) + 1 + j) = at_
        have hat0 : 0 ≤ at_ := by omega
        have hS4 := (sm.trans but_same).seq hS
        refine g_whenB (ab_or (ab_eq (vi_at (vl_var rfl) (vl_var rfl) (vl_var rfl) hS4 hat0 hmny1) vl_c) (ab_and (ab_of (an_test (vl_eq (vl_var rfl) (vl_I0 (vl_var rfl) vl_c) rfl))) (ab_I0 (vi_at (vl_var rfl) (vl_I0 (vl_var rfl) vl_c) vl_c hS4 (by omega) (by decide)) vl_c))) ?_ ?_
        · -- prices
          refine q_asgE ⟨2, rfl, by decide, by decide, fun p np => lc_range (lo := 0) (n := 2)
            (fun m H5 => ∃ ps : List (Option Int), H5 p = some (.lst (ps.map oV)) ∧ Same H4 (but H5 p) ∧ ps.length = m ∧ ∀ z ∈ ps, PriceOk z)
            ⟨[], upd_same, by rw [but_upd]; exact same_but (Same.refl H4) np, rfl, fun _ h => (nomatch h)⟩ (fun m H5 hm hP => ?_) (fun H5 hP => ?_)⟩
          · obtain ⟨ps, hp, s5, hpl, hpo⟩ := hP
            refine ⟨rfl, yes_of ?_⟩
            refine if_true_of (by rfl) ?_
            refine (vi_I0 (P := fun r => 1 ≤ r ∧ r ≤ 1000000) (g := fun i j => i + j) (vi_of vl_c) (vi_at (m := tp) (k := at_ + 2 + (0 + (m : Int))) (vl_var rfl) (vl_I0 (vl_I0 (vl_var rfl) vl_c) (vl_var rfl)) (vl_var rfl) ((s5.trans but_same).seq hS4) (by omega) htp1.1) (fun p q hp hq => by omega)) _ fun r hr => ?_
            refine ⟨_, hp, ?_, ps ++ [some r], ?_, ?_, ?_, ?_⟩
            · rw [List.length_map, hpl]
              exact Nat.lt_trans (show m < 1000 by omega) (by decide)
            · rw [upd_same, List.map_append]
              rfl
            · rw [but_upd]
              exact s5
            · rw [List.length_append, hpl]
              rfl
            · intro z hz
              rcases List.mem_append.mp hz with h | h
              · exact hpo z h
              · rw [List.mem_singleton.mp h]
                intro x hx
                cases hx
                exact hr
          · obtain ⟨ps, hp, s5, hpl, hpo⟩ := hP
            have po : p ≠ o := (ne_of_none ho np).symm
            refine q_forR (n := 2) (va_cons vl_c va_nil) ⟨by decide, by decide⟩
              (fun m σ H6 => ∃ y9 ps, σ = [some (.ref a), some (.int k), some (.int n), some (.int mny), some (.int tp), some (.ref o), some (.int i), some (.int ((i : Int) + 1 + j)), some (.int at_), y9, some (.ref p)] ∧ H6 p = some (.lst (ps.map oV)) ∧ Same H4 (but H6 p) ∧ ps.length = 2 ∧ ∀ z ∈ ps, PriceOk z)
              ⟨_, ps, rfl, hp, s5, hpl, hpo⟩ (fun m σ H6 hm hP => ?_) (fun σ H6 hP => ?_)
            · obtain ⟨y9, ps, rfl, hp, s6, hpl, hpo⟩ := hP
              refine g_whenB (ab_eq (vi_at (vl_var rfl) (vl_I0 (vl_I0 (vl_var rfl) vl_c) (vl_var rfl)) vl_c ((s6.trans but_same).seq hS4) (by omega) (by decide)) vl_c) ?_ ?_
              · have hm2 : m < 2 := by omega
                refine ⟨.ref p, rfl, .int m, rfl, p, _, _, m, rfl, rfl, hp, ?_, _, ps.set m none, rfl, ?_, ?_, ?_, ?_⟩
                · rw [List.length_map, hpl]
                  exact Evl.ixN_nat hm2
                · rw [upd_same, List.map_set]
                  rfl
                · rw [but_upd]
                  exact s6
                · rw [List.length_set]
                  exact hpl
                · intro z hz
                  rcases List.mem_or_eq_of_mem_set hz with h | h
                  · exact hpo z h
                  · rw [h]
                    intro x hx
                    cases hx
              · exact ⟨_, ps, rfl, hp, s6, hpl, hpo⟩
            · obtain ⟨y9, ps, rfl, hp, s6, hpl, hpo⟩ := hP
              match ps, hpl, hpo, hp with
              | [t, u], _, hpo, hp =>
                have s46 := s6.trans but_same
                have ho6 : H6 o = some (.lst xs) := s46 _ _ ho
                refine ⟨.ref o, rfl, .inl ⟨rfl, _, .inl (.inl ho6)⟩, .int i, rfl, .int ((i : Int) + 1 + j), rfl, ?_⟩
                refine (vl_ixL (K := K) (vl_var rfl) vl_c (.of hp) (atI_nat (j := 0) rfl)) _ ?_
                refine (vl_ixL (K := K) (vl_var rfl) vl_c (.of hp) (atI_nat (j := 1) rfl)) _ ?_
                refine ⟨by show 4 ≤ sizeLine; decide, fun T nT => ?_⟩
                have s7 : Same H6 (upd H6 T (.tup [.int i, .int ((i : Int) + 1 + j), oV t, oV u])) := same_upd nT
                have nTo : o ≠ T := ne_of_none ho6 nT
                refine ⟨o, xs, .ref T, rfl, rfl, s7 _ _ ho6, ?_, ?_⟩
                · exact Nat.lt_of_le_of_lt (show xs.length ≤ 10000 by omega) (by decide)
                · have sb : Same (but H4 o) (but (upd (upd H6 T (.tup [.int i, .int ((i : Int) + 1 + j), oV t, oV u])) o (.lst (xs ++ [.ref T]))) o) := by
                    rw [but_upd]
                    exact but_mono (s46.trans s7)
                  refine ⟨_, _, _, _, xs ++ [.ref T], ls ++ [⟨i, (i : Int) + 1 + j, t, u⟩], rfl, upd_same, sm.trans sb, ?_, ?_, ?_⟩
                  · rw [List.map_append]
                    refine DpAll.app (DpAll.to hx sb) (DpAll.one (Dp.lnk (l := ⟨i, (i : Int) + 1 + j, t, u⟩) (.of ?_)))
                    rw [but_upd, but_ne nTo.symm, upd_same]
                    rfl
                  · rw [show (i : Int) + 1 + ((j + 1 : Nat) : Int) = (i : Int) + 1 + j + 1 by omega]
                    exact hl.app (by omega) (by omega) (by omega) (hpo t List.mem_cons_self) (hpo u (List.mem_cons_of_mem _ List.mem_cons_self))
                  · rw [List.length_append]
                    show ls.length + 1 ≤ i * 40 + (j + 1)
                    omega
        · exact ⟨_, _, _, _, xs, ls, rfl, ho, sm, hx, hl.mono (.inr ⟨rfl, by omega⟩), by omega⟩
      · obtain ⟨y7, y8, y9, y10, xs, ls, rfl, ho, sm, hx, hl, hlen⟩ := hP
        exact ⟨_, _, _, _, _, xs, ls, rfl, ho, sm, hx, hl.mono (.inl (by omega)), by omega⟩
    · obtain ⟨y6, y7, y8, y9, y10, xs, ls, rfl, ho, sm, hx, hl, hlen⟩ := hP
      refine ⟨.int n, rfl, .ref o, rfl, by show 2 ≤ sizeLine; decide, fun T nT => ?_⟩
      have s4 : Same H4 (upd H4 T (.tup [.int n, .ref o])) := same_upd nT
      exact q _ _ ⟨n, ls⟩ (s13.trans ((sm.trans but_same).trans s4)) ⟨T, o, xs, rfl, upd_same, s4 _ _ ho, DpAll.to hx (but_same.trans s4)⟩ ⟨by show 1 ≤ n; omega, by show n ≤ 40; omega, hl.ok, hl.lt, by show ls.length ≤ 1600; omega⟩ (by show n ≤ 13; omega)
theorem ok_order3 {f : Addr} {fd : FuncData} {k : Nat} (F : Fun K "_law_order" "_law_order" sOrder3 f fd) (c_law_mix : Kal P w K mg base k "_law_mix" ["draws", "k", "many"] (spAt K)) (mr : mg "range" = none) (ml : mg "len" = none) : FnOk P w K mg base CX0 (k + 1) f fd ["draws", "k", "count"] (spOrder3 K) := by
  refine F.ok scOrder3 (fun vs H Q E h => ?_) (fun cdv A outer s H vs Q E hr h => ?_)
  · obtain ⟨a, ds, k, n, rfl, _⟩ := h
    rfl
  · obtain ⟨a, ds, k, n, rfl, hS, hk, hn0, hn, q⟩ := h
    refine ⟨_, pss_cons (ps_setLc (i := 3) (own := [("place", 7)]) (g := gName 7) (tt := tYes) (te := (tVar 7)) (by rfl) scOrder3.nd rfl rfl (sw_true rfl rfl rfl (by decide +kernel)) (pi_range1 (by rfl) mr (pa_cons (pv 2) pa_nil)) (blkOk_by (own := [("place", 7)]) (N := ["draws", "k", "count", "left", "order", "turn", "pick", "place"]) (sc := defScope sOrder3) (by decide +kernel)) (fun _ _ _ _ _ => pg_name (i := 7) scOrder3.nd rfl (Or.inl rfl)) (fun _ _ _ _ _ => by exact pts_nil) (fun _ _ _ _ _ => by exact (pv 7)))
      (pss_cons (ps_set (i := 4) scOrder3.nd rfl (.inl rfl) (pe_lst pa_nil))
      (pss_cons (ps_for PassesOwn.never rfl (pi_range1 (by rfl) mr (pa_cons (pv 2) pa_nil)) (pg_name (i := 5) scOrder3.nd rfl (.inl rfl))
      (pss_cons (ps_set (i := 6) scOrder3.nd rfl (.inr rfl) (pe_ix ix_list (pv 3) (pe_k c_law_mix hr (by first | decide | omega) (by rfl) (pa_cons (pv 0) (pa_cons (pe_op op_add (pv 1) (pv 5)) (pa_cons (pe_callB call_len_seq (by rfl) ml PySem.boot_len (pa_cons (pv 3) pa_nil)) pa_nil)))) (fun _ _ => rfl)))
        (pss_cons (ps_expr (pe_bm PySem.F.plainAttrs_list PySem.F.slot_list_append PySem.F.type_list_append mt_append (pv 4) (pa_cons (pv 6) pa_nil)))
        (pss_one (ps_setLc (i := 3) (own := [("place", 7)]) (g := gName 7) (tt := (tTest (tOp rNe (tVar 7) (tVar 6)))) (te := (tVar 7)) (by rfl) scOrder3.nd rfl rfl (sw_true rfl rfl rfl (by decide +kernel)) (pi_list (pv 3)) (blkOk_by (own := [("place", 7)]) (N := ["draws", "k", "count", "left", "order", "turn", "pick", "place"]) (sc := defScope sOrder3) (by decide +kernel)) (fun _ _ _ _ _ => pg_name (i := 7) scOrder3.nd rfl (Or.inl rfl)) (fun _ _ _ _ _ => by exact (pts_one (pt_cmpR op_ne (pv 7) (pv 6) (nomark _)))) (fun _ _ _ _ _ => by exact (pv 7)))))))
      (pss_one (ps_ret (pv 4))))), ?_⟩
    have e0 : (((List.range n.toNat).map fun (i : Nat) => (i : Int)).filter fun _ => true) = rng n := List.filter_eq_self.mpr fun _ _ => rfl
    refine q_asgN (xs := (rng n).map V.int) ?_ fun p0 H1 s1 np0 hp0 => ?_
    · rw [← e0]
      exact vn_lcR (va_cons (vl_var rfl) va_nil) hn0 (by omega) (fun x _ _ H' s' => an_yes) (fun x _ _ H' s' => vl_var rfl)
    refine q_lnew fun o no => ?_
    have so : Same H1 (upd H1 o (.lst [])) := same_upd no
    have po : p0 ≠ o := ne_of_none hp0 no
    refine q_forR (n := n) (va_cons (vl_var rfl) va_nil) ⟨by omega, by omega⟩
      (fun i σ H3 => ∃ y5 y6 p os ls, σ = [some (.ref a), some (.int k), some (.int n), some (.ref p), some (.ref o), y5, y6, none] ∧ Same H1 (but H3 o) ∧ H3 o = some (.lst (os.map V.int)) ∧ p ≠ o ∧ H3 p = some (.lst (ls.map V.int)) ∧ (os ++ ls).Perm (rng n) ∧ os.length = i)
      ⟨none, none, p0, [], rng n, rfl, same_but so no, upd_same, po, so _ _ hp0, List.Perm.refl _, rfl⟩ (fun i σ H3 hi hP => ?_) (fun σ H3 hP => ?_)
    · obtain ⟨y5, y6, p, os, ls, rfl, s3, ho, pno, hp, hpm, hol⟩ := hP
      have hS3 := (s1.trans (s3.trans but_same)).seq hS
      have hlen := hpm.length_eq
      rw [List.length_append, len_rng] at hlen
      have hll : (ls.length : Int) = n - i := by omega
      have nd : (os ++ ls).Nodup := (List.Perm.nodup_iff hpm).mpr nodup_rng
      refine q_asgE ⟨.ref p, rfl, ?_⟩
      refine (vi_at (m := (ls.length : Int)) (vl_var rfl) (vl_I0 (vl_var rfl) (vl_var rfl)) ((vl_lenL (vl_var rfl) (.of hp)).is (by rw [List.length_map])) hS3 (by omega) (by omega)) _ fun r hr => ?_
      obtain ⟨d, g, hd⟩ := at_int hr.1 hr.2
      refine ⟨p, _, r, _, rfl, rfl, .of hp, g, ?_⟩
      have hdm := List.mem_of_getElem? hd
      refine q_app (v := .int d) (vl_var rfl) ho (vl_var rfl) ?_ ?_
      · rw [List.length_map]
        exact Nat.lt_of_le_of_lt (m := 1000) (by omega) (by decide)
      have hp4 : upd H3 o (.lst (os.map V.int ++ [.int d])) p = some (.lst (ls.map V.int)) := by
        rw [upd_ne pno]
        exact hp
      refine g_asgN (xs := (ls.filter fun x => !decide (x = d)).map V.int) (vn_lcI (ns := ls) (pb := fun x => !decide (x = d)) (f := V.int) (vx_list (vl_var rfl) (.of hp4)) (by omega) (fun z hz H' s' => an_test ((vl_ne (vl_var rfl) (vl_var rfl) rfl).is (by rw [dI]))) (fun z hz H' s' => vl_var rfl)) fun p2 H5 s5 np2 hp2 => ?_
      have sb : Same H1 (but H5 o) := s3.trans (by
        have := but_mono (o := o) s5
        rw [but_upd] at this
        exact this)
      have ho5 : H5 o = some (.lst (os.map V.int ++ [.int d])) := s5 _ _ upd_same
      have p2o : p2 ≠ o := fun e => by
        rw [e, upd_same] at np2
        cases np2
      have nl : ls.Nodup := (List.nodup_append.mp nd).2.1
      refine ⟨_, _, p2, os ++ [d], ls.filter fun x => !decide (x = d), rfl, sb, ?_, p2o, hp2, ?_, ?_⟩
      · rw [ho5, List.map_append]
        rfl
      · refine List.Perm.trans ?_ hpm
        rw [List.append_assoc]
        refine List.Perm.append_left _ ?_
        have e1 : ls.erase d = ls.filter fun x => !decide (x = d) := by
          rw [nl.erase_eq_filter]
          refine List.filter_congr fun x _ => ?_
          by_cases c : x = d
          · rw [decide_eq_true c, c]
            simp
          · rw [decide_eq_false c]
            simp [c]
        rw [← e1]
        exact (List.perm_cons_erase hdm).symm
      · rw [List.length_append, hol]
        rfl
    · obtain ⟨y5, y6, p, os, ls, rfl, s3, ho, pno, hp, hpm, hol⟩ := hP
      have hlen := hpm.length_eq
      rw [List.length_append, len_rng] at hlen
      have : ls = [] := List.eq_nil_of_length_eq_zero (by omega)
      rw [this, List.append_nil] at hpm
      exact g_ret (vl_var rfl) (q H3 o os (s1.trans (s3.trans but_same)) (Same.free s1 no) ho hpm)
end
/-! ### ways, told from the end to the beginning, with their sums -/
inductive Way (w : Int → Int → Option Int) (ext : Int → Prop) (s : Int) : List Int → Int → Prop
  | one : Way w ext s [s] 0
  | step {y z c p : Int} {l : List Int} : Way w ext s (y :: l) c → ext y → w y z = some p → Way w ext s (z :: y :: l) (c + p)
/-- prices are not negative -/
def Pos (w : Int → Int → Option Int) : Prop := ∀ x y c, w x y = some c → 0 ≤ c
section
variable {w : Int → Int → Option Int} {ext ext' ext1 ext2 : Int → Prop} {s : Int}
theorem Way.inv {y z c : Int} {l : List Int} (h : Way w ext s (z :: y :: l) c) : ∃ d p, Way w ext s (y :: l) d ∧ ext y ∧ w y z = some p ∧ c = d + p := by
  cases h with
  | step h1 h2 h3 => exact ⟨_, _, h1, h2, h3, rfl⟩
theorem Way.one_inv {z c : Int} (h : Way w ext s [z] c) : z = s ∧ c = 0 := by
  cases h
  exact ⟨rfl, rfl⟩
theorem Way.ne {c : Int} (h : Way w ext s [] c) : False := by cases h
theorem Way.nonneg (hw : Pos w) {l : List Int} {c : Int} (h : Way w ext s l c) : 0 ≤ c := by
  induction h with
  | one => exact Int.le_refl _
  | step _ _ e ih =>
    have := hw _ _ _ e
    omega
theorem Way.last {l : List Int} {c : Int} (h : Way w ext s l c) : ∃ l', l = l' ++ [s] := by
  induction h with
  | one => exact ⟨[], rfl⟩
  | @step y z c p l _ _ _ ih =>
    obtain ⟨l', e⟩ := ih
    exact ⟨z :: l', by rw [e]; rfl⟩
theorem Way.drop (hw : Pos w) {x : Int} {l : List Int} : ∀ (u : List Int) {c : Int}, Way w ext s (u ++ x :: l) c → ∃ d, d ≤ c ∧ Way w ext s (x :: l) d
  | [], c, h => ⟨c, Int.le_refl _, h⟩
  | z :: u, c, h => by
    have e : ∃ y t, u ++ x :: l = y :: t := by
      cases u with
      | nil => exact ⟨_, _, rfl⟩
      | cons y u => exact ⟨_, _, rfl⟩
    obtain ⟨y, t, e⟩ := e
    rw [List.cons_append, e] at h
    obtain ⟨d, p, h1, _, h3, rfl⟩ := h.inv
    rw [← e] at h1
    obtain ⟨d', hd, h4⟩ := Way.drop hw u h1
    have := hw _ _ _ h3
    exact ⟨d', by omega, h4⟩
theorem Way.cut (hw : Pos w) {x : Int} {b l : List Int} : ∀ (u : List Int) {c : Int}, Way w ext s (u ++ x :: (b ++ x :: l)) c → ∃ d, d ≤ c ∧ Way w ext s (u ++ x :: l) d
  | [], c, h => Way.drop hw (x :: b) h
  | [z], c, h => by
    obtain ⟨d, p, h1, h2, h3, rfl⟩ := Way.inv h
    obtain ⟨d', hd, h4⟩ := Way.drop hw (x :: b) h1
    exact ⟨d' + p, by omega, .step h4 h2 h3⟩
  | z :: y :: u, c, h => by
    obtain ⟨d, p, h1, h2, h3, rfl⟩ := Way.inv h
    obtain ⟨d', hd, h4⟩ := Way.cut hw (y :: u) h1
    exact ⟨d' + p, by omega, .step h4 h2 h3⟩
theorem dup_split : ∀ l : List Int, ¬ l.Nodup → ∃ u x b t, l = u ++ x :: (b ++ x :: t)
  | [], h => absurd List.nodup_nil h
  | y :: l, h => by
    by_cases c : y ∈ l
    · obtain ⟨b, t, e⟩ := List.append_of_mem c
      exact ⟨[], y, b, t, by rw [e]; rfl⟩
    · obtain ⟨u, x, b, t, e⟩ := dup_split l fun hn => h (List.nodup_cons.mpr ⟨c, hn⟩)
      exact ⟨y :: u, x, b, t, by rw [e]; rfl⟩
/-- a way without a place twice, that is no dearer -/
theorem Way.simple (hw : Pos w) : ∀ (k : Nat) (z : Int) (l : List Int) (c : Int), l.length ≤ k → Way w ext s (z :: l) c → ∃ l' d, d ≤ c ∧ Way w ext s (z :: l') d ∧ (z :: l').Nodup ∧ ∀ y ∈ l', y ∈ l
  | k, z, l, c, hk, h => by
    by_cases hn : (z :: l).Nodup
    · exact ⟨l, c, Int.le_refl _, h, hn, fun _ hy => hy⟩
    · obtain ⟨u, x, b, t, e⟩ := dup_split _ hn
      have h' := h
      rw [e] at h'
      obtain ⟨d, hd, h2⟩ := Way.cut hw u h'
      have e2 : ∃ l2, u ++ x :: t = z :: l2 ∧ l2.length < l.length ∧ ∀ y ∈ l2, y ∈ l := by
        cases u with
        | nil =>
          injection e with e1 e2
          refine ⟨t, by rw [e1]; rfl, ?_, fun y hy => ?_⟩
          · rw [e2, List.length_append, List.length_cons]
            omega
          · rw [e2]
            exact List.mem_append.mpr (.inr (List.mem_cons_of_mem _ hy))
        | cons y u =>
          injection e with e1 e2
          have e2 : l = u ++ x :: (b ++ x :: t) := e2
          refine ⟨u ++ x :: t, by rw [e1]; rfl, ?_, fun y hy => ?_⟩
          · rw [e2]
            simp only [List.length_append, List.length_cons]
            omega
          · rw [e2]
            rcases List.mem_append.mp hy with hy | hy
            · exact List.mem_append.mpr (.inl hy)
            · rcases List.mem_cons.mp hy with hy | hy
              · rw [hy]
                exact List.mem_append.mpr (.inr List.mem_cons_self)
              · exact List.mem_append.mpr (.inr (List.mem_cons_of_mem _ (List.mem_append.mpr (.inr (List.mem_cons_of_mem _ hy)))))
      obtain ⟨l2, e3, hlt, hs⟩ := e2
      rw [e3] at h2
      match k, hk with
      | 0, hk => omega
      | k + 1, hk =>
        obtain ⟨l', d', hd', h3, h4, h5⟩ := Way.simple hw k z l2 d (by omega) h2
        exact ⟨l', d', by omega, h3, h4, fun y hy => hs y (h5 y hy)⟩
theorem Way.wid {l : List Int} {c : Int} (h : Way w ext s l c) : (∀ y ∈ l.tail, ext y → ext' y) → Way w ext' s l c := by
  induction h with
  | one => exact fun _ => .one
  | @step y z c p l h1 h2 h3 ih =>
    intro hh
    exact .step (ih fun x hx => hh x (by
      show x ∈ y :: l
      exact List.mem_cons_of_mem _ hx)) (hh y List.mem_cons_self h2) h3
theorem Way.exts {l : List Int} {c : Int} (h : Way w ext s l c) : ∀ y ∈ l.tail, ext y := by
  induction h with
  | one => exact fun _ h => (nomatch h)
  | @step y z c p l h1 h2 h3 ih =>
    intro x hx
    rcases List.mem_cons.mp (show x ∈ y :: l from hx) with e | e
    · rw [e]
      exact h2
    · exact ih x e
theorem Way.append {m z c1 c2 : Int} {l1 l2 : List Int} (h1 : Way w ext1 s (m :: l1) c1) (e1 : ∀ y, ext1 y → ext y) (e2 : ∀ y, ext2 y → ext y) (h2 : Way w ext2 m (z :: l2) c2) : ∃ l, Way w ext s (z :: l) (c1 + c2) := by
  have gen : ∀ {l : List Int} {c : Int}, Way w ext2 m l c → ∃ z l3 l', l = z :: l3 ∧ Way w ext s (z :: l') (c1 + c) := by
    intro l c h
    induction h with
    | one => exact ⟨m, [], l1, rfl, by rw [Int.add_zero]; exact h1.wid fun y _ hy => e1 y hy⟩
    | @step y z c p l _ he hp ih =>
      obtain ⟨z', l3, l', e, h⟩ := ih
      injection e with e4 e5
      subst e4
      exact ⟨z, y :: l, y :: l', rfl, by
        rw [← Int.add_assoc]
        exact .step h (e2 y he) hp⟩
  obtain ⟨z', l3, l', e, h⟩ := gen h2
  injection e with e4 _
  subst e4
  exact ⟨l', h⟩
theorem Way.split {m : Int} {b : List Int} : ∀ (a : List Int) {c : Int}, Way w ext s (a ++ m :: b) c → ∃ c1 c2, Way w ext s (m :: b) c1 ∧ Way w ext m (a ++ [m]) c2 ∧ c = c1 + c2
  | [], c, h => ⟨c, 0, h, .one, by omega⟩
  | [z], c, h => by
    obtain ⟨d, p, h1, h2, h3, rfl⟩ := Way.inv h
    exact ⟨d, 0 + p, h1, .step .one h2 h3, by omega⟩
  | z :: y :: a, c, h => by
    obtain ⟨d, p, h1, h2, h3, rfl⟩ := Way.inv h
    obtain ⟨c1, c2, h4, h5, e⟩ := Way.split (y :: a) h1
    exact ⟨c1, c2 + p, h4, .step h5 h2 h3, by omega⟩
end
/-! ### the least of what is possible -/
def Least (P : Int → Prop) (o : Option Int) : Prop := (∀ c, o = some c → P c) ∧ ∀ c, P c → ∃ d, d ≤ c ∧ o = some d
theorem Least.uniq {P : Int → Prop} {o o' : Option Int} (h : Least P o) (h' : Least P o') : o = o' := by
  cases o with
  | none =>
    cases o' with
    | none => rfl
    | some c =>
      obtain ⟨d, _, e⟩ := h.2 c (h'.1 c rfl)
      cases e
  | some c =>
    obtain ⟨d, hd, e⟩ := h'.2 c (h.1 c rfl)
    subst e
    obtain ⟨c2, hc, e⟩ := h.2 d (h'.1 d rfl)
    cases e
    congr 1
    omega
theorem Least.congr {P P' : Int → Prop} {o : Option Int} (h : Least P o) (h1 : ∀ c, P c → ∃ d, d ≤ c ∧ P' d) (h2 : ∀ c, P' c → ∃ d, d ≤ c ∧ P d) : Least P' o := by
  have key : ∀ c, o = some c → P' c := fun c hc => by
    obtain ⟨d, hd, hp⟩ := h1 c (h.1 c hc)
    obtain ⟨e, he, hp2⟩ := h2 d hp
    obtain ⟨g, hg, e2⟩ := h.2 e hp2
    rw [hc] at e2
    cases e2
    have : d = c := by omega
    rw [← this]
    exact hp
  refine ⟨key, fun c hc => ?_⟩
  obtain ⟨d, hd, hp⟩ := h2 c hc
  obtain ⟨g, hg, e⟩ := h.2 d hp
  exact ⟨g, by omega, e⟩
/-- the least sum of a way from s to z -/
def Dist (w : Int → Int → Option Int) (ext : Int → Prop) (s z : Int) (o : Option Int) : Prop := Least (fun c => ∃ l, Way w ext s (z :: l) c) o
/-! ### bettering along the links -/
def updF {α : Type} (f : Int → α) (y : Int) (v : α) : Int → α := fun z => if z = y then v else f z
theorem updF_at {α : Type} {f : Int → α} {y : Int} {v : α} : updF f y v y = v := if_pos rfl
theorem updF_ne {α : Type} {f : Int → α} {y z : Int} {v : α} (h : z ≠ y) : updF f y v z = f z := if_neg h
def rlx (ext : Int → Bool) (f : Int → Option Int) (x y : Int) (o : Option Int) : Int → Option Int :=
  match o, f x with
  | some p, some c => if ext x then (match f y with
    | none => updF f y (some (c + p))
    | some d => if c + p < d then updF f y (some (c + p)) else f) else f
  | _, _ => f
def Bet (f g : Int → Option Int) : Prop := ∀ z c, f z = some c → ∃ d, d ≤ c ∧ g z = some d
theorem Bet.refl (f : Int → Option Int) : Bet f f := fun _ c h => ⟨c, Int.le_refl _, h⟩
theorem Bet.trans {f g h : Int → Option Int} (a : Bet f g) (b : Bet g h) : Bet f h := fun z c e => by
  obtain ⟨d, hd, e1⟩ := a z c e
  obtain ⟨d2, hd2, e2⟩ := b z d e1
  exact ⟨d2, by omega, e2⟩
section
variable {ext : Int → Bool} {f : Int → Option Int} {x y : Int} {o : Option Int}
theorem bet_rlx : Bet f (rlx ext f x y o) := fun z c hz => by
  unfold rlx
  cases o with
  | none => exact ⟨c, Int.le_refl _, hz⟩
  | some p =>
    cases ex : f x with
    | none => exact ⟨c, Int.le_refl _, hz⟩
    | some b =>
      dsimp only
      split
      · cases ey : f y with
        | none =>
          dsimp only
          have : z ≠ y := fun e => by
            rw [e, ey] at hz
            cases hz
          exact ⟨c, Int.le_refl _, by rw [updF_ne this]; exact hz⟩
        | some d =>
          dsimp only
          split
          · by_cases e : z = y
            · rw [e] at hz ⊢
              rw [ey] at hz
              cases hz
              exact ⟨b + p, by omega, updF_at⟩
            · exact ⟨c, Int.le_refl _, by rw [updF_ne e]; exact hz⟩
          · exact ⟨c, Int.le_refl _, hz⟩
      · exact ⟨c, Int.le_refl _, hz⟩
theorem rlx_done {b p : Int} (hx : f x = some b) (he : ext x = true) : ∃ d, d ≤ b + p ∧ rlx ext f x y (some p) y = some d := by
  unfold rlx
  rw [hx]
  dsimp only
  rw [if_pos he]
  cases ey : f y with
  | none => exact ⟨b + p, Int.le_refl _, updF_at⟩
  | some d =>
    dsimp only
    split
    · exact ⟨b + p, Int.le_refl _, updF_at⟩
    · exact ⟨d, by omega, ey⟩
theorem rlx_sound {P : Int → Int → Prop} (h : ∀ z c, f z = some c → P z c) (hp : ∀ b p, o = some p → ext x = true → P x b → P y (b + p)) : ∀ z c, rlx ext f x y o z = some c → P z c := fun z c hz => by
  unfold rlx at hz
  cases o with
  | none => exact h z c hz
  | some p =>
    cases ex : f x with
    | none =>
      rw [ex] at hz
      exact h z c hz
    | some b =>
      rw [ex] at hz
      dsimp only at hz
      by_cases he : ext x = true
      · rw [if_pos he] at hz
        have key : ∀ z c, updF f y (some (b + p)) z = some c → P z c := fun z c hz => by
          by_cases e : z = y
          · rw [e, updF_at] at hz
            cases hz
            rw [e]
            exact hp b p rfl he (h x b ex)
          · rw [updF_ne e] at hz
            exact h z c hz
        cases ey : f y with
        | none =>
          rw [ey] at hz
          exact key z c hz
        | some d =>
          rw [ey] at hz
          dsimp only at hz
          by_cases hl : b + p < d
          · rw [if_pos hl] at hz
            exact key z c hz
          · rw [if_neg hl] at hz
            exact h z c hz
      · rw [if_neg he] at hz
        exact h z c hz
end
def rlxL (ext : Int → Bool) (f : Int → Option Int) (l : Lnk) : Int → Option Int := rlx ext (rlx ext f l.a l.b l.t) l.b l.a l.k
def rnd (ext : Int → Bool) (ls : List Lnk) (f : Int → Option Int) : Int → Option Int := ls.foldl (rlxL ext) f
def bf0 (s : Int) : Int → Option Int := fun z => if z = s then some 0 else none
def bf (ext : Int → Bool) (ls : List Lnk) (s : Int) : Nat → Int → Option Int
  | 0 => bf0 s
  | t + 1 => rnd ext ls (bf ext ls s t)
theorem bet_rnd {ext : Int → Bool} : ∀ (ls : List Lnk) (f : Int → Option Int), Bet f (rnd ext ls f)
  | [], f => Bet.refl f
  | l :: ls, f => (Bet.trans bet_rlx bet_rlx).trans (bet_rnd ls _)
theorem rnd_done {ext : Int → Bool} {l : Lnk} {b : Int} : ∀ (ls : List Lnk) (f : Int → Option Int), l ∈ ls → (∀ p, f l.a = some b → ext l.a = true → l.t = some p → ∃ d, d ≤ b + p ∧ rnd ext ls f l.b = some d) ∧ ∀ p, f l.b = some b → ext l.b = true → l.k = some p → ∃ d, d ≤ b + p ∧ rnd ext ls f l.a = some d
  | [], f, h => nomatch h
  | m :: ls, f, h => by
    have hB : Bet (rlxL ext f m) (rnd ext (m :: ls) f) := bet_rnd ls _
    by_cases c : l = m
    · subst c
      constructor
      · intro p hf he hp
        obtain ⟨d, hd, e⟩ := rlx_done (y := l.b) (p := p) hf he
        rw [← hp] at e
        obtain ⟨d2, hd2, e2⟩ := (bet_rlx (ext := ext) (f := rlx ext f l.a l.b l.t) (x := l.b) (y := l.a) (o := l.k)) l.b d e
        obtain ⟨d3, hd3, e3⟩ := hB l.b d2 e2
        exact ⟨d3, by omega, e3⟩
      · intro p hf he hp
        obtain ⟨b2, hb2, e1⟩ := (bet_rlx (ext := ext) (f := f) (x := l.a) (y := l.b) (o := l.t)) l.b b hf
        obtain ⟨d, hd, e⟩ := rlx_done (y := l.a) (p := p) e1 he
        rw [← hp] at e
        obtain ⟨d3, hd3, e3⟩ := hB l.a d e
        exact ⟨d3, by omega, e3⟩
    · have hm : l ∈ ls := by
        rcases List.mem_cons.mp h with e | e
        · exact absurd e c
        · exact e
      have hB2 : Bet f (rlxL ext f m) := Bet.trans bet_rlx bet_rlx
      constructor
      · intro p hf he hp
        obtain ⟨b2, hb2, e1⟩ := hB2 l.a b hf
        obtain ⟨d, hd, e⟩ := (rnd_done (b := b2) ls (rlxL ext f m) hm).1 p e1 he hp
        exact ⟨d, by omega, e⟩
      · intro p hf he hp
        obtain ⟨b2, hb2, e1⟩ := hB2 l.b b hf
        obtain ⟨d, hd, e⟩ := (rnd_done (b := b2) ls (rlxL ext f m) hm).2 p e1 he hp
        exact ⟨d, by omega, e⟩
theorem rnd_sound {ext : Int → Bool} {P : Int → Int → Prop} : ∀ (ls : List Lnk) (f : Int → Option Int), (∀ z c, f z = some c → P z c) → (∀ l ∈ ls, (∀ b p, l.t = some p → ext l.a = true → P l.a b → P l.b (b + p)) ∧ ∀ b p, l.k = some p → ext l.b = true → P l.b b → P l.a (b + p)) → ∀ z c, rnd ext ls f z = some c → P z c
  | [], f, h, _ => h
  | l :: ls, f, h, hl => rnd_sound ls _ (rlx_sound (rlx_sound h (hl l List.mem_cons_self).1) (hl l List.mem_cons_self).2) fun m hm => hl m (List.mem_cons_of_mem _ hm)
section
variable {N : Net}
theorem linkW_of : ∀ {ls : List Lnk} {x y c : Int}, linkW ls x y = some c → ∃ l ∈ ls, (l.a = x ∧ l.b = y ∧ l.t = some c) ∨ (l.b = x ∧ l.a = y ∧ l.k = some c)
  | [], _, _, _, h => nomatch h
  | l :: ls, x, y, c, h => by
    unfold linkW at h
    by_cases c1 : l.a = x ∧ l.b = y
    · rw [if_pos c1] at h
      exact ⟨l, List.mem_cons_self, .inl ⟨c1.1, c1.2, h⟩⟩
    · rw [if_neg c1] at h
      by_cases c2 : l.b = x ∧ l.a = y
      · rw [if_pos c2] at h
        exact ⟨l, List.mem_cons_self, .inr ⟨c2.1, c2.2, h⟩⟩
      · rw [if_neg c2] at h
        obtain ⟨m, hm, e⟩ := linkW_of h
        exact ⟨m, List.mem_cons_of_mem _ hm, e⟩
theorem linkW_at : ∀ {ls : List Lnk} {l : Lnk}, ls.Pairwise LnkLt → (∀ m ∈ ls, m.a < m.b) → l ∈ ls → linkW ls l.a l.b = l.t ∧ linkW ls l.b l.a = l.k
  | [], _, _, _, h => nomatch h
  | m :: ls, l, hp, ha, h => by
    have hp := List.pairwise_cons.mp hp
    have hm := ha m List.mem_cons_self
    have hl := ha l h
    unfold linkW
    rcases List.mem_cons.mp h with e | e
    · subst e
      rw [if_pos ⟨rfl, rfl⟩, if_neg (by omega), if_pos ⟨rfl, rfl⟩]
      exact ⟨rfl, rfl⟩
    · have h1 := hp.1 l e
      unfold LnkLt at h1
      rw [if_neg (by omega), if_neg (by omega), if_neg (by omega), if_neg (by omega)]
      exact linkW_at hp.2 (fun m hm => ha m (List.mem_cons_of_mem _ hm)) e
theorem linkW_in (ok : NetOk N) {x y c : Int} (h : linkW N.ls x y = some c) : (0 ≤ x ∧ x < N.n) ∧ (0 ≤ y ∧ y < N.n) ∧ x ≠ y ∧ adj0 N.ls x y = true := by
  obtain ⟨l, hl, e⟩ := linkW_of h
  have o := ok.ok l hl
  have := o.a0
  have := o.ab
  have := o.bn
  have ad : adj0 N.ls x y = true := adj0_iff.mpr ⟨l, hl, by omega⟩
  refine ⟨?_, ?_, ?_, ad⟩ <;> omega
theorem pos_net (ok : NetOk N) : Pos (linkW N.ls) := fun x y c h => by
  have := linkW_ok ok.ok h
  omega
/-- bettering finds the least sums -/
theorem bf_dist (ok : NetOk N) {ext : Int → Bool} {s : Int} (hs : 0 ≤ s ∧ s < N.n) (z : Int) : Dist (linkW N.ls) (fun y => ext y = true) s z (bf ext N.ls s N.n.toNat z) := by
  have hw := pos_net ok
  constructor
  · have gen : ∀ t z c, bf ext N.ls s t z = some c → ∃ l, Way (linkW N.ls) (fun y => ext y = true) s (z :: l) c := by
      intro t
      induction t with
      | zero =>
        intro z c h
        have h : (if z = s then some (0 : Int) else none) = some c := h
        by_cases e : z = s
        · rw [if_pos e] at h
          cases h
          rw [e]
          exact ⟨[], .one⟩
        · rw [if_neg e] at h
          cases h
      | succ t ih =>
        refine rnd_sound N.ls _ ih fun l hl => ?_
        obtain ⟨e1, e2⟩ := linkW_at ok.lt (fun m hm => (ok.ok m hm).ab) hl
        constructor
        · rintro b p hp he ⟨l', h⟩
          exact ⟨_, .step h he (e1.trans hp)⟩
        · rintro b p hp he ⟨l', h⟩
          exact ⟨_, .step h he (e2.trans hp)⟩
    exact fun c h => gen _ z c h
  · have gen : ∀ t z (l : List Int) c, Way (linkW N.ls) (fun y => ext y = true) s (z :: l) c → l.length ≤ t → ∃ d, d ≤ c ∧ bf ext N.ls s t z = some d := by
      intro t
      induction t with
      | zero =>
        intro z l c h hl
        have : l = [] := List.eq_nil_of_length_eq_zero (by omega)
        subst this
        obtain ⟨rfl, rfl⟩ := h.one_inv
        exact ⟨0, Int.le_refl _, if_pos rfl⟩
      | succ t ih =>
        intro z l c h hl
        cases l with
        | nil =>
          obtain ⟨rfl, rfl⟩ := h.one_inv
          obtain ⟨d, hd, e⟩ := ih z [] 0 .one (Nat.zero_le _)
          obtain ⟨d2, hd2, e2⟩ := bet_rnd (ext := ext) N.ls _ z d e
          exact ⟨d2, by omega, e2⟩
        | cons y l =>
          obtain ⟨b, p, h1, he, hp, rfl⟩ := h.inv
          obtain ⟨d, hd, e⟩ := ih y l b h1 (by
            rw [List.length_cons] at hl
            omega)
          obtain ⟨m, hm, e2⟩ := linkW_of hp
          rcases e2 with ⟨e3, e4, e5⟩ | ⟨e3, e4, e5⟩
          · obtain ⟨d2, hd2, e6⟩ := (rnd_done (ext := ext) (l := m) (b := d) N.ls (bf ext N.ls s t) hm).1 p (by rw [e3]; exact e) (by rw [e3]; exact he) e5
            rw [e4] at e6
            exact ⟨d2, by omega, e6⟩
          · obtain ⟨d2, hd2, e6⟩ := (rnd_done (ext := ext) (l := m) (b := d) N.ls (bf ext N.ls s t) hm).2 p (by rw [e3]; exact e) (by rw [e3]; exact he) e5
            rw [e4] at e6
            exact ⟨d2, by omega, e6⟩
    rintro c ⟨l, h⟩
    obtain ⟨l', d, hd, h2, hn, _⟩ := Way.simple hw _ z l c (Nat.le_refl _) h
    have hin : ∀ (l : List Int) c, Way (linkW N.ls) (fun y => ext y = true) s l c → ∀ y ∈ l, y ∈ rng N.n := by
      intro l c h
      induction h with
      | one =>
        intro y hy
        rw [List.mem_singleton.mp hy]
        exact mem_rng.mpr hs
      | step h1 _ hp ih =>
        intro y hy
        rcases List.mem_cons.mp hy with e | e
        · rw [e]
          exact mem_rng.mpr (linkW_in ok hp).2.1
        · exact ih y e
    have hl : (z :: l').length ≤ (rng N.n).length := sub_len hn (hin _ _ h2)
    rw [len_rng, List.length_cons] at hl
    obtain ⟨d2, hd2, e⟩ := gen N.n.toNat z l' d h2 (by omega)
    exact ⟨d2, by omega, e⟩
end
/-! ### filled-in prices are least sums -/
/-- the highest of the places of a list -/
theorem top_of (p : Int → Nat) : ∀ (l : List Int), l ≠ [] → ∃ m ∈ l, ∀ y ∈ l, p y ≤ p m
  | [], h => absurd rfl h
  | [x], _ => ⟨x, List.mem_cons_self, fun y hy => by rw [List.mem_singleton.mp hy]; exact Nat.le_refl _⟩
  | x :: y :: l, _ => by
    obtain ⟨m, hm, h⟩ := top_of p (y :: l) (List.cons_ne_nil _ _)
    by_cases c : p m ≤ p x
    · refine ⟨x, List.mem_cons_self, fun z hz => ?_⟩
      rcases List.mem_cons.mp hz with e | e
      · rw [e]
        exact Nat.le_refl _
      · exact Nat.le_trans (h z e) c
    · refine ⟨m, List.mem_cons_of_mem _ hm, fun z hz => ?_⟩
      rcases List.mem_cons.mp hz with e | e
      · rw [e]
        omega
      · exact h z e
theorem best_fst {o : Option Int} {s : Int → Option Int} {P : Int → Prop} (ws : List Int) (h0 : ∀ c, o = some c → P c) (h : ∀ w ∈ ws, ∀ c, s w = some c → P c) : ∀ c, (bestF o s ws).1 = some c → P c :=
  (best_all (P := P) (M := fun _ => True) (s := s) ws (o, none) h0 (fun _ _ => trivial) fun w hw => ⟨h w hw, trivial⟩).1
/-- the best is no greater than what is compared -/
theorem best_le {s : Int → Option Int} : ∀ (ws : List Int) (acc : Option Int × Option Int), (∀ c, acc.1 = some c → ∃ d, d ≤ c ∧ (ws.foldl (bestStep s) acc).1 = some d) ∧ ∀ w ∈ ws, ∀ c, s w = some c → ∃ d, d ≤ c ∧ (ws.foldl (bestStep s) acc).1 = some d
  | [], acc => ⟨fun c h => ⟨c, Int.le_refl _, h⟩, fun _ h => (nomatch h)⟩
  | w :: ws, acc => by
    obtain ⟨h1, h2⟩ := best_le (s := s) ws (bestStep s acc w)
    have k1 : ∀ c, acc.1 = some c → ∃ d, d ≤ c ∧ (bestStep s acc w).1 = some d := fun c hc => by
      unfold bestStep
      cases e : s w with
      | none => exact ⟨c, Int.le_refl _, hc⟩
      | some t =>
        rw [hc]
        dsimp only
        split
        · exact ⟨t, by omega, rfl⟩
        · exact ⟨c, Int.le_refl _, hc⟩
    have k2 : ∀ c, s w = some c → ∃ d, d ≤ c ∧ (bestStep s acc w).1 = some d := fun c hc => by
      unfold bestStep
      rw [hc]
      cases e : acc.1 with
      | none => exact ⟨c, Int.le_refl _, rfl⟩
      | some b =>
        dsimp only
        split
        · exact ⟨c, Int.le_refl _, rfl⟩
        · exact ⟨b, by omega, e⟩
    constructor
    · intro c hc
      obtain ⟨d, hd, e⟩ := k1 c hc
      obtain ⟨d2, hd2, e2⟩ := h1 d e
      exact ⟨d2, by omega, e2⟩
    · intro x hx c hc
      rcases List.mem_cons.mp hx with e | e
      · rw [e] at hc
        obtain ⟨d, hd, e1⟩ := k2 c hc
        obtain ⟨d2, hd2, e2⟩ := h1 d e1
        exact ⟨d2, by omega, e2⟩
      · exact h2 x e c hc
theorem bestF_first {o : Option Int} {s : Int → Option Int} {ws : List Int} {c : Int} (h : o = some c) : ∃ d, d ≤ c ∧ (bestF o s ws).1 = some d := (best_le (s := s) ws (o, none)).1 c h
theorem bestF_le {o : Option Int} {s : Int → Option Int} {ws : List Int} {c x : Int} (hx : x ∈ ws) (h : s x = some c) : ∃ d, d ≤ c ∧ (bestF o s ws).1 = some d := (best_le (s := s) ws (o, none)).2 x hx c h
section
variable {N : Net} {os : List Int} {rows : List Row}
/-- a way over lower places makes a pair -/
theorem way_rch (ok : NetOk N) {ext : Int → Prop} {s : Int} {low : Int → Prop} : ∀ {l : List Int} {z c : Int}, Way (linkW N.ls) ext s (z :: l) c → l ≠ [] → (∀ y ∈ l, y ≠ s → low y) → (z :: l).Nodup → Rch (adj0 N.ls) low s z
  | [], _, _, _, h, _, _ => absurd rfl h
  | [y], z, c, h, _, _, _ => by
    obtain ⟨d, p, h1, _, hp, rfl⟩ := h.inv
    obtain ⟨rfl, rfl⟩ := h1.one_inv
    exact .one (linkW_in ok hp).2.2.2
  | y :: x :: l, z, c, h, _, hl, hn => by
    obtain ⟨d, p, h1, _, hp, rfl⟩ := h.inv
    have hn2 := (List.nodup_cons.mp hn).2
    have ys : y ≠ s := fun e => by
      obtain ⟨l', e2⟩ := h1.last
      have hs : s ∈ x :: l := by
        cases l' with
        | nil => injection e2 with _ e4; cases e4
        | cons a l' =>
          injection e2 with _ e4
          rw [e4]
          exact List.mem_append.mpr (.inr List.mem_cons_self)
      rw [← e] at hs
      exact (List.nodup_cons.mp hn2).1 hs
    exact .step (way_rch ok h1 (List.cons_ne_nil _ _) (fun v hv => hl v (List.mem_cons_of_mem _ hv)) hn2) (hl y List.mem_cons_self ys) (linkW_in ok hp).2.2.2
theorem prR_up (ok : NetOk N) (oo : OrdOk N.n os) (h : FillOk N os rows) {r : Row} (hr : r ∈ rows) : prR rows r.u r.v = r.up ∧ prR rows r.v r.u = r.dn := by
  have hm : (r.u, r.v) ∈ rows.map prOf := List.mem_map.mpr ⟨r, hr, rfl⟩
  have hnd : (rows.map prOf).Nodup := by
    have := pairsL_nodup (ls := N.ls) oo
    rw [← h.pairs] at this
    exact this
  have uniq : ∀ q ∈ rows, q.u = r.u → q.v = r.v → q = r := fun q hq e1 e2 => by
    obtain ⟨i, hi⟩ := List.mem_iff_getElem?.mp hq
    obtain ⟨j, hj⟩ := List.mem_iff_getElem?.mp hr
    have hi2 := (List.getElem?_eq_some_iff.mp hi).1
    have : i = j := by
      refine (List.getElem?_inj (l := rows.map prOf) (by rw [List.length_map]; exact hi2) hnd).mp ?_
      rw [List.getElem?_map, List.getElem?_map, hi, hj]
      show some (q.u, q.v) = some (r.u, r.v)
      rw [e1, e2]
    subst this
    exact Option.some.inj (hi.symm.trans hj)
  obtain ⟨q, e, hq, e1, e2⟩ := find_some hm
  have qr := uniq q hq e1 e2
  subst qr
  have n1 : (q.v, q.u) ∉ rows.map prOf := by
    have h1 : (q.u, q.v) ∈ pairsL N.ls os := by
      rw [← h.pairs]
      exact hm
    have := anti ok oo h1
    rw [← h.pairs] at this
    exact this
  constructor
  · unfold prR
    rw [e]
  · unfold prR
    rw [find_none n1, e]
theorem fill_row (ok : NetOk N) (oo : OrdOk N.n os) (h : FillOk N os rows) {u v : Int} (hp : PairP N.ls os u v) : ∃ r ∈ rows, r.u = u ∧ r.v = v := by
  have := (mem_pairsL ok oo).mpr hp
  rw [← h.pairs] at this
  obtain ⟨r, hr, e⟩ := List.mem_map.mp this
  exact ⟨r, hr, congrArg Prod.fst e, congrArg Prod.snd e⟩
/-- places lower than m, and the first one -/
def loExt (os : List Int) (s : Int) (m : Nat) : Int → Prop := fun y => y = s ∨ posOf y os < m
/-- one way of a pair: from x to y, its lower place has rank k -/
theorem fill_one (ok : NetOk N) (oo : OrdOk N.n os) {x y : Int} {k : Nat} {o : Option Int} {lw : List Int} {s : Int → Option Int} {F : Int → Int → Option Int}
    (xy : x ≠ y) (hx : x ∈ os) (hkx : k ≤ posOf x os) (hky : k ≤ posOf y os) (ho : o = (bestF (linkW N.ls x y) (fun w => addO (F x w) (F w y)) lw).1)
    (hlw : ∀ w, w ∈ lw ↔ PairP N.ls os w x ∧ PairP N.ls os w y) (hlk : ∀ w ∈ lw, posOf w os < k)
    (ih : ∀ w ∈ lw, Dist (linkW N.ls) (loExt os x (posOf w os)) x w (F x w) ∧ Dist (linkW N.ls) (loExt os w (posOf w os)) w y (F w y)) : Dist (linkW N.ls) (loExt os x k) x y o := by
  have hw := pos_net ok
  subst ho
  constructor
  · refine best_fst (P := fun c => ∃ l, Way (linkW N.ls) (loExt os x k) x (y :: l) c) lw (fun c hc => ⟨[x], ?_⟩) fun w hwl c hc => ?_
    · have := Way.step (Way.one (w := linkW N.ls) (ext := loExt os x k) (s := x)) (.inl rfl) hc
      rw [Int.zero_add] at this
      exact this
    · obtain ⟨a, b, ha, hb, rfl⟩ := addO_some hc
      obtain ⟨h1, h2⟩ := ih w hwl
      obtain ⟨l1, w1⟩ := h1.1 a ha
      obtain ⟨l2, w2⟩ := h2.1 b hb
      have hk := hlk w hwl
      exact w1.append (fun z hz => hz.imp id fun z => by omega) (fun z hz => .inr (by
        rcases hz with e | e
        · rw [e]
          exact hk
        · omega)) w2
  · rintro c ⟨l, h⟩
    obtain ⟨l, d, hd, h, hn, _⟩ := Way.simple hw _ y l c (Nat.le_refl _) h
    have hex := h.exts
    have done : ∀ e, e ≤ d → (∃ g, g ≤ e ∧ (bestF (linkW N.ls x y) (fun w => addO (F x w) (F w y)) lw).1 = some g) → ∃ g, g ≤ c ∧ (bestF (linkW N.ls x y) (fun w => addO (F x w) (F w y)) lw).1 = some g := fun e he ⟨g, hg, e2⟩ => ⟨g, by omega, e2⟩
    -- the inner places
    obtain ⟨l', e⟩ := h.last
    cases l' with
    | nil =>
      injection e with e1 _
      exact absurd e1.symm xy
    | cons y' inn =>
      injection e with e1 e2
      have e2 : l = inn ++ [x] := e2
      subst e2
      by_cases hi : inn = []
      · subst hi
        obtain ⟨b, p, h1, _, hp, rfl⟩ := Way.inv h
        obtain ⟨_, rfl⟩ := h1.one_inv
        exact done p (by omega) (bestF_first hp)
      · obtain ⟨m, hm, htop⟩ := top_of (fun z => posOf z os) inn hi
        obtain ⟨a, b, rfl⟩ := List.append_of_mem hm
        have hn0 : (y :: (a ++ m :: b) ++ [x]).Nodup := hn
        have hnd : (y :: (a ++ (m :: (b ++ [x])))).Nodup := by
          have : y :: (a ++ m :: b) ++ [x] = y :: (a ++ (m :: (b ++ [x]))) := by simp
          rw [← this]
          exact hn0
        have h' : Way (linkW N.ls) (loExt os x k) x ((y :: a) ++ m :: (b ++ [x])) d := by
          have : (y :: a) ++ m :: (b ++ [x]) = y :: ((a ++ m :: b) ++ [x]) := by simp
          rw [this]
          exact h
        obtain ⟨c1, c2, w1, w2, rfl⟩ := Way.split (y :: a) h'
        have hmx : m ≠ x := fun e => by
          have h3 := (List.nodup_cons.mp hnd).2
          have h4 := (List.nodup_append.mp h3).2.1
          exact (List.nodup_cons.mp h4).1 (by rw [e]; exact List.mem_append.mpr (.inr List.mem_cons_self))
        have hmk : posOf m os < k := by
          have := hex m (by
            show m ∈ (a ++ m :: b) ++ [x]
            exact List.mem_append.mpr (.inl hm))
          rcases this with e | e
          · exact absurd e hmx
          · exact e
        have inos : ∀ (l : List Int) (q c : Int) (ext : Int → Prop), q ∈ os → Way (linkW N.ls) ext q l c → ∀ z ∈ l, z ∈ os := by
          intro l q c ext hq h
          induction h with
          | one =>
            intro z hz
            rw [List.mem_singleton.mp hz]
            exact hq
          | step _ _ hp ih =>
            intro z hz
            rcases List.mem_cons.mp hz with e | e
            · rw [e]
              exact oo.mem.mpr (linkW_in ok hp).2.1
            · exact ih z e
        have hall := inos _ _ _ _ hx h'
        have hmo : m ∈ os := hall m (by simp)
        have lower : ∀ z ∈ a ++ m :: b, z ≠ m → posOf z os < posOf m os := fun z hz hne => by
          have h1 : posOf z os ≤ posOf m os := htop z hz
          have h2 : posOf z os ≠ posOf m os := fun e => hne (pos_inj (hall z (by
            rcases List.mem_append.mp hz with q | q
            · exact List.mem_append.mpr (.inl (List.mem_cons_of_mem _ q))
            · rcases List.mem_cons.mp q with q | q
              · exact absurd q hne
              · exact List.mem_append.mpr (.inr (List.mem_cons_of_mem _ (List.mem_append.mpr (.inl q)))))) hmo e)
          omega
        have nb : m ∉ b := fun q => by
          have h3 := (List.nodup_cons.mp hnd).2
          have h4 := (List.nodup_append.mp h3).2.1
          exact (List.nodup_cons.mp h4).1 (List.mem_append.mpr (.inl q))
        have na : m ∉ a := fun q => by
          have h3 := (List.nodup_cons.mp hnd).2
          exact (List.nodup_append.mp h3).2.2 m q m List.mem_cons_self rfl
        have lb : ∀ z ∈ b, posOf z os < posOf m os := fun z hz => lower z (List.mem_append.mpr (.inr (List.mem_cons_of_mem _ hz))) fun e => nb (by rw [← e]; exact hz)
        have la : ∀ z ∈ a, posOf z os < posOf m os := fun z hz => lower z (List.mem_append.mpr (.inl hz)) fun e => na (by rw [← e]; exact hz)
        have w1' : Way (linkW N.ls) (loExt os x (posOf m os)) x (m :: (b ++ [x])) c1 := w1.wid fun z hz _ => by
          rcases List.mem_append.mp (show z ∈ b ++ [x] from hz) with q | q
          · exact .inr (lb z q)
          · exact .inl (List.mem_singleton.mp q)
        have w2' : Way (linkW N.ls) (loExt os m (posOf m os)) m (y :: (a ++ [m])) c2 := Way.wid w2 fun z hz _ => by
          rcases List.mem_append.mp (show z ∈ a ++ [m] from hz) with q | q
          · exact .inr (la z q)
          · exact .inl (List.mem_singleton.mp q)
        have nd1 : (m :: (b ++ [x])).Nodup := by
          have h3 := (List.nodup_cons.mp hnd).2
          exact (List.nodup_append.mp h3).2.1
        have nd2 : (y :: (a ++ [m])).Nodup := by
          rw [List.nodup_cons] at hnd ⊢
          have h3 := List.nodup_append.mp hnd.2
          refine ⟨fun q => hnd.1 ?_, List.nodup_append.mpr ⟨h3.1, List.nodup_cons.mpr ⟨List.not_mem_nil, .nil⟩, fun p hp q hq => h3.2.2 p hp q (by rw [List.mem_singleton.mp hq]; exact List.mem_cons_self)⟩⟩
          rcases List.mem_append.mp q with q | q
          · exact List.mem_append.mpr (.inl q)
          · exact List.mem_append.mpr (.inr (by rw [List.mem_singleton.mp q]; exact List.mem_cons_self))
        have r1 : Rch (adj0 N.ls) (fun z => posOf z os < posOf m os) x m := way_rch ok w1' (by simp) (fun z hz hzx => by
          rcases List.mem_append.mp hz with q | q
          · exact lb z q
          · exact absurd (List.mem_singleton.mp q) hzx) nd1
        have r2 : Rch (adj0 N.ls) (fun z => posOf z os < posOf m os) m y := way_rch ok w2' (by simp) (fun z hz hzx => by
          rcases List.mem_append.mp hz with q | q
          · exact la z q
          · exact absurd (List.mem_singleton.mp q) hzx) nd2
        have p1 : PairP N.ls os m x := ⟨by omega, r1.sym (adj0_ok ok)⟩
        have p2 : PairP N.ls os m y := ⟨by omega, r2⟩
        have hml := (hlw m).mpr ⟨p1, p2⟩
        obtain ⟨i1, i2⟩ := ih m hml
        obtain ⟨g1, hg1, e1⟩ := i1.2 c1 ⟨_, w1'⟩
        obtain ⟨g2, hg2, e2⟩ := i2.2 c2 ⟨_, w2'⟩
        exact done (g1 + g2) (by omega) (bestF_le (c := g1 + g2) hml (by
          show addO (F x m) (F m y) = some (g1 + g2)
          rw [e1, e2]
          rfl))
theorem fill_dist (ok : NetOk N) (oo : OrdOk N.n os) (h : FillOk N os rows) : ∀ (k : Nat) (u v : Int), posOf u os = k → PairP N.ls os u v → Dist (linkW N.ls) (loExt os u k) u v (prR rows u v) ∧ Dist (linkW N.ls) (loExt os v k) v u (prR rows v u) := by
  intro k
  induction k using Nat.strongRecOn with
  | ind k ih =>
    intro u v hk hp
    obtain ⟨r, hr, rfl, rfl⟩ := fill_row ok oo h hp
    have hpi := hp.ins ok
    have hu := oo.mem.mpr hpi.1
    have hv := oo.mem.mpr hpi.2
    have huv := hp.1
    have e1 := congrArg Prod.fst (h.up r hr)
    have e2 := congrArg Prod.fst (h.dn r hr)
    obtain ⟨q1, q2⟩ := prR_up ok oo h hr
    have mem : ∀ w, w ∈ lowerL (pairsL N.ls os) os r.u r.v ↔ PairP N.ls os w r.u ∧ PairP N.ls os w r.v := fun w => by
      rw [mem_lowerL, mem_pairsL ok oo, mem_pairsL ok oo]
      exact ⟨fun q => q.2, fun q => ⟨oo.mem.mpr (q.1.ins ok).1, q⟩⟩
    have low : ∀ w ∈ lowerL (pairsL N.ls os) os r.u r.v, posOf w os < k := fun w hw => by
      have := ((mem w).mp hw).1.1
      omega
    rw [q1, q2]
    constructor
    · exact fill_one (F := prR rows) (s := fun _ => none) ok oo hp.ne hu (by omega) (by omega) e1 mem low fun w hw => ⟨(ih _ (low w hw) w r.u rfl ((mem w).mp hw).1).2, (ih _ (low w hw) w r.v rfl ((mem w).mp hw).2).1⟩
    · exact fill_one (F := prR rows) (s := fun _ => none) ok oo hp.ne.symm hv (by omega) (by omega) e2 (fun w => by rw [mem, And.comm]) low fun w hw => ⟨(ih _ (low w hw) w r.v rfl ((mem w).mp hw).2).2, (ih _ (low w hw) w r.u rfl ((mem w).mp hw).1).1⟩
end
/-! ### ways that go up -/
inductive UpW (F : Int → Int → Option Int) (pos : Int → Nat) (s : Int) : Int → Int → Prop
  | one : UpW F pos s s 0
  | step {y x c p : Int} : UpW F pos s y c → pos y < pos x → F y x = some p → UpW F pos s x (c + p)
theorem UpW.le {F : Int → Int → Option Int} {pos : Int → Nat} {s x c : Int} (h : UpW F pos s x c) : x = s ∨ pos s < pos x := by
  induction h with
  | one => exact .inl rfl
  | step _ hl _ ih =>
    rcases ih with e | e
    · rw [e] at hl
      exact .inr hl
    · exact .inr (Nat.lt_trans e hl)
/-! ### the search over the rows -/
def sumStep (cols : Row → Option Int) (f : Int → Option Int × Option Int) (r : Row) : Int → Option Int × Option Int :=
  match (f r.u).1, cols r with
  | some b, some p => match (f r.v).1 with
    | none => updF f r.v (some (b + p), some r.u)
    | some k => if b + p < k then updF f r.v (some (b + p), some r.u) else f
  | _, _ => f
def sums0 (s : Int) : Int → Option Int × Option Int := fun z => if z = s then (some 0, none) else (none, none)
def sumsF (cols : Row → Option Int) (s : Int) (rows : List Row) : Int → Option Int × Option Int := rows.foldl (sumStep cols) (sums0 s)
section
variable {cols : Row → Option Int} {f : Int → Option Int × Option Int}
theorem sumStep_ne {r : Row} {z : Int} (h : z ≠ r.v) : sumStep cols f r z = f z := by
  unfold sumStep
  cases (f r.u).1 with
  | none => rfl
  | some b =>
    cases cols r with
    | none => rfl
    | some p =>
      cases (f r.v).1 with
      | none => exact updF_ne h
      | some k =>
        dsimp only
        split
        · exact updF_ne h
        · rfl
/-- at the higher place the step is a bettering -/
theorem sumStep_at {r : Row} : sumStep cols f r r.v = bestStep (fun u => addO (f u).1 (cols r)) (f r.v) r.u := by
  unfold sumStep bestStep
  dsimp only
  cases e1 : (f r.u).1 with
  | none => rfl
  | some b =>
    cases e2 : cols r with
    | none => rfl
    | some p =>
      show _ = (match some (b + p) with
        | none => f r.v
        | some t => match (f r.v).1 with
          | none => (some t, some r.u)
          | some b => if t < b then (some t, some r.u) else f r.v)
      dsimp only
      cases e3 : (f r.v).1 with
      | none => exact updF_at
      | some k =>
        dsimp only
        split
        · exact updF_at
        · rfl
theorem sums_keep : ∀ (rows : List Row) (f : Int → Option Int × Option Int) {x : Int}, (∀ r ∈ rows, r.v ≠ x) → rows.foldl (sumStep cols) f x = f x
  | [], _, _, _ => rfl
  | r :: rows, f, x, h => by
    rw [List.foldl_cons, sums_keep rows _ fun q hq => h q (List.mem_cons_of_mem _ hq)]
    exact sumStep_ne (h r List.mem_cons_self).symm
theorem bet_step {r : Row} : Bet (fun z => (f z).1) (fun z => (sumStep cols f r z).1) := fun z c hz => by
  show ∃ d, d ≤ c ∧ (sumStep cols f r z).1 = some d
  by_cases e : z = r.v
  · subst e
    rw [sumStep_at]
    exact (best_le (s := fun u => addO (f u).1 (cols r)) [r.u] (f r.v)).1 c hz
  · rw [sumStep_ne e]
    exact ⟨c, Int.le_refl _, hz⟩
theorem bet_sums : ∀ (rows : List Row) (f : Int → Option Int × Option Int), Bet (fun z => (f z).1) (fun z => (rows.foldl (sumStep cols) f z).1)
  | [], f => Bet.refl _
  | r :: rows, f => Bet.trans (bet_step (cols := cols) (r := r)) (bet_sums rows (sumStep cols f r))
theorem sums_sound {F : Int → Int → Option Int} {pos : Int → Nat} {s : Int} : ∀ (rows : List Row) (f : Int → Option Int × Option Int), (∀ r ∈ rows, F r.u r.v = cols r ∧ pos r.u < pos r.v) → (∀ z c, (f z).1 = some c → UpW F pos s z c) → ∀ z c, (rows.foldl (sumStep cols) f z).1 = some c → UpW F pos s z c
  | [], f, _, h => h
  | r :: rows, f, hr, h => by
    refine sums_sound rows _ (fun q hq => hr q (List.mem_cons_of_mem _ hq)) fun z c hz => ?_
    by_cases e : z = r.v
    · subst e
      rw [sumStep_at] at hz
      refine (best_all (P := fun c => UpW F pos s r.v c) (M := fun _ => True) (s := fun u => addO (f u).1 (cols r)) [r.u] (f r.v) (fun c hc => h _ c hc) (fun _ _ => trivial) fun w hw => ⟨fun c hc => ?_, trivial⟩).1 c hz
      rw [List.mem_singleton.mp hw] at hc
      obtain ⟨a, b, ha, hb, rfl⟩ := addO_some hc
      obtain ⟨h1, h2⟩ := hr r List.mem_cons_self
      exact .step (h _ a ha) h2 (h1.trans hb)
    · rw [sumStep_ne e] at hz
      exact h z c hz
/-- what the rows make of one place -/
theorem sums_one {F : Int → Int → Option Int} {pos : Int → Nat} {x : Int} : ∀ (rows : List Row) (f : Int → Option Int × Option Int), (∀ r ∈ rows, F r.u r.v = cols r ∧ pos r.u < pos r.v) → rows.Pairwise (fun r q => pos r.u ≤ pos q.u) →
    rows.foldl (sumStep cols) f x = (rows.filterMap fun r => if r.v = x then some r.u else none).foldl (bestStep fun u => addO (rows.foldl (sumStep cols) f u).1 (F u x)) (f x)
  | [], f, _, _ => rfl
  | r :: rows, f, hr, hp => by
    have hp2 := List.pairwise_cons.mp hp
    have h1 := hr r List.mem_cons_self
    have ih := sums_one (F := F) (pos := pos) (x := x) rows (sumStep cols f r) (fun q hq => hr q (List.mem_cons_of_mem _ hq)) hp2.2
    have eu : (r :: rows).foldl (sumStep cols) f r.u = f r.u := sums_keep (r :: rows) f fun q hq e => by
      rcases List.mem_cons.mp hq with z | z
      · rw [z] at e
        rw [e] at h1
        exact Nat.lt_irrefl _ h1.2
      · have := hp2.1 q z
        have := (hr q (List.mem_cons_of_mem _ z)).2
        rw [e] at this
        omega
    rw [List.foldl_cons] at eu ⊢
    rw [ih]
    by_cases e : r.v = x
    · rw [List.filterMap_cons, if_pos e]
      dsimp only
      rw [List.foldl_cons]
      congr 1
      subst e
      rw [sumStep_at]
      unfold bestStep
      dsimp only
      rw [eu, h1.1]
    · rw [List.filterMap_cons, if_neg e]
      dsimp only
      rw [sumStep_ne (fun z => e z.symm)]
end
section
variable {N : Net} {os : List Int} {rows : List Row} {cols : Row → Option Int} {F : Int → Int → Option Int}
/-- the rows of a filling, and prices of the ways of one direction -/
structure ColOk (N : Net) (os : List Int) (rows : List Row) (cols : Row → Option Int) (F : Int → Int → Option Int) : Prop where
  pairs : rows.map prOf = pairsL N.ls os
  at_ : ∀ r ∈ rows, F r.u r.v = cols r
  none : ∀ u v, posOf u os < posOf v os → ¬ PairP N.ls os u v → F u v = none
theorem ColOk.rws (ok : NetOk N) (oo : OrdOk N.n os) (h : ColOk N os rows cols F) : (∀ r ∈ rows, F r.u r.v = cols r ∧ posOf r.u os < posOf r.v os) ∧ rows.Pairwise fun r q => posOf r.u os ≤ posOf q.u os := by
  constructor
  · intro r hr
    refine ⟨h.at_ r hr, ?_⟩
    have : (r.u, r.v) ∈ pairsL N.ls os := by
      rw [← h.pairs]
      exact List.mem_map.mpr ⟨r, hr, rfl⟩
    exact ((mem_pairsL ok oo).mp this).1
  · have := pairsL_sorted (ls := N.ls) oo
    rw [← h.pairs, List.pairwise_map] at this
    exact this
theorem ColOk.row (ok : NetOk N) (oo : OrdOk N.n os) (h : ColOk N os rows cols F) {u v p : Int} (hl : posOf u os < posOf v os) (hp : F u v = some p) : ∃ r ∈ rows, r.u = u ∧ r.v = v ∧ cols r = some p := by
  by_cases c : PairP N.ls os u v
  · have := (mem_pairsL ok oo).mpr c
    rw [← h.pairs] at this
    obtain ⟨r, hr, e⟩ := List.mem_map.mp this
    have e1 : r.u = u := congrArg Prod.fst e
    have e2 : r.v = v := congrArg Prod.snd e
    refine ⟨r, hr, e1, e2, ?_⟩
    rw [← h.at_ r hr, e1, e2]
    exact hp
  · rw [h.none u v hl c] at hp
    cases hp
theorem sums_least (ok : NetOk N) (oo : OrdOk N.n os) (h : ColOk N os rows cols F) (s x : Int) : Least (fun c => UpW F (fun z => posOf z os) s x c) (sumsF cols s rows x).1 := by
  obtain ⟨h1, h2⟩ := h.rws ok oo
  constructor
  · refine sums_sound rows (sums0 s) h1 (fun z c hz => ?_) x
    unfold sums0 at hz
    by_cases e : z = s
    · rw [if_pos e] at hz
      cases hz
      rw [e]
      exact .one
    · rw [if_neg e] at hz
      cases hz
  · intro c hc
    induction hc with
    | one =>
      refine bet_sums rows (sums0 s) s 0 ?_
      show (sums0 s s).1 = some 0
      rw [show sums0 s s = (some 0, none) from if_pos rfl]
    | @step y x c p hy hl hp ih =>
      obtain ⟨d, hd, e⟩ := ih
      obtain ⟨r, hr, e1, e2, e3⟩ := h.row ok oo hl hp
      obtain ⟨a, b, rfl⟩ := List.append_of_mem hr
      have hb : ∀ q ∈ r :: b, q.v ≠ y := fun q hq z => by
        have hpw := (List.pairwise_append.mp h2).2.1
        have hpw := List.pairwise_cons.mp hpw
        rcases List.mem_cons.mp hq with k | k
        · rw [k, e2] at z
          rw [z] at hl
          exact Nat.lt_irrefl _ hl
        · have k1 := hpw.1 q k
          have k2 := (h1 q (List.mem_append.mpr (.inr (List.mem_cons_of_mem _ k)))).2
          rw [z] at k2
          rw [e1] at k1
          omega
      unfold sumsF at e ⊢
      rw [List.foldl_append] at e ⊢
      rw [sums_keep (r :: b) _ hb] at e
      rw [List.foldl_cons]
      have key : ∃ g, g ≤ d + p ∧ (sumStep cols (a.foldl (sumStep cols) (sums0 s)) r x).1 = some g := by
        rw [← e2, sumStep_at]
        refine (best_le (s := fun u => addO (a.foldl (sumStep cols) (sums0 s) u).1 (cols r)) [r.u] _).2 r.u List.mem_cons_self (d + p) ?_
        show addO (a.foldl (sumStep cols) (sums0 s) r.u).1 (cols r) = some (d + p)
        rw [e1, e, e3]
        rfl
      obtain ⟨g, hg, e4⟩ := key
      obtain ⟨g2, hg2, e5⟩ := bet_sums (cols := cols) b _ x g e4
      exact ⟨g2, by omega, e5⟩
theorem sums_self (ok : NetOk N) (oo : OrdOk N.n os) (h : ColOk N os rows cols F) (s : Int) : sumsF cols s rows s = (some 0, none) := by
  obtain ⟨h1, h2⟩ := h.rws ok oo
  unfold sumsF
  rw [sums_one (F := F) (pos := fun z => posOf z os) rows (sums0 s) h1 h2]
  have e0 : sums0 s s = (some 0, none) := if_pos rfl
  rw [e0]
  have gen : ∀ (us : List Int) (acc : Option Int × Option Int), (∀ u ∈ us, (sumsF cols s rows u).1 = none) → us.foldl (bestStep fun u => addO (sumsF cols s rows u).1 (F u s)) acc = acc := by
    intro us
    induction us with
    | nil => exact fun _ _ => rfl
    | cons u us ih =>
      intro acc hu
      rw [List.foldl_cons, show bestStep (fun u => addO (sumsF cols s rows u).1 (F u s)) acc u = acc by
        unfold bestStep
        dsimp only
        rw [hu u List.mem_cons_self]
        rfl]
      exact ih acc fun v hv => hu v (List.mem_cons_of_mem _ hv)
  refine gen _ _ fun u hu => ?_
  obtain ⟨r, hr, e⟩ := List.mem_filterMap.mp hu
  by_cases c : r.v = s
  · rw [if_pos c] at e
    cases e
    cases e2 : (sumsF cols s rows r.u).1 with
    | none => rfl
    | some d =>
      have hU := (sums_least ok oo h s r.u).1 d e2
      have := (h1 r hr).2
      rw [c] at this
      rcases hU.le with z | z
      · rw [z] at this
        exact absurd this (Nat.lt_irrefl _)
      · exact absurd (Nat.lt_trans this z) (Nat.lt_irrefl _)
  · rw [if_neg c] at e
    cases e
theorem foldl_skip {s : Int → Option Int} {p : Int → Bool} : ∀ (ws : List Int) (acc : Option Int × Option Int), (∀ w ∈ ws, p w = false → s w = none) → ws.foldl (bestStep s) acc = (ws.filter p).foldl (bestStep s) acc
  | [], _, _ => rfl
  | w :: ws, acc, h => by
    have ih := foldl_skip (s := s) (p := p) ws
    cases e : p w with
    | true =>
      rw [List.filter_cons_of_pos e, List.foldl_cons, List.foldl_cons]
      exact ih _ fun v hv => h v (List.mem_cons_of_mem _ hv)
    | false =>
      rw [List.filter_cons_of_neg (by rw [e]; exact Bool.false_ne_true), List.foldl_cons, show bestStep s acc w = acc by
        unfold bestStep
        rw [h w List.mem_cons_self e]]
      exact ih _ fun v hv => h v (List.mem_cons_of_mem _ hv)
open Classical in
theorem rows_into (ok : NetOk N) (oo : OrdOk N.n os) (hp : rows.map prOf = pairsL N.ls os) (x : Int) : (rows.filterMap fun r => if r.v = x then some r.u else none) = os.filter fun u => decide (PairP N.ls os u x) := by
  have e : (rows.filterMap fun r => if r.v = x then some r.u else none) = (rows.map prOf).filterMap fun q => if q.2 = x then some q.1 else none := by
    rw [List.filterMap_map]
    rfl
  rw [e, hp]
  unfold pairsL
  rw [List.filterMap_flatMap]
  have gen : ∀ us : List Int, (us.flatMap fun u => ((upP N.ls os u).map fun v => (u, v)).filterMap fun q => if q.2 = x then some q.1 else none) = us.filter fun u => decide (PairP N.ls os u x) := by
    intro us
    induction us with
    | nil => rfl
    | cons u us ih =>
      rw [List.flatMap_cons, ih]
      have e1 : ((upP N.ls os u).map fun v => (u, v)).filterMap (fun q => if q.2 = x then some q.1 else none) = if PairP N.ls os u x then [u] else [] := by
        rw [List.filterMap_map]
        have nd := up_nodup (u := u) (N := N) oo
        have hm := mem_upP (v := x) (u := u) ok oo
        generalize upP N.ls os u = vs at nd hm
        induction vs with
        | nil =>
          by_cases c : PairP N.ls os u x
          · exact absurd (hm.mpr c) List.not_mem_nil
          · rw [if_neg c]
            rfl
        | cons v vs ih2 =>
          rw [List.nodup_cons] at nd
          rw [List.filterMap_cons]
          rw [show ((fun q : Int × Int => if q.2 = x then some q.1 else none) ∘ fun v => (u, v)) v = if v = x then some u else none from rfl]
          by_cases c : v = x
          · rw [if_pos c]
            have hx : x ∉ vs := by rw [← c]; exact nd.1
            have e2 : vs.filterMap ((fun q : Int × Int => if q.2 = x then some q.1 else none) ∘ fun v => (u, v)) = [] := by
              rw [List.filterMap_eq_nil_iff]
              intro z hz
              show (if z = x then some u else none : Option Int) = none
              rw [if_neg (fun e => hx (by rw [← e]; exact hz))]
            dsimp only
            rw [e2, if_pos (hm.mp (by rw [c]; exact List.mem_cons_self))]
          · rw [if_neg c]
            dsimp only
            refine ih2 nd.2 ⟨fun h => hm.mp (List.mem_cons_of_mem _ h), fun h => ?_⟩
            rcases List.mem_cons.mp (hm.mpr h) with z | z
            · exact absurd z.symm c
            · exact z
      rw [e1]
      by_cases c : PairP N.ls os u x
      · rw [if_pos c, List.filter_cons_of_pos (by exact decide_eq_true c)]
        rfl
      · rw [if_neg c, List.filter_cons_of_neg (by exact fun z => c (of_decide_eq_true z))]
        rfl
  exact gen os
/-- the search, place by place in the order -/
theorem sums_law (ok : NetOk N) (oo : OrdOk N.n os) (h : ColOk N os rows cols F) {s x : Int} (hx : x ∈ os) (xs : x ≠ s) : sumsF cols s rows x = bestF none (fun y => addO (sumsF cols s rows y).1 (F y x)) (os.take (posOf x os)) := by
  classical
  obtain ⟨h1, h2⟩ := h.rws ok oo
  have e : sumsF cols s rows x = (rows.filterMap fun r => if r.v = x then some r.u else none).foldl (bestStep fun u => addO (sumsF cols s rows u).1 (F u x)) (sums0 s x) := sums_one (F := F) (pos := fun z => posOf z os) rows (sums0 s) h1 h2
  rw [e, rows_into ok oo h.pairs, show sums0 s x = (none, none) from if_neg xs]
  unfold bestF
  rw [foldl_skip (p := fun u => decide (PairP N.ls os u x)) (os.take (posOf x os)) _ fun w hw hp => ?_]
  · congr 1
    have hpx := pos_len hx
    have e1 := List.take_append_drop (posOf x os) os
    have e2 : os.filter (fun u => decide (PairP N.ls os u x)) = (os.take (posOf x os)).filter (fun u => decide (PairP N.ls os u x)) ++ (os.drop (posOf x os)).filter (fun u => decide (PairP N.ls os u x)) := by
      rw [← List.filter_append, e1]
    rw [e2, show (os.drop (posOf x os)).filter (fun u => decide (PairP N.ls os u x)) = [] by
      rw [List.filter_eq_nil_iff]
      intro u hu z
      have hz := (of_decide_eq_true z).1
      obtain ⟨j, hj, ej⟩ := List.getElem_of_mem hu
      rw [List.length_drop] at hj
      have hg : os[posOf x os + j]? = some u := by
        rw [List.getElem?_eq_getElem (by omega), ← ej, List.getElem_drop]
      have := posOf_get oo.nodup hg
      omega, List.append_nil]
  · have hlt : posOf w os < posOf x os := by
      obtain ⟨j, hj, ej⟩ := List.getElem_of_mem hw
      rw [List.length_take] at hj
      have hg : os[j]? = some w := by
        rw [List.getElem?_eq_getElem (by omega), ← ej, List.getElem_take]
      have := posOf_get oo.nodup hg
      omega
    rw [h.none w x hlt (of_decide_eq_false hp)]
    cases (sumsF cols s rows w).1 <;> rfl
end
/-! ### answers are least sums -/
theorem nodup_rev {l : List Int} (h : l.Nodup) : l.reverse.Nodup := by
  show List.Pairwise _ _
  rw [List.pairwise_reverse]
  exact List.Pairwise.imp (fun h => h.symm) h
abbrev tru : Int → Prop := fun _ => True
abbrev tr (w : Int → Int → Option Int) : Int → Int → Option Int := fun x y => w y x
theorem Way.pre {w : Int → Int → Option Int} {s y p : Int} (hp : w s y = some p) {l : List Int} {c : Int} (h : Way w tru y l c) : Way w tru s (l ++ [s]) (p + c) := by
  induction h with
  | one =>
    have := Way.step (Way.one (w := w) (ext := tru) (s := s)) trivial hp
    rw [Int.zero_add] at this
    rw [Int.add_zero]
    exact this
  | step _ _ h3 ih =>
    rw [← Int.add_assoc]
    exact .step ih trivial h3
theorem Way.rev {w : Int → Int → Option Int} {s : Int} {l : List Int} {c : Int} (h : Way w tru s l c) : ∀ {z : Int} {l' : List Int}, l = z :: l' → Way (tr w) tru z l.reverse c := by
  induction h with
  | one =>
    intro z l' e
    injection e with e1 e2
    rw [e1]
    exact .one
  | @step y z c p l h1 _ h3 ih =>
    intro z' l' e
    injection e with e1 e2
    subst e1
    have := Way.pre (w := tr w) (s := z) (p := p) h3 (ih rfl)
    rw [List.reverse_cons, Int.add_comm]
    exact this
theorem UpW.way {w : Int → Int → Option Int} {F : Int → Int → Option Int} {pos : Int → Nat} {s x c : Int} (hF : ∀ y x p, pos y < pos x → F y x = some p → ∃ l, Way w tru y (x :: l) p) (h : UpW F pos s x c) : ∃ l, Way w tru s (x :: l) c := by
  induction h with
  | one => exact ⟨[], .one⟩
  | step _ hl hp ih =>
    obtain ⟨l1, h1⟩ := ih
    obtain ⟨l2, h2⟩ := hF _ _ _ hl hp
    exact h1.append (fun _ _ => trivial) (fun _ _ => trivial) h2
theorem up_of_way {w F : Int → Int → Option Int} {os : List Int} {s : Int}
    (hF : ∀ (y m : Int) (a : List Int) (c : Int), y ∈ os → Way w tru y (m :: (a ++ [y])) c → (m :: (a ++ [y])).Nodup → (∀ z ∈ a, posOf z os < posOf y os) → posOf y os < posOf m os → ∃ d, d ≤ c ∧ F y m = some d) :
    ∀ (k : Nat) (l : List Int) (m c : Int), l.length ≤ k → Way w tru s (m :: l) c → (m :: l).Nodup → (∀ y ∈ l, y ∈ os) → (∀ y ∈ l, posOf y os < posOf m os) → ∃ d, d ≤ c ∧ UpW F (fun z => posOf z os) s m d
  | k, l, m, c, hk, h, hn, hin, hlo => by
    by_cases e : l = []
    · subst e
      obtain ⟨rfl, rfl⟩ := h.one_inv
      exact ⟨0, Int.le_refl _, .one⟩
    · obtain ⟨y, hy, htop⟩ := top_of (fun z => posOf z os) l e
      obtain ⟨a, b, rfl⟩ := List.append_of_mem hy
      obtain ⟨c1, c2, w1, w2, rfl⟩ := Way.split (m :: a) (b := b) (m := y) h
      have hn2 := (List.nodup_cons.mp hn).2
      have h3 := List.nodup_append.mp hn2
      have h4 := List.nodup_cons.mp h3.2.1
      have lower : ∀ z ∈ a ++ y :: b, z ≠ y → posOf z os < posOf y os := fun z hz hne => by
        have h1 : posOf z os ≤ posOf y os := htop z hz
        have h2 : posOf z os ≠ posOf y os := fun e => hne (pos_inj (hin z hz) (hin y hy) e)
        omega
      have lb : ∀ z ∈ b, posOf z os < posOf y os := fun z hz => lower z (List.mem_append.mpr (.inr (List.mem_cons_of_mem _ hz))) fun e => h4.1 (by rw [← e]; exact hz)
      have la : ∀ z ∈ a, posOf z os < posOf y os := fun z hz => lower z (List.mem_append.mpr (.inl hz)) fun e => h3.2.2 z hz y List.mem_cons_self e
      have hlen : b.length < (a ++ y :: b).length := by
        rw [List.length_append, List.length_cons]
        omega
      match k, hk with
      | 0, hk => omega
      | k + 1, hk =>
        obtain ⟨d1, hd1, u1⟩ := up_of_way hF k b y c1 (by omega) w1 h3.2.1 (fun z hz => hin z (List.mem_append.mpr (.inr (List.mem_cons_of_mem _ hz)))) lb
        have nd2 : (m :: (a ++ [y])).Nodup := by
          rw [List.nodup_cons] at hn ⊢
          refine ⟨fun q => hn.1 ?_, List.nodup_append.mpr ⟨h3.1, List.nodup_cons.mpr ⟨List.not_mem_nil, .nil⟩, fun p hp q hq => h3.2.2 p hp q (by rw [List.mem_singleton.mp hq]; exact List.mem_cons_self)⟩⟩
          rcases List.mem_append.mp q with q | q
          · exact List.mem_append.mpr (.inl q)
          · exact List.mem_append.mpr (.inr (by rw [List.mem_singleton.mp q]; exact List.mem_cons_self))
        obtain ⟨d2, hd2, e2⟩ := hF y m a c2 (hin y hy) w2 nd2 la (hlo y hy)
        exact ⟨d1 + d2, by omega, .step u1 (hlo y hy) e2⟩
section
variable {N : Net} {os : List Int} {rows : List Row}
theorem way_in (ok : NetOk N) (oo : OrdOk N.n os) {ext : Int → Prop} {s : Int} (hs : s ∈ os) {l : List Int} {c : Int} (h : Way (linkW N.ls) ext s l c) : ∀ z ∈ l, z ∈ os := by
  induction h with
  | one =>
    intro z hz
    rw [List.mem_singleton.mp hz]
    exact hs
  | step _ _ hp ih =>
    intro z hz
    rcases List.mem_cons.mp hz with e | e
    · rw [e]
      exact oo.mem.mpr (linkW_in ok hp).2.1
    · exact ih z e
/-- the prices of the ways, up and down, of a filling -/
theorem fill_up (ok : NetOk N) (oo : OrdOk N.n os) (h : FillOk N os rows) : ColOk N os rows (·.up) (prR rows) where
  pairs := h.pairs
  at_ := fun r hr => (prR_up ok oo h hr).1
  none := fun u v hl hp => by
    cases e : prR rows u v with
    | none => rfl
    | some c =>
      rcases prR_some e with ⟨r, hr, rfl, rfl, _⟩ | ⟨r, hr, rfl, rfl, _⟩
      · exact absurd (h.pair ok oo hr) hp
      · have := (h.pair ok oo hr).1
        omega
theorem fill_dn (ok : NetOk N) (oo : OrdOk N.n os) (h : FillOk N os rows) : ColOk N os rows (·.dn) (tr (prR rows)) where
  pairs := h.pairs
  at_ := fun r hr => (prR_up ok oo h hr).2
  none := fun u v hl hp => by
    show prR rows v u = none
    cases e : prR rows v u with
    | none => rfl
    | some c =>
      rcases prR_some e with ⟨r, hr, rfl, rfl, _⟩ | ⟨r, hr, rfl, rfl, _⟩
      · have := (h.pair ok oo hr).1
        omega
      · exact absurd (h.pair ok oo hr) hp
theorem up_way (ok : NetOk N) (oo : OrdOk N.n os) (h : FillOk N os rows) : ∀ y x p, posOf y os < posOf x os → prR rows y x = some p → ∃ l, Way (linkW N.ls) tru y (x :: l) p := fun y x p hl hp => by
  by_cases c : PairP N.ls os y x
  · obtain ⟨l, hw⟩ := (fill_dist ok oo h _ y x rfl c).1.1 p hp
    exact ⟨l, hw.wid fun _ _ _ => trivial⟩
  · rw [(fill_up ok oo h).none y x hl c] at hp
    cases hp
theorem dn_way (ok : NetOk N) (oo : OrdOk N.n os) (h : FillOk N os rows) : ∀ y x p, posOf y os < posOf x os → prR rows x y = some p → ∃ l, Way (linkW N.ls) tru x (y :: l) p := fun y x p hl hp => by
  by_cases c : PairP N.ls os y x
  · obtain ⟨l, hw⟩ := (fill_dist ok oo h _ y x rfl c).2.1 p hp
    exact ⟨l, hw.wid fun _ _ _ => trivial⟩
  · have := (fill_dn ok oo h).none y x hl c
    rw [show prR rows x y = none from this] at hp
    cases hp
theorem dn_way_tr (ok : NetOk N) (oo : OrdOk N.n os) (h : FillOk N os rows) : ∀ y x p, posOf y os < posOf x os → tr (prR rows) y x = some p → ∃ l, Way (tr (linkW N.ls)) tru y (x :: l) p := fun y x p hl hp => by
  obtain ⟨l, hw⟩ := dn_way ok oo h y x p hl hp
  have hr := hw.rev rfl
  obtain ⟨l', e⟩ := hw.last
  rw [e, List.reverse_append] at hr
  exact ⟨_, hr⟩
/-- the sum of a way of a pair is at least its price -/
theorem up_pair (ok : NetOk N) (oo : OrdOk N.n os) (h : FillOk N os rows) : ∀ (y m : Int) (a : List Int) (c : Int), y ∈ os → Way (linkW N.ls) tru y (m :: (a ++ [y])) c → (m :: (a ++ [y])).Nodup → (∀ z ∈ a, posOf z os < posOf y os) → posOf y os < posOf m os → ∃ d, d ≤ c ∧ prR rows y m = some d := fun y m a c hy hw hn ha hl => by
  have hex : ∀ z ∈ a ++ [y], z ≠ y → posOf z os < posOf y os := fun z hz hne => by
    rcases List.mem_append.mp hz with q | q
    · exact ha z q
    · exact absurd (List.mem_singleton.mp q) hne
  have hp : PairP N.ls os y m := ⟨hl, way_rch ok hw (by simp) hex hn⟩
  exact (fill_dist ok oo h _ y m rfl hp).1.2 c ⟨_, hw.wid fun z hz _ => by
    by_cases e : z = y
    · exact .inl e
    · exact .inr (hex z hz e)⟩
theorem dn_pair (ok : NetOk N) (oo : OrdOk N.n os) (h : FillOk N os rows) : ∀ (y m : Int) (a : List Int) (c : Int), y ∈ os → Way (tr (linkW N.ls)) tru y (m :: (a ++ [y])) c → (m :: (a ++ [y])).Nodup → (∀ z ∈ a, posOf z os < posOf y os) → posOf y os < posOf m os → ∃ d, d ≤ c ∧ tr (prR rows) y m = some d := fun y m a c hy hw hn ha hl => by
  have hr : Way (linkW N.ls) tru m (m :: (a ++ [y])).reverse c := hw.rev rfl
  have er : (m :: (a ++ [y])).reverse = y :: (a.reverse ++ [m]) := by simp
  rw [er] at hr
  have hn2 : (y :: (a.reverse ++ [m])).Nodup := by
    rw [← er]
    exact nodup_rev hn
  have hex : ∀ z ∈ a.reverse ++ [m], z ≠ m → posOf z os < posOf y os := fun z hz hne => by
    rcases List.mem_append.mp hz with q | q
    · exact ha z (List.mem_reverse.mp q)
    · exact absurd (List.mem_singleton.mp q) hne
  have hp : PairP N.ls os y m := ⟨hl, (way_rch ok hr (by simp) hex hn2).sym (adj0_ok ok)⟩
  exact (fill_dist ok oo h _ y m rfl hp).2.2 c ⟨_, hr.wid fun z hz _ => by
    by_cases e : z = m
    · exact .inl e
    · exact .inr (hex z hz e)⟩
/-- a road has a highest place: a way up to it, a way down from it -/
theorem road_top (ok : NetOk N) (oo : OrdOk N.n os) (h : FillOk N os rows) {s t c : Int} {l : List Int} (hs : s ∈ os) (hw : Way (linkW N.ls) tru s (t :: l) c) : ∃ m d1 d2, m ∈ os ∧ d1 + d2 ≤ c ∧ UpW (prR rows) (fun z => posOf z os) s m d1 ∧ UpW (tr (prR rows)) (fun z => posOf z os) t m d2 := by
  obtain ⟨l, d, hd, hw, hn, _⟩ := Way.simple (pos_net ok) _ t l c (Nat.le_refl _) hw
  have hin := way_in ok oo hs hw
  obtain ⟨m, hm, htop⟩ := top_of (fun z => posOf z os) (t :: l) (List.cons_ne_nil _ _)
  obtain ⟨a, b, e⟩ := List.append_of_mem hm
  rw [e] at hw hn hin hm htop
  obtain ⟨c1, c2, w1, w2, rfl⟩ := Way.split a hw
  have h3 := List.nodup_append.mp hn
  have h4 := List.nodup_cons.mp h3.2.1
  have lower : ∀ z ∈ a ++ m :: b, z ≠ m → posOf z os < posOf m os := fun z hz hne => by
    have h1 : posOf z os ≤ posOf m os := htop z hz
    have h2 : posOf z os ≠ posOf m os := fun e => hne (pos_inj (hin z hz) (hin m hm) e)
    omega
  have lb : ∀ z ∈ b, posOf z os < posOf m os := fun z hz => lower z (List.mem_append.mpr (.inr (List.mem_cons_of_mem _ hz))) fun e => h4.1 (by rw [← e]; exact hz)
  have la : ∀ z ∈ a, posOf z os < posOf m os := fun z hz => lower z (List.mem_append.mpr (.inl hz)) fun e => h3.2.2 z hz m List.mem_cons_self e
  obtain ⟨d1, hd1, u1⟩ := up_of_way (F := prR rows) (up_pair ok oo h) _ b m c1 (Nat.le_refl _) w1 h3.2.1 (fun z hz => hin z (List.mem_append.mpr (.inr (List.mem_cons_of_mem _ hz)))) lb
  have e2 : ∃ l', a ++ [m] = t :: l' := by
    cases a with
    | nil =>
      injection e with e1 _
      exact ⟨[], by rw [e1]; rfl⟩
    | cons x a =>
      injection e with e1 _
      exact ⟨a ++ [m], by rw [e1]; rfl⟩
  obtain ⟨l', e2⟩ := e2
  have w3 := w2.rev e2
  rw [List.reverse_append] at w3
  have w3 : Way (tr (linkW N.ls)) tru t (m :: a.reverse) c2 := w3
  obtain ⟨d2, hd2, u2⟩ := up_of_way (F := tr (prR rows)) (dn_pair ok oo h) _ a.reverse m c2 (Nat.le_refl _) w3 (List.nodup_cons.mpr ⟨fun q => h3.2.2 m (List.mem_reverse.mp q) m List.mem_cons_self rfl, nodup_rev h3.1⟩)
    (fun z hz => hin z (List.mem_append.mpr (.inl (List.mem_reverse.mp hz)))) (fun z hz => la z (List.mem_reverse.mp hz))
  exact ⟨m, d1, d2, hin m hm, by omega, u1, u2⟩
theorem upW_way (ok : NetOk N) (oo : OrdOk N.n os) (h : FillOk N os rows) {s x c : Int} (hu : UpW (prR rows) (fun z => posOf z os) s x c) : ∃ l, Way (linkW N.ls) tru s (x :: l) c := UpW.way (up_way ok oo h) hu
theorem dnW_way (ok : NetOk N) (oo : OrdOk N.n os) (h : FillOk N os rows) {t x c : Int} (hu : UpW (tr (prR rows)) (fun z => posOf z os) t x c) : ∃ l, Way (linkW N.ls) tru x (t :: l) c := by
  obtain ⟨l, hw⟩ := UpW.way (dn_way_tr ok oo h) hu
  have hr : Way (linkW N.ls) tru x (x :: l).reverse c := hw.rev rfl
  obtain ⟨l', e⟩ := hw.last
  rw [e, List.reverse_append] at hr
  exact ⟨_, hr⟩
/-- the answer is the least sum of all roads -/
theorem ans_dist (ok : NetOk N) (oo : OrdOk N.n os) (h : FillOk N os rows) {s t : Int} (hs : s ∈ os) : Dist (linkW N.ls) tru s t (bestF none (fun x => addO (sumsF (·.up) s rows x).1 (sumsF (·.dn) t rows x).1) os).1 := by
  constructor
  · refine best_fst (P := fun c => ∃ l, Way (linkW N.ls) tru s (t :: l) c) os (fun c hc => nomatch hc) fun x hx c hc => ?_
    obtain ⟨a, b, ha, hb, rfl⟩ := addO_some hc
    obtain ⟨l1, w1⟩ := upW_way ok oo h ((sums_least ok oo (fill_up ok oo h) s x).1 a ha)
    obtain ⟨l2, w2⟩ := dnW_way ok oo h ((sums_least ok oo (fill_dn ok oo h) t x).1 b hb)
    exact w1.append (fun _ _ => trivial) (fun _ _ => trivial) w2
  · rintro c ⟨l, hw⟩
    obtain ⟨m, d1, d2, hm, hd, u1, u2⟩ := road_top ok oo h hs hw
    obtain ⟨g1, hg1, e1⟩ := (sums_least ok oo (fill_up ok oo h) s m).2 d1 u1
    obtain ⟨g2, hg2, e2⟩ := (sums_least ok oo (fill_dn ok oo h) t m).2 d2 u2
    obtain ⟨g, hg, e⟩ := bestF_le (o := none) (s := fun x => addO (sumsF (·.up) s rows x).1 (sumsF (·.dn) t rows x).1) (c := g1 + g2) hm (by
      show addO (sumsF (·.up) s rows m).1 (sumsF (·.dn) t rows m).1 = some (g1 + g2)
      rw [e1, e2]
      rfl)
    exact ⟨g, by omega, e⟩
end
/-! ### a list with one element for each place -/
theorem rngG {n : Int} {i : Nat} (h : i < n.toNat) : (rng n)[i]? = some (i : Int) := by
  unfold rng
  rw [List.getElem?_map, List.getElem?_range h]
  rfl
theorem rng_at {α : Type} {n x : Int} {g : Int → α} (h : 0 ≤ x ∧ x < n) : atI ((rng n).map g) x = some (g x) := by
  obtain ⟨j, rfl⟩ := Int.eq_ofNat_of_zero_le h.1
  refine atI_nat ?_
  rw [List.getElem?_map, rngG (by omega)]
  rfl
theorem rng_set {α : Type} {n : Int} {k : Nat} {g : Int → α} {v : α} : ((rng n).map g).set k v = (rng n).map (updF g (k : Int) v) := by
  apply List.ext_getElem?
  intro i
  rw [List.getElem?_set]
  by_cases hi : i < n.toNat
  · rw [List.getElem?_map, List.getElem?_map, rngG hi, List.length_map, len_rng]
    show _ = some (updF g (k : Int) v (i : Int))
    by_cases e : k = i
    · subst e
      rw [if_pos rfl, if_pos hi, updF_at]
    · rw [if_neg e, updF_ne (y := (k : Int)) (z := (i : Int)) (by omega)]
      rfl
  · have e1 : ((rng n).map g)[i]? = none := List.getElem?_eq_none (by rw [List.length_map, len_rng]; omega)
    have e2 : ((rng n).map (updF g (k : Int) v))[i]? = none := List.getElem?_eq_none (by rw [List.length_map, len_rng]; omega)
    rw [e1, e2, List.length_map, len_rng]
    by_cases e : k = i
    · rw [if_pos e, if_neg (by omega)]
    · rw [if_neg e]
theorem map_updF {α β : Type} {f : Int → α} {g : α → β} {y : Int} {v : α} : (fun z => g (updF f y v z)) = updF (fun z => g (f z)) y (g v) := by
  funext z
  unfold updF
  split <;> rfl
section
variable {K : PySem.W.Frag} {σ : L2.St} {H : Hp} {a : Addr} {D : Ends} {tz tw : TS}
/-- for row in rows: the row itself in its slot -/
theorem DpAll.row_at {xs : List V} {rows : List Row} (hL : DpAll K H xs (rows.map rowD)) {i : Nat} {x : V} (hi : xs[i]? = some x) : ∃ r t, rows[i]? = some r ∧ x = .ref t ∧ SqT K H t (rowV r) := by
  have e := DpAll.len hL
  rw [List.length_map] at e
  have hlt := (List.getElem?_eq_some_iff.mp hi).1
  have hg : rows[i]? = some (rows[i]'(by omega)) := List.getElem?_eq_getElem (by omega)
  obtain ⟨v, hv, dv⟩ := DpAll.get (i := i) (d := rowD (rows[i]'(by omega))) hL (by
    rw [List.getElem?_map, hg]
    rfl)
  cases hi.symm.trans hv
  obtain ⟨t, rfl, ht⟩ := Dp.row_inv dv
  exact ⟨_, t, hg, rfl, ht⟩
theorem g_forRw {j : Nat} {Hb : Hp} {xs : List V} {rows : List Row} {tl : TE} (h : Vl tl σ H (.ref a)) (hx : SqL K Hb a xs) (hL : DpAll K Hb xs (rows.map rowD)) (hb : Same Hb H) (Pv : Nat → L2.St → Hp → Prop) (h0 : Pv 0 σ H) (hl : ∀ i σ' H', Pv i σ' H' → Same Hb H')
    (hs : ∀ (i : Nat) r t σ H, rows[i]? = some r → SqT K Hb t (rowV r) → Pv i σ H → tz { D with nx := Pv (i + 1), ct := Pv (i + 1), bk := D.nx } (σ.set j (some (.ref t))) H) (hd : ∀ σ H, Pv rows.length σ H → D.nx σ H) :
    tFor (iList K tl) (gName j) tz D σ H := h _ ⟨a, rfl, ⟨_, hb.seq hx⟩, for_list (xs := xs) Pv h0 (fun i σ H _ p => (hl i σ H p).seq hx) (fun i x σ H hi p => by
      obtain ⟨r, t, hg, rfl, ht⟩ := DpAll.row_at hL hi
      exact hs i r t σ H hg ht p) (fun σ H p => by
      have e := DpAll.len hL
      rw [List.length_map] at e
      rw [e] at p
      exact hd σ H p)⟩
theorem q_forRw {j : Nat} {Hb : Hp} {xs : List V} {rows : List Row} {tl : TE} (h : Vl tl σ H (.ref a)) (hx : SqL K Hb a xs) (hL : DpAll K Hb xs (rows.map rowD)) (hb : Same Hb H) (Pv : Nat → L2.St → Hp → Prop) (h0 : Pv 0 σ H) (hl : ∀ i σ' H', Pv i σ' H' → Same Hb H')
    (hs : ∀ (i : Nat) r t σ H, rows[i]? = some r → SqT K Hb t (rowV r) → Pv i σ H → tz { D with nx := Pv (i + 1), ct := Pv (i + 1), bk := tw D } (σ.set j (some (.ref t))) H) (hd : ∀ σ H, Pv rows.length σ H → tw D σ H) :
    tSeq (tFor (iList K tl) (gName j) tz) tw D σ H := g_forRw (D := { D with nx := tw D }) h hx hL hb Pv h0 hl hs hd
/-- for x, y, price in [(..), (..)] -/
theorem g_for3 {j1 j2 j3 : Nat} {Hb : Hp} {L T1 T2 : Addr} {d1 d2 : Int × Int × Option Int} (eL : Hb L = some (.lst [.ref T1, .ref T2])) (e1 : Hb T1 = some (.tup [.int d1.1, .int d1.2.1, oV d1.2.2])) (e2 : Hb T2 = some (.tup [.int d2.1, .int d2.2.1, oV d2.2.2])) (Pv : Nat → L2.St → Hp → Prop) (h0 : Pv 0 σ H)
    (hl : ∀ i σ' H', Pv i σ' H' → Same Hb H') (hs : ∀ (i : Nat) d σ H, [d1, d2][i]? = some d → Pv i σ H → tz { D with nx := Pv (i + 1), ct := Pv (i + 1), bk := D.nx } (((σ.set j1 (some (.int d.1))).set j2 (some (.int d.2.1))).set j3 (some (oV d.2.2))) H) (hd : ∀ σ H, Pv 2 σ H → D.nx σ H) :
    tFor (iList K fun _ H' Q => Q (.ref L) H') (gTup K 3 (gCons (gName j1) (gCons (gName j2) (gCons (gName j3) gNil)))) tz D σ H := ⟨L, rfl, ⟨_, .of (hl _ _ _ h0 _ _ eL)⟩, for_list (xs := [.ref T1, .ref T2]) Pv h0 (fun i σ H _ p => .of (hl i σ H p _ _ eL)) (fun i x σ H hi p => by
      match i, hi, p with
      | 0, hi, p =>
        cases hi
        exact ⟨T1, _, rfl, .of (hl _ _ _ p _ _ e1), rfl, _, _, rfl, _, _, rfl, _, _, rfl, rfl, hs 0 d1 σ H rfl p⟩
      | 1, hi, p =>
        cases hi
        exact ⟨T2, _, rfl, .of (hl _ _ _ p _ _ e2), rfl, _, _, rfl, _, _, rfl, _, _, rfl, rfl, hs 1 d2 σ H rfl p⟩
      | n + 2, hi, p => simp at hi) hd⟩
/-- .. the two made at once -/
theorem g_for3L {j1 j2 j3 : Nat} {t0 t1 t2 u0 u1 u2 : TE} {d1 d2 : Int × Int × Option Int} (a0 : Vl t0 σ H (.int d1.1)) (a1 : Vl t1 σ H (.int d1.2.1)) (a2 : Vl t2 σ H (oV d1.2.2)) (b0 : ∀ H', Same H H' → Vl u0 σ H' (.int d2.1)) (b1 : ∀ H', Same H H' → Vl u1 σ H' (.int d2.2.1)) (b2 : ∀ H', Same H H' → Vl u2 σ H' (oV d2.2.2))
    (k : ∀ (L T1 T2 : Addr) (H' : Hp), Same H H' → H' L = some (.lst [.ref T1, .ref T2]) → H' T1 = some (.tup [.int d1.1, .int d1.2.1, oV d1.2.2]) → H' T2 = some (.tup [.int d2.1, .int d2.2.1, oV d2.2.2]) → tFor (iList K fun _ H' Q => Q (.ref L) H') (gTup K 3 (gCons (gName j1) (gCons (gName j2) (gCons (gName j3) gNil)))) tz D σ H') :
    tFor (iList K (tLst (tCons (tTup (tCons t0 (tCons t1 (tCons t2 tNil)))) (tCons (tTup (tCons u0 (tCons u1 (tCons u2 tNil)))) tNil)))) (gTup K 3 (gCons (gName j1) (gCons (gName j2) (gCons (gName j3) gNil)))) tz D σ H := by
  refine g_forE (a0 _ (a1 _ (a2 _ ⟨by show 3 ≤ sizeLine; decide, fun T1 n1 => ?_⟩)))
  have s1 : Same H (upd H T1 (.tup [.int d1.1, .int d1.2.1, oV d1.2.2])) := same_upd n1
  refine b0 _ s1 _ (b1 _ s1 _ (b2 _ s1 _ ⟨by show 3 ≤ sizeLine; decide, fun T2 n2 => ⟨by show 2 ≤ sizeLine; decide, fun L nL => ?_⟩⟩))
  have s2 : Same (upd H T1 (.tup [.int d1.1, .int d1.2.1, oV d1.2.2])) (upd (upd H T1 (.tup [.int d1.1, .int d1.2.1, oV d1.2.2])) T2 (.tup [.int d2.1, .int d2.2.1, oV d2.2.2])) := same_upd n2
  have s3 : Same (upd (upd H T1 (.tup [.int d1.1, .int d1.2.1, oV d1.2.2])) T2 (.tup [.int d2.1, .int d2.2.1, oV d2.2.2])) (upd (upd (upd H T1 (.tup [.int d1.1, .int d1.2.1, oV d1.2.2])) T2 (.tup [.int d2.1, .int d2.2.1, oV d2.2.2])) L (.lst [.ref T1, .ref T2])) := same_upd nL
  exact k L T1 T2 _ ((s1.trans s2).trans s3) upd_same (s3 _ _ (s2 _ _ upd_same)) (s3 _ _ upd_same)
/-- xs[k] = e -/
theorem g_setE {te t0 t1 : TE} {v : V} {xs : List V} {k : Nat} (hv : Ve te σ H v) (h0 : ∀ H', Same H H' → Vl t0 σ H' (.ref a)) (h1 : ∀ H', Same H H' → Vl t1 σ H' (.int (k : Nat))) (ha : H a = some (.lst xs)) (hk : k < xs.length) (q : ∀ H', Same H H' → D.nx σ (upd H' a (.lst (xs.set k v)))) : tAsg te (gSub t0 t1 rSetL) D σ H :=
  hv _ fun H' s' => (h0 H' s') _ ((h1 H' s') _ ⟨a, xs, (k : Nat), k, rfl, rfl, s' _ _ ha, Evl.ixN_nat hk, q H' s'⟩)
theorem q_setE {te t0 t1 : TE} {v : V} {xs : List V} {k : Nat} (hv : Ve te σ H v) (h0 : ∀ H', Same H H' → Vl t0 σ H' (.ref a)) (h1 : ∀ H', Same H H' → Vl t1 σ H' (.int (k : Nat))) (ha : H a = some (.lst xs)) (hk : k < xs.length) (q : ∀ H', Same H H' → tw D σ (upd H' a (.lst (xs.set k v)))) : tSeq (tAsg te (gSub t0 t1 rSetL)) tw D σ H := g_setE (D := { D with nx := tw D }) hv h0 h1 ha hk q
end
/-! ### true prices -/
def yesB : Int → Bool := fun _ => true
/-- the least sum of all roads from s to z -/
def dstN (N : Net) (s z : Int) : Option Int := bf yesB N.ls s N.n.toNat z
theorem dstN_dist {N : Net} (ok : NetOk N) {s : Int} (hs : 0 ≤ s ∧ s < N.n) (z : Int) : Dist (linkW N.ls) tru s z (dstN N s z) :=
  (bf_dist ok (ext := yesB) hs z).congr (fun c ⟨l, h⟩ => ⟨c, Int.le_refl _, l, h.wid fun _ _ _ => trivial⟩) fun c ⟨l, h⟩ => ⟨c, Int.le_refl _, l, h.wid fun _ _ _ => rfl⟩
theorem UpW.head {F : Int → Int → Option Int} {pos : Int → Nat} {s x c : Int} (h : UpW F pos s x c) : (x = s ∧ c = 0) ∨ ∃ w p d, F s w = some p ∧ pos s < pos w ∧ UpW F pos w x d ∧ c = p + d := by
  induction h with
  | one => exact .inl ⟨rfl, rfl⟩
  | @step y x c p hy hl hp ih =>
    rcases ih with ⟨rfl, rfl⟩ | ⟨w, q, d, h1, h2, h3, rfl⟩
    · exact .inr ⟨x, p, 0, hp, hl, .one, by omega⟩
    · exact .inr ⟨w, q, d + p, h1, h2, .step h3 hl hp, by omega⟩
theorem UpW.nonneg {F : Int → Int → Option Int} {pos : Int → Nat} {s x c : Int} (hF : ∀ y x p, pos y < pos x → F y x = some p → 0 ≤ p) (h : UpW F pos s x c) : 0 ≤ c := by
  induction h with
  | one => exact Int.le_refl _
  | step _ hl hp ih =>
    have := hF _ _ _ hl hp
    omega
def lesF (p s : Option Int) : Option Int :=
  match s with
  | none => p
  | some t => match p with
    | none => some t
    | some b => if t < b then some t else some b
theorem bestStep_fst {s : Int → Option Int} {o m : Option Int} {w : Int} : (bestStep s (o, m) w).1 = lesF o (s w) := by
  unfold bestStep lesF
  cases s w with
  | none => rfl
  | some t =>
    cases o with
    | none => rfl
    | some b =>
      dsimp only
      split <;> rfl
theorem lesF_fold {s : Int → Option Int} : ∀ (ws : List Int) (acc : Option Int × Option Int), (ws.foldl (bestStep s) acc).1 = ws.foldl (fun a w => lesF a (s w)) acc.1
  | [], _ => rfl
  | w :: ws, acc => by
    rw [List.foldl_cons, List.foldl_cons, lesF_fold ws]
    congr 1
    obtain ⟨o, m⟩ := acc
    exact bestStep_fst
section
variable {N : Net} {os : List Int} {rows : List Row}
theorem prR_nonneg (ok : NetOk N) (oo : OrdOk N.n os) (h : FillOk N os rows) : (∀ y x p, posOf y os < posOf x os → prR rows y x = some p → 0 ≤ p) ∧ ∀ y x p, posOf y os < posOf x os → tr (prR rows) y x = some p → 0 ≤ p := by
  have hw := pos_net ok
  constructor
  · intro y x p hl hp
    obtain ⟨l, w⟩ := up_way ok oo h y x p hl hp
    exact w.nonneg hw
  · intro y x p hl hp
    obtain ⟨l, w⟩ := dn_way ok oo h y x p hl hp
    exact w.nonneg hw
theorem true_up (ok : NetOk N) (oo : OrdOk N.n os) (h : FillOk N os rows) {u v : Int} (hp : PairP N.ls os u v) : dstN N u v = (bestF (prR rows u v) (fun w => addO (prR rows u w) (dstN N w v)) ((upP N.ls os u).filter fun w => !decide (w = v))).1 := by
  have hi := hp.ins ok
  refine (dstN_dist ok hi.1 v).uniq ?_
  have hup : ∀ w p, prR rows u w = some p → posOf u os < posOf w os → PairP N.ls os u w := fun w p e hl => by
    by_cases c : PairP N.ls os u w
    · exact c
    · rw [(fill_up ok oo h).none u w hl c] at e
      cases e
  constructor
  · refine best_fst (P := fun c => ∃ l, Way (linkW N.ls) tru u (v :: l) c) _ (fun c hc => up_way ok oo h u v c hp.1 hc) fun w hw c hc => ?_
    obtain ⟨a, b, ha, hb, rfl⟩ := addO_some hc
    have hpw := (mem_upP ok oo).mp (List.mem_filter.mp hw).1
    obtain ⟨l1, w1⟩ := up_way ok oo h u w a hpw.1 ha
    obtain ⟨l2, w2⟩ := (dstN_dist ok (hpw.ins ok).2 v).1 b hb
    exact w1.append (fun _ _ => trivial) (fun _ _ => trivial) w2
  · rintro c ⟨l, hw⟩
    obtain ⟨m, d1, d2, hm, hd, u1, u2⟩ := road_top ok oo h (oo.mem.mpr hi.1) hw
    have n2 := UpW.nonneg (prR_nonneg ok oo h).2 u2
    rcases u1.head with ⟨rfl, rfl⟩ | ⟨w, p, d, e1, e2, u3, rfl⟩
    · exfalso
      rcases u2.le with z | z
      · exact hp.ne z
      · have := hp.1
        omega
    · have n3 := UpW.nonneg (prR_nonneg ok oo h).1 u3
      by_cases c1 : w = v
      · subst c1
        obtain ⟨g, hg, e⟩ := bestF_first (s := fun w_1 => addO (prR rows u w_1) (dstN N w_1 w)) (ws := (upP N.ls os u).filter fun w_1 => !decide (w_1 = w)) e1
        exact ⟨g, by omega, e⟩
      · have hpw := hup w p e1 e2
        obtain ⟨l1, w1⟩ := upW_way ok oo h u3
        obtain ⟨l2, w2⟩ := dnW_way ok oo h u2
        obtain ⟨l3, w3⟩ := w1.append (ext := tru) (fun _ _ => trivial) (fun _ _ => trivial) w2
        obtain ⟨g, hg, e⟩ := (dstN_dist ok (hpw.ins ok).2 v).2 _ ⟨l3, w3⟩
        obtain ⟨g2, hg2, e3⟩ := bestF_le (o := prR rows u v) (s := fun w => addO (prR rows u w) (dstN N w v)) (ws := (upP N.ls os u).filter fun w => !decide (w = v)) (x := w) (c := p + g) (List.mem_filter.mpr ⟨(mem_upP ok oo).mpr hpw, by rw [decide_eq_false c1]; rfl⟩) (by
          show addO (prR rows u w) (dstN N w v) = some (p + g)
          rw [e1, e]
          rfl)
        exact ⟨g2, by omega, e3⟩
theorem true_dn (ok : NetOk N) (oo : OrdOk N.n os) (h : FillOk N os rows) {u v : Int} (hp : PairP N.ls os u v) : dstN N v u = (bestF (prR rows v u) (fun w => addO (dstN N v w) (prR rows w u)) ((upP N.ls os u).filter fun w => !decide (w = v))).1 := by
  have hi := hp.ins ok
  refine (dstN_dist ok hi.2 u).uniq ?_
  have hup : ∀ w p, prR rows w u = some p → posOf u os < posOf w os → PairP N.ls os u w := fun w p e hl => by
    by_cases c : PairP N.ls os u w
    · exact c
    · rw [show prR rows w u = none from (fill_dn ok oo h).none u w hl c] at e
      cases e
  constructor
  · refine best_fst (P := fun c => ∃ l, Way (linkW N.ls) tru v (u :: l) c) _ (fun c hc => dn_way ok oo h u v c hp.1 hc) fun w hw c hc => ?_
    obtain ⟨a, b, ha, hb, rfl⟩ := addO_some hc
    have hpw := (mem_upP ok oo).mp (List.mem_filter.mp hw).1
    obtain ⟨l1, w1⟩ := (dstN_dist ok hi.2 w).1 a ha
    obtain ⟨l2, w2⟩ := dn_way ok oo h u w b hpw.1 hb
    exact w1.append (fun _ _ => trivial) (fun _ _ => trivial) w2
  · rintro c ⟨l, hw⟩
    obtain ⟨m, d1, d2, hm, hd, u1, u2⟩ := road_top ok oo h (oo.mem.mpr hi.2) hw
    have n1 := UpW.nonneg (prR_nonneg ok oo h).1 u1
    rcases u2.head with ⟨rfl, rfl⟩ | ⟨w, p, d, e1, e2, u3, rfl⟩
    · exfalso
      rcases u1.le with z | z
      · exact hp.ne z
      · have := hp.1
        omega
    · have e1 : prR rows w u = some p := e1
      have n3 := UpW.nonneg (prR_nonneg ok oo h).2 u3
      by_cases c1 : w = v
      · subst c1
        obtain ⟨g, hg, e⟩ := bestF_first (s := fun w_1 => addO (dstN N w w_1) (prR rows w_1 u)) (ws := (upP N.ls os u).filter fun w_1 => !decide (w_1 = w)) e1
        exact ⟨g, by omega, e⟩
      · have hpw := hup w p e1 e2
        obtain ⟨l1, w1⟩ := upW_way ok oo h u1
        obtain ⟨l2, w2⟩ := dnW_way ok oo h u3
        obtain ⟨l3, w3⟩ := w1.append (ext := tru) (fun _ _ => trivial) (fun _ _ => trivial) w2
        obtain ⟨g, hg, e⟩ := (dstN_dist ok hi.2 w).2 _ ⟨l3, w3⟩
        obtain ⟨g2, hg2, e3⟩ := bestF_le (o := prR rows v u) (s := fun w => addO (dstN N v w) (prR rows w u)) (ws := (upP N.ls os u).filter fun w => !decide (w = v)) (x := w) (c := g + p) (List.mem_filter.mpr ⟨(mem_upP ok oo).mpr hpw, by rw [decide_eq_false c1]; rfl⟩) (by
          show addO (dstN N v w) (prR rows w u) = some (g + p)
          rw [e1, e]
          rfl)
        exact ⟨g2, by omega, e3⟩
/-- a true price is no greater than the filled-in one -/
theorem true_le_up (ok : NetOk N) (oo : OrdOk N.n os) (h : FillOk N os rows) {u v c : Int} (hp : PairP N.ls os u v) (hc : prR rows u v = some c) : ∃ d, d ≤ c ∧ dstN N u v = some d := by
  rw [true_up ok oo h hp]
  exact bestF_first hc
theorem true_le_dn (ok : NetOk N) (oo : OrdOk N.n os) (h : FillOk N os rows) {u v c : Int} (hp : PairP N.ls os u v) (hc : prR rows v u = some c) : ∃ d, d ≤ c ∧ dstN N v u = some d := by
  rw [true_dn ok oo h hp]
  exact bestF_first hc
end
/-! ### dicts from ways of pairs to prices -/
def WayIn (L : List (Int × Int)) (x y : Int) : Prop := (x, y) ∈ L ∨ (y, x) ∈ L
structure WayD (kvs : List (List L2.Key × V)) (L : List (Int × Int)) (g : Int → Int → Option Int) : Prop where
  len : kvs.length = 2 * L.length
  all : ∀ p ∈ kvs, ∃ x y, WayIn L x y ∧ p = (K2 (x, y), oV (g x y))
  has : ∀ x y, WayIn L x y → valV kvs (K2 (x, y)) = some (oV (g x y))
  un : ∀ x y z, valV kvs (K2 (x, y)) = some z → WayIn L x y
theorem WayD.nil {g : Int → Int → Option Int} : WayD [] [] g := ⟨rfl, fun _ h => (nomatch h), fun x y h => by
  rcases h with h | h <;> exact (nomatch h), fun x y z h => by
  have : (none : Option V) = some z := h
  cases this⟩
theorem putK_app {kvs : List (List L2.Key × V)} {k : List L2.Key} {v : V} (h : valV kvs k = none) : putK kvs k v = kvs ++ [(k, v)] := by
  unfold putK
  rw [valV_any, h, if_neg (by simp)]
theorem WayD.put {kvs : List (List L2.Key × V)} {L : List (Int × Int)} {g : Int → Int → Option Int} (h : WayD kvs L g) {u v : Int} (uv : u ≠ v) (n1 : (u, v) ∉ L) (n2 : (v, u) ∉ L) : WayD (putK (putK kvs (K2 (u, v)) (oV (g u v))) (K2 (v, u)) (oV (g v u))) (L ++ [(u, v)]) g := by
  have nw : ∀ x y, (x = u ∧ y = v) ∨ (x = v ∧ y = u) → valV kvs (K2 (x, y)) = none := fun x y e => by
    cases e2 : valV kvs (K2 (x, y)) with
    | none => rfl
    | some z =>
      have := h.un x y z e2
      rcases e with ⟨rfl, rfl⟩ | ⟨rfl, rfl⟩ <;> rcases this with t | t
      · exact absurd t n1
      · exact absurd t n2
      · exact absurd t n2
      · exact absurd t n1
  have e1 := putK_app (v := oV (g u v)) (nw u v (.inl ⟨rfl, rfl⟩))
  have ne : K2 (v, u) ≠ K2 (u, v) := fun e => uv (congrArg Prod.snd (K2_inj e))
  have v2 : valV (putK kvs (K2 (u, v)) (oV (g u v))) (K2 (v, u)) = none := by
    rw [valV_put, if_neg ne]
    exact nw v u (.inr ⟨rfl, rfl⟩)
  have e2 := putK_app (v := oV (g v u)) v2
  have old : ∀ x y, WayIn L x y → WayIn (L ++ [(u, v)]) x y := fun x y e => e.imp (fun z => List.mem_append.mpr (.inl z)) fun z => List.mem_append.mpr (.inl z)
  have w1 : WayIn (L ++ [(u, v)]) u v := .inl (List.mem_append.mpr (.inr List.mem_cons_self))
  have w2 : WayIn (L ++ [(u, v)]) v u := .inr (List.mem_append.mpr (.inr List.mem_cons_self))
  refine ⟨?_, fun p hp => ?_, fun x y hw => ?_, fun x y z hz => ?_⟩
  · rw [e2, e1, List.length_append, List.length_append, List.length_append, h.len]
    show 2 * L.length + 1 + 1 = 2 * (L.length + 1)
    omega
  · rw [e2, e1] at hp
    rcases List.mem_append.mp hp with q | q
    · rcases List.mem_append.mp q with q | q
      · obtain ⟨x, y, h1, h2⟩ := h.all p q
        exact ⟨x, y, old x y h1, h2⟩
      · exact ⟨u, v, w1, List.mem_singleton.mp q⟩
    · exact ⟨v, u, w2, List.mem_singleton.mp q⟩
  · rw [valV_put, valV_put]
    by_cases c1 : K2 (x, y) = K2 (v, u)
    · have := K2_inj c1
      injection this with e3 e4
      rw [if_pos c1, e3, e4]
    · rw [if_neg c1]
      by_cases c2 : K2 (x, y) = K2 (u, v)
      · have := K2_inj c2
        injection this with e3 e4
        rw [if_pos c2, e3, e4]
      · rw [if_neg c2]
        refine h.has x y ?_
        rcases hw with q | q <;> rcases List.mem_append.mp q with q | q
        · exact .inl q
        · exact absurd (congrArg K2 (List.mem_singleton.mp q)) c2
        · exact .inr q
        · exfalso
          have := List.mem_singleton.mp q
          injection this with e3 e4
          exact c1 (by rw [e3, e4])
  · rw [valV_put, valV_put] at hz
    by_cases c1 : K2 (x, y) = K2 (v, u)
    · have := K2_inj c1
      injection this with e3 e4
      rw [e3, e4]
      exact w2
    · rw [if_neg c1] at hz
      by_cases c2 : K2 (x, y) = K2 (u, v)
      · have := K2_inj c2
        injection this with e3 e4
        rw [e3, e4]
        exact w1
      · rw [if_neg c2] at hz
        exact old x y (h.un x y z hz)
theorem WayD.eqT {K : PySem.W.Frag} {H : Hp} {ks ls : List (List L2.Key × V)} {L M : List (Int × Int)} {g : Int → Int → Option Int} (h1 : WayD ks L g) (h2 : WayD ls M g) (hl : L.length = M.length) (hm : ∀ p ∈ L, p ∈ M) : EqT K H ks ls := by
  refine ⟨by rw [h1.len, h2.len, hl], fun p hp => ?_⟩
  obtain ⟨x, y, hw, rfl⟩ := h1.all p hp
  refine ⟨_, h2.has x y (hw.imp (hm _) (hm _)), .inl ⟨rfl, ?_⟩⟩
  cases g x y <;> rfl
/-! ### the law's sums of all roads -/

def spSums (K : PySem.W.Frag) : Sp := fun vs H Q _ => ∃ (v : V) (N : Net) (s : Int) (c : Addr), vs = [v, .int s, .ref c] ∧ Dp K H v (netD N) ∧ NetOk N ∧ 0 ≤ s ∧ s < N.n ∧ SqL K H c [] ∧
  ∀ (H' : Hp) (q : Addr), Same H H' → H q = none → H' q = some (.lst ((rng N.n).map fun z => oV (bf yesB N.ls s N.n.toNat z))) → Q (.ref q) H'
theorem fold_take {α β : Type} {f : β → α → β} {b : β} {xs : List α} {i : Nat} {x : α} (h : xs[i]? = some x) : (xs.take (i + 1)).foldl f b = f ((xs.take i).foldl f b) x := by
  rw [take_snoc h, List.foldl_append]
  rfl
section
variable {P : Program} {w : World} {K : PySem.W.Frag} {mg : Str → Option Value} {base : Heap}
end
/-! ### check_places -/
def badP (n x : Int) : Bool := !(decide (0 ≤ x) && decide (x < n))
theorem badP_in {n x : Int} (h : 0 ≤ x ∧ x < n) : ¬ badP n x = true := by
  unfold badP
  rw [decide_eq_true h.1, decide_eq_true h.2]
  exact Bool.false_ne_true
theorem badP_out {n x : Int} (h : ¬ (0 ≤ x ∧ x < n)) : badP n x = true := by
  unfold badP
  rw [Bool.not_eq_true', Bool.and_eq_false_iff, decide_eq_false_iff_not, decide_eq_false_iff_not]
  omega
def badPl (n : Int) (xs : List Int) : Option Int := xs.find? (badP n)
theorem badPl_none {n : Int} {xs : List Int} (h : badPl n xs = none) : ∀ x ∈ xs, 0 ≤ x ∧ x < n := fun x hx => by
  have := List.find?_eq_none.mp h x hx
  by_cases c : 0 ≤ x ∧ x < n
  · exact c
  · exact absurd (badP_out c) this
theorem badPl_of {n : Int} {xs : List Int} (h : ∀ x ∈ xs, 0 ≤ x ∧ x < n) : badPl n xs = none := List.find?_eq_none.mpr fun x hx => badP_in (h x hx)
def spChkPl (K : PySem.W.Frag) (CP : Addr) : Sp := fun vs H Q E => ∃ (n : Int) (p : Addr) (xs : List Int), vs = [.int n, .ref p] ∧ SqL K H p (xs.map V.int) ∧
  (∀ x, badPl n xs = some x → RaiseTo E H CP x) ∧ (badPl n xs = none → ∀ H', Same H H' → Q .non H')
abbrev sChkPl : Stmt := topS 8
theorem scChkPl : FnScope ["n", "places", "place"] ["n", "places"] (defScope sChkPl) := ⟨rfl, rfl, rfl, by decide +kernel, rfl, by decide +kernel, by decide +kernel⟩
section
variable {P : Program} {w : World} {K : PySem.W.Frag} {mg : Str → Option Value} {base : Heap} {CP fI : Addr}
theorem ok_chkPl {f : Addr} {fd : FuncData} (F : Fun K "check_places" "check_places" sChkPl f fd) (hP : PySem.LowX.LowTxt K mg "NoPlace" CP fI) : FnOk P w K mg base (L2.CX P w) 2 f fd ["n", "places"] (spChkPl K CP) := by
  refine F.okX scChkPl (fun vs H Q E h => ?_) (fun cdv A outer s H vs Q E hr h => ?_)
  · obtain ⟨n, p, xs, rfl, _⟩ := h
    rfl
  · obtain ⟨n, p, xs, rfl, hS, q1, q2⟩ := h
    refine ⟨_, pss_one (ps_for (passes_of rfl) rfl (pi_list (pv 1)) (pg_name (i := 2) scChkPl.nd rfl (.inl rfl))
      (pss_one (ps_if (pt_not (pt_chain op_le op_lt pe_int (pv 2) (pv 0)))
        (pss_one (ps_raiseLow rfl hP hr (takes_of rfl rfl rfl rfl) (by exact (pa_cons (pv 2) pa_nil))))
        pss_nil))), ?_⟩
    refine g_forL (K := K) (j := 2) (xs := xs.map V.int) (vl_var rfl) hS
      (fun i σ H3 => ∃ y2, σ = [some (.int n), some (.ref p), y2] ∧ Same H H3 ∧ badPl n (xs.take i) = none)
      ⟨none, rfl, Same.refl _, rfl⟩ (fun i σ H3 hP => ?_) (fun i v σ H3 hi hP => ?_) (fun σ H3 hP => ?_)
    · obtain ⟨_, _, s3, _⟩ := hP
      exact s3.seq hS
    · obtain ⟨y2, rfl, s3, hb⟩ := hP
      rw [List.getElem?_map] at hi
      cases hg : xs[i]? with
      | none =>
        rw [hg] at hi
        cases hi
      | some z =>
        rw [hg] at hi
        cases hi
        refine g_when (b := !(decide ((0 : Int) ≤ z) && decide (z < n))) (an_not (an_test (vl_chainI vl_c (vl_var rfl) (vl_var rfl)))) (fun hz => ?_) (fun hz => ?_)
        · refine raise_now (va_cons (vl_var rfl) va_nil) ((q1 z ?_).to s3)
          have e : xs = xs.take i ++ (z :: xs.drop (i + 1)) := by
            have hil := (List.getElem?_eq_some_iff.mp hg)
            rw [← hil.2, ← List.drop_eq_getElem_cons hil.1, List.take_append_drop]
          rw [e]
          unfold badPl at hb ⊢
          rw [List.find?_append, hb, List.find?_cons_of_pos (p := badP n) hz] <;> rfl
        · refine ⟨_, rfl, s3, ?_⟩
          unfold badPl at hb ⊢
          rw [take_snoc hg, List.find?_append, hb, List.find?_cons_of_neg (p := badP n) (fun z => by rw [show badP n _ = false from hz] at z; cases z)] <;> rfl
    · obtain ⟨y2, rfl, s3, hb⟩ := hP
      rw [List.length_map, List.take_length] at hb
      exact q2 hb _ s3
end
section
variable {K : PySem.W.Frag} {σ : L2.St} {H : Hp} {t0 t1 t2 : TE} {D : Ends} {tw : TS} {E : XK} {CP : Addr} {n a b : Int}
/-- check_places(n, [a]) -/
theorem q_chk1 (h0 : Vl t0 σ H (.int n)) (h1 : Vl t1 σ H (.int a)) (qb : ¬ (0 ≤ a ∧ a < n) → RaiseTo E H CP a) (k : 0 ≤ a ∧ a < n → ∀ H', Same H H' → tw D σ H') :
    tSeq (tDrop (tCall (spChkPl K CP) [] E (tCons t0 (tCons (tLst (tCons t1 tNil)) tNil)))) tw D σ H :=
  h0 _ (h1 _ ⟨by show 1 ≤ sizeLine; decide, fun p np => ⟨n, p, [a], rfl, .of upd_same, fun x hx => by
    have s : Same H (upd H p (.lst [.int a])) := same_upd np
    refine (?_ : RaiseTo E H CP x).to s
    by_cases hin : 0 ≤ a ∧ a < n
    · rw [badPl_of (by
        intro y hy
        rw [List.mem_singleton.mp hy]
        exact hin)] at hx
      cases hx
    · have e : x = a := List.mem_singleton.mp (List.mem_of_find?_eq_some hx)
      rw [e]
      exact qb hin, fun hx H' s' => k (badPl_none hx a List.mem_cons_self) H' ((same_upd np).trans s')⟩⟩)
/-- check_places(n, [a, b]) -/
theorem q_chk2 (h0 : Vl t0 σ H (.int n)) (h1 : Vl t1 σ H (.int a)) (h2 : Vl t2 σ H (.int b)) (qa : ¬ (0 ≤ a ∧ a < n) → RaiseTo E H CP a) (qb : 0 ≤ a ∧ a < n → ¬ (0 ≤ b ∧ b < n) → RaiseTo E H CP b)
    (k : 0 ≤ a ∧ a < n → 0 ≤ b ∧ b < n → ∀ H', Same H H' → tw D σ H') :
    tSeq (tDrop (tCall (spChkPl K CP) [] E (tCons t0 (tCons (tLst (tCons t1 (tCons t2 tNil))) tNil)))) tw D σ H :=
  h0 _ (h1 _ (h2 _ ⟨by show 2 ≤ sizeLine; decide, fun p np => ⟨n, p, [a, b], rfl, .of upd_same, fun x hx => by
    have s : Same H (upd H p (.lst [.int a, .int b])) := same_upd np
    refine (?_ : RaiseTo E H CP x).to s
    unfold badPl at hx
    by_cases hin : 0 ≤ a ∧ a < n
    · by_cases hin2 : 0 ≤ b ∧ b < n
      · have := badPl_of (n := n) (xs := [a, b]) (by
          intro y hy
          rcases List.mem_cons.mp hy with rfl | hy
          · exact hin
          · rw [List.mem_singleton.mp hy]
            exact hin2)
        unfold badPl at this
        rw [this] at hx
        cases hx
      · rw [List.find?_cons_of_neg (badP_in hin)] at hx
        have e : x = b := List.mem_singleton.mp (List.mem_of_find?_eq_some hx)
        rw [e]
        exact qb hin hin2
    · rw [List.find?_cons_of_pos (badP_out hin)] at hx
      cases hx
      exact qa hin, fun hx H' s' => k (badPl_none hx a List.mem_cons_self) (badPl_none hx b (List.mem_cons_of_mem _ List.mem_cons_self)) H' ((same_upd np).trans s')⟩⟩))
end
/-! ### answers to all places at once -/
def ansStep (f : Int → Option Int) (r : Row) : Int → Option Int := rlx yesB f r.v r.u r.dn
def ansF (s : Int) (rows : List Row) : Int → Option Int := rows.reverse.foldl ansStep (fun z => (sumsF (·.up) s rows z).1)
/-- the sum over a top -/
def overF (N : Net) (rows : List Row) (s t : Int) (x : Int) : Option Int := addO (sumsF (·.up) s rows x).1 (sumsF (·.dn) t rows x).1
theorem ansStep_ne {f : Int → Option Int} {r : Row} {z : Int} (h : z ≠ r.u) : ansStep f r z = f z := by
  unfold ansStep rlx
  cases r.dn with
  | none => rfl
  | some p =>
    cases f r.v with
    | none => rfl
    | some c =>
      dsimp only
      rw [if_pos (show yesB r.v = true from rfl)]
      cases f r.u with
      | none => exact updF_ne h
      | some d =>
        dsimp only
        split
        · exact updF_ne h
        · rfl
theorem ans_keep : ∀ (rows : List Row) (f : Int → Option Int) {x : Int}, (∀ r ∈ rows, r.u ≠ x) → rows.foldl ansStep f x = f x
  | [], _, _, _ => rfl
  | r :: rows, f, x, h => by
    rw [List.foldl_cons, ans_keep rows _ fun q hq => h q (List.mem_cons_of_mem _ hq)]
    exact ansStep_ne (h r List.mem_cons_self).symm
theorem bet_ans : ∀ (rows : List Row) (f : Int → Option Int), Bet f (rows.foldl ansStep f)
  | [], f => Bet.refl _
  | r :: rows, f => Bet.trans bet_rlx (bet_ans rows (ansStep f r))
theorem ans_sound {P : Int → Int → Prop} : ∀ (rows : List Row) (f : Int → Option Int), (∀ z c, f z = some c → P z c) → (∀ r ∈ rows, ∀ b p, r.dn = some p → P r.v b → P r.u (b + p)) → ∀ z c, rows.foldl ansStep f z = some c → P z c
  | [], f, h, _ => h
  | r :: rows, f, h, hr => ans_sound rows _ (rlx_sound h fun b p hp _ hb => hr r List.mem_cons_self b p hp hb) fun q hq => hr q (List.mem_cons_of_mem _ hq)
section
variable {N : Net} {os : List Int} {rows : List Row} {F : Int → Int → Option Int}
/-- down from each place: what one way down brings is there in the end -/
theorem ans_close (ok : NetOk N) (oo : OrdOk N.n os) (h : ColOk N os rows (·.dn) F) {f : Int → Option Int} {u v a p : Int} (hl : posOf u os < posOf v os) (hp : F u v = some p) (hv : rows.reverse.foldl ansStep f v = some a) : ∃ d, d ≤ a + p ∧ rows.reverse.foldl ansStep f u = some d := by
  obtain ⟨h1, h2⟩ := h.rws ok oo
  obtain ⟨r, hr, e1, e2, e3⟩ := h.row ok oo hl hp
  obtain ⟨x, y, rfl⟩ := List.append_of_mem hr
  rw [List.reverse_append, List.reverse_cons, List.append_assoc, List.foldl_append, List.foldl_append] at hv ⊢
  have hx : ∀ q ∈ x.reverse, q.u ≠ v := fun q hq z => by
    have := (List.pairwise_append.mp h2).2.2 q (List.mem_reverse.mp hq) r List.mem_cons_self
    rw [z, e1] at this
    omega
  rw [ans_keep _ _ hx] at hv
  have hv : ansStep (y.reverse.foldl ansStep f) r v = some a := hv
  rw [ansStep_ne (fun z => by
    rw [z, e1] at hl
    exact Nat.lt_irrefl _ hl)] at hv
  have key : ∃ g, g ≤ a + p ∧ ansStep (y.reverse.foldl ansStep f) r u = some g := by
    unfold ansStep
    rw [e2, e1, show r.dn = some p from e3]
    exact rlx_done hv rfl
  obtain ⟨g, hg, e4⟩ := key
  obtain ⟨g2, hg2, e5⟩ := bet_ans x.reverse _ u g e4
  exact ⟨g2, by omega, e5⟩
theorem ans_all (ok : NetOk N) (oo : OrdOk N.n os) (h : FillOk N os rows) {s : Int} (hs : s ∈ os) (z : Int) : Dist (linkW N.ls) tru s z (ansF s rows z) := by
  constructor
  · refine ans_sound (P := fun z c => ∃ l, Way (linkW N.ls) tru s (z :: l) c) rows.reverse _ (fun z c hz => upW_way ok oo h ((sums_least ok oo (fill_up ok oo h) s z).1 c hz)) (fun r hr b p hp hb => ?_) z
    have hm := List.mem_reverse.mp hr
    have pp := h.pair ok oo hm
    obtain ⟨l1, w1⟩ := hb
    obtain ⟨l2, w2⟩ := dn_way ok oo h r.u r.v p pp.1 ((prR_up ok oo h hm).2.trans hp)
    exact w1.append (fun _ _ => trivial) (fun _ _ => trivial) w2
  · rintro c ⟨l, hw⟩
    obtain ⟨m, d1, d2, hm, hd, u1, u2⟩ := road_top ok oo h hs hw
    obtain ⟨g1, hg1, e1⟩ := (sums_least ok oo (fill_up ok oo h) s m).2 d1 u1
    obtain ⟨g2, hg2, e2⟩ := bet_ans rows.reverse (fun z => (sumsF (·.up) s rows z).1) m g1 e1
    have chain : ∀ {m d2 a : Int}, UpW (tr (prR rows)) (fun z => posOf z os) z m d2 → ansF s rows m = some a → ∃ g, g ≤ a + d2 ∧ ansF s rows z = some g := by
      intro m d2 a hu
      induction hu generalizing a with
      | one => exact fun e => ⟨a, by omega, e⟩
      | @step y x c p hy hl hp ih =>
        intro e
        obtain ⟨g, hg, e3⟩ := ans_close ok oo (fill_dn ok oo h) (f := fun z => (sumsF (·.up) s rows z).1) hl hp e
        obtain ⟨g3, hg3, e4⟩ := ih e3
        exact ⟨g3, by omega, e4⟩
    obtain ⟨g, hg, e3⟩ := chain u2 e2
    exact ⟨g, by omega, e3⟩
/-- .. so they are the law's sums -/
theorem ans_dst (ok : NetOk N) (oo : OrdOk N.n os) (h : FillOk N os rows) {s : Int} (hs : 0 ≤ s ∧ s < N.n) (z : Int) : ansF s rows z = dstN N s z := (ans_all ok oo h (oo.mem.mpr hs) z).uniq (dstN_dist ok hs z)
theorem ans_one (ok : NetOk N) (oo : OrdOk N.n os) (h : FillOk N os rows) {s : Int} (hs : 0 ≤ s ∧ s < N.n) (t : Int) : (bestF none (fun x => addO (sumsF (·.up) s rows x).1 (sumsF (·.dn) t rows x).1) os).1 = dstN N s t := (ans_dist ok oo h (oo.mem.mpr hs)).uniq (dstN_dist ok hs t)
end
/-! ### ways with slack, and rows without -/
def slackB (N : Net) (x y : Int) (o : Option Int) : Bool := decide (o = none ∨ o ≠ dstN N x y)
def keepS (N : Net) (x y : Int) (o m : Option Int) : Option Int := if slackB N x y o = true then none else m
def leanR (N : Net) (r : Row) : Row := ⟨r.u, r.v, keepS N r.u r.v r.up r.up, keepS N r.v r.u r.dn r.dn, keepS N r.u r.v r.up r.um, keepS N r.v r.u r.dn r.dm⟩
def leanF (N : Net) (rows : List Row) (x y : Int) : Option Int := keepS N x y (prR rows x y) (prR rows x y)
theorem keepS_some {N : Net} {x y p : Int} {o : Option Int} : keepS N x y o o = some p ↔ o = some p ∧ dstN N x y = some p := by
  unfold keepS slackB
  by_cases c : o = none ∨ o ≠ dstN N x y
  · rw [if_pos (decide_eq_true c)]
    constructor
    · exact fun h => nomatch h
    · rintro ⟨h1, h2⟩
      rcases c with c | c
      · rw [h1] at c
        cases c
      · exact absurd (h1.trans h2.symm) c
  · rw [if_neg (by rw [decide_eq_false c]; exact Bool.false_ne_true)]
    constructor
    · intro h
      refine ⟨h, ?_⟩
      by_cases e : o = dstN N x y
      · rw [← e]
        exact h
      · exact absurd (.inr e) c
    · exact fun h => h.1
section
variable {N : Net} {os : List Int} {rows : List Row}
theorem lean_pairs (rows : List Row) : (rows.map (leanR N)).map prOf = rows.map prOf := by
  rw [List.map_map]
  rfl
theorem lean_up (ok : NetOk N) (oo : OrdOk N.n os) (h : FillOk N os rows) : ColOk N os (rows.map (leanR N)) (·.up) (leanF N rows) where
  pairs := (lean_pairs rows).trans h.pairs
  at_ := fun r hr => by
    obtain ⟨q, hq, rfl⟩ := List.mem_map.mp hr
    show keepS N q.u q.v (prR rows q.u q.v) (prR rows q.u q.v) = keepS N q.u q.v q.up q.up
    rw [(prR_up ok oo h hq).1]
  none := fun u v hl hp => by
    unfold leanF keepS
    rw [(fill_up ok oo h).none u v hl hp]
    split <;> rfl
theorem lean_dn (ok : NetOk N) (oo : OrdOk N.n os) (h : FillOk N os rows) : ColOk N os (rows.map (leanR N)) (·.dn) (tr (leanF N rows)) where
  pairs := (lean_pairs rows).trans h.pairs
  at_ := fun r hr => by
    obtain ⟨q, hq, rfl⟩ := List.mem_map.mp hr
    show keepS N q.v q.u (prR rows q.v q.u) (prR rows q.v q.u) = keepS N q.v q.u q.dn q.dn
    rw [(prR_up ok oo h hq).2]
  none := fun u v hl hp => by
    show keepS N v u (prR rows v u) (prR rows v u) = none
    have e : prR rows v u = none := (fill_dn ok oo h).none u v hl hp
    unfold keepS
    rw [e]
    split <;> rfl
theorem row_in (ok : NetOk N) (oo : OrdOk N.n os) (h : FillOk N os rows) {x y p : Int} (hp : prR rows x y = some p) : (0 ≤ x ∧ x < N.n) ∧ (0 ≤ y ∧ y < N.n) := by
  rcases prR_some hp with ⟨r, hr, rfl, rfl, _⟩ | ⟨r, hr, rfl, rfl, _⟩
  · exact (h.pair ok oo hr).ins ok
  · exact ((h.pair ok oo hr).ins ok).symm
theorem lean_chain (ok : NetOk N) (oo : OrdOk N.n os) (h : FillOk N os rows) {s m d1 : Int} (hs : 0 ≤ s ∧ s < N.n) (hu : UpW (prR rows) (fun z => posOf z os) s m d1) : ∀ {z d2 t : Int} {l : List Int}, Way (linkW N.ls) tru m (z :: l) d2 → dstN N s z = some t → d1 + d2 ≤ t → UpW (leanF N rows) (fun z => posOf z os) s m d1 := by
  induction hu with
  | one => exact fun _ _ _ => .one
  | @step y x c p hy hl hp ih =>
    intro z d2 t l w2 ht hd
    obtain ⟨l1, w1⟩ := up_way ok oo h y x p hl hp
    obtain ⟨l3, w3⟩ := w1.append (fun _ _ => trivial) (fun _ _ => trivial) w2
    refine .step (ih w3 ht (by omega)) hl (keepS_some.mpr ⟨hp, ?_⟩)
    obtain ⟨d, hd1, ed⟩ := (dstN_dist ok (row_in ok oo h hp).1 x).2 p ⟨l1, w1⟩
    obtain ⟨l4, w4⟩ := (dstN_dist ok (row_in ok oo h hp).1 x).1 d ed
    obtain ⟨l5, w5⟩ := upW_way ok oo h hy
    obtain ⟨l6, w6⟩ := w5.append (fun _ _ => trivial) (fun _ _ => trivial) w4
    obtain ⟨l7, w7⟩ := w6.append (fun _ _ => trivial) (fun _ _ => trivial) w2
    obtain ⟨t2, ht2, et2⟩ := (dstN_dist ok hs z).2 _ ⟨l7, w7⟩
    have e : t2 = t := Option.some.inj (et2.symm.trans ht)
    have : p = d := by omega
    rw [ed, this]
theorem lean_chain_dn (ok : NetOk N) (oo : OrdOk N.n os) (h : FillOk N os rows) {s z m d2 : Int} (hs : 0 ≤ s ∧ s < N.n) (hu : UpW (tr (prR rows)) (fun z => posOf z os) z m d2) : ∀ {d1 t : Int} {l : List Int}, Way (linkW N.ls) tru s (m :: l) d1 → dstN N s z = some t → d1 + d2 ≤ t → UpW (tr (leanF N rows)) (fun z => posOf z os) z m d2 := by
  induction hu with
  | one => exact fun _ _ _ => .one
  | @step y x c p hy hl hp ih =>
    intro d1 t l w1 ht hd
    have hp' : prR rows x y = some p := hp
    obtain ⟨l2, w2⟩ := dn_way ok oo h y x p hl hp'
    obtain ⟨l3, w3⟩ := w1.append (fun _ _ => trivial) (fun _ _ => trivial) w2
    refine .step (ih w3 ht (by omega)) hl (keepS_some.mpr ⟨hp', ?_⟩)
    obtain ⟨d, hd1, ed⟩ := (dstN_dist ok (row_in ok oo h hp').1 y).2 p ⟨l2, w2⟩
    obtain ⟨l4, w4⟩ := (dstN_dist ok (row_in ok oo h hp').1 y).1 d ed
    obtain ⟨l5, w5⟩ := dnW_way ok oo h hy
    obtain ⟨l6, w6⟩ := w1.append (fun _ _ => trivial) (fun _ _ => trivial) w4
    obtain ⟨l7, w7⟩ := w6.append (fun _ _ => trivial) (fun _ _ => trivial) w5
    obtain ⟨t2, ht2, et2⟩ := (dstN_dist ok hs z).2 _ ⟨l7, w7⟩
    have e : t2 = t := Option.some.inj (et2.symm.trans ht)
    have : p = d := by omega
    rw [ed, this]
theorem lean_all (ok : NetOk N) (oo : OrdOk N.n os) (h : FillOk N os rows) {s : Int} (hs : 0 ≤ s ∧ s < N.n) (z : Int) : Dist (linkW N.ls) tru s z (ansF s (rows.map (leanR N)) z) := by
  have hF : ∀ y x p, leanF N rows y x = some p → prR rows y x = some p := fun y x p e => (keepS_some.mp e).1
  constructor
  · refine ans_sound (P := fun z c => ∃ l, Way (linkW N.ls) tru s (z :: l) c) (rows.map (leanR N)).reverse _ (fun z c hz => ?_) (fun r hr b p hp hb => ?_) z
    · exact UpW.way (fun y x p hl e => up_way ok oo h y x p hl (hF y x p e)) ((sums_least ok oo (lean_up ok oo h) s z).1 c hz)
    · obtain ⟨q, hq, rfl⟩ := List.mem_map.mp (List.mem_reverse.mp hr)
      have pp := h.pair ok oo hq
      obtain ⟨l1, w1⟩ := hb
      have hp' : q.dn = some p := (keepS_some.mp hp).1
      obtain ⟨l2, w2⟩ := dn_way ok oo h q.u q.v p pp.1 ((prR_up ok oo h hq).2.trans hp')
      exact w1.append (fun _ _ => trivial) (fun _ _ => trivial) w2
  · rintro c ⟨l, hw⟩
    obtain ⟨t, htc, et⟩ := (dstN_dist ok hs z).2 c ⟨l, hw⟩
    obtain ⟨l2, w2⟩ := (dstN_dist ok hs z).1 t et
    obtain ⟨m, d1, d2, hm, hd, u1, u2⟩ := road_top ok oo h (oo.mem.mpr hs) w2
    obtain ⟨l3, w3⟩ := dnW_way ok oo h u2
    obtain ⟨l4, w4⟩ := upW_way ok oo h u1
    have v1 := lean_chain ok oo h hs u1 w3 et hd
    have v2 := lean_chain_dn ok oo h hs u2 w4 et hd
    obtain ⟨g1, hg1, e1⟩ := (sums_least ok oo (lean_up ok oo h) s m).2 d1 v1
    obtain ⟨g2, hg2, e2⟩ := bet_ans (rows.map (leanR N)).reverse (fun z => (sumsF (·.up) s (rows.map (leanR N)) z).1) m g1 e1
    have chain : ∀ {m d2 a : Int}, UpW (tr (leanF N rows)) (fun z => posOf z os) z m d2 → ansF s (rows.map (leanR N)) m = some a → ∃ g, g ≤ a + d2 ∧ ansF s (rows.map (leanR N)) z = some g := by
      intro m d2 a hu
      induction hu generalizing a with
      | one => exact fun e => ⟨a, by omega, e⟩
      | @step y x c p hy hl hp ih =>
        intro e
        obtain ⟨g, hg, e3⟩ := ans_close ok oo (lean_dn ok oo h) (f := fun z => (sumsF (·.up) s (rows.map (leanR N)) z).1) hl hp e
        obtain ⟨g3, hg3, e4⟩ := ih e3
        exact ⟨g3, by omega, e4⟩
    obtain ⟨g, hg, e3⟩ := chain v2 e2
    exact ⟨g, by omega, e3⟩
/-- rows without slack answer as the rows do -/
theorem lean_ans (ok : NetOk N) (oo : OrdOk N.n os) (h : FillOk N os rows) {s : Int} (hs : 0 ≤ s ∧ s < N.n) (z : Int) : ansF s (rows.map (leanR N)) z = dstN N s z := (lean_all ok oo h hs z).uniq (dstN_dist ok hs z)
theorem lean_in (ok : NetOk N) (oo : OrdOk N.n os) (h : FillOk N os rows) {r : Row} (hr : r ∈ rows.map (leanR N)) : (0 ≤ r.u ∧ r.u < N.n) ∧ (0 ≤ r.v ∧ r.v < N.n) := by
  obtain ⟨q, hq, rfl⟩ := List.mem_map.mp hr
  exact (h.pair ok oo hq).ins ok
end
/-! ### roads of ways -/
def wayOf (r : Row) (x y : Int) : Option (Option Int × Option Int) := if r.u = x ∧ r.v = y then some (r.up, r.um) else if r.u = y ∧ r.v = x then some (r.dn, r.dm) else none
def wayR (rows : List Row) (x y : Int) : Option (Option Int × Option Int) := rows.findSome? fun r => wayOf r x y
def roadF (rows : List Row) : Nat → Int → Int → List Int
  | 0, x, y => [x, y]
  | d + 1, x, y => match wayR rows x y with
    | some (_, some m) => roadF rows d x m ++ (roadF rows d m y).drop 1
    | _ => [x, y]
theorem wayR_some {rows : List Row} {x y : Int} {a : Option Int × Option Int} (h : wayR rows x y = some a) : ∃ r ∈ rows, (r.u = x ∧ r.v = y ∧ a = (r.up, r.um)) ∨ (r.u = y ∧ r.v = x ∧ a = (r.dn, r.dm)) := by
  obtain ⟨r, hr, e⟩ := List.exists_of_findSome?_eq_some h
  refine ⟨r, hr, ?_⟩
  unfold wayOf at e
  by_cases c : r.u = x ∧ r.v = y
  · rw [if_pos c] at e
    exact .inl ⟨c.1, c.2, (Option.some.inj e).symm⟩
  · rw [if_neg c] at e
    by_cases c2 : r.u = y ∧ r.v = x
    · rw [if_pos c2] at e
      exact .inr ⟨c2.1, c2.2, (Option.some.inj e).symm⟩
    · rw [if_neg c2] at e
      cases e
/-- forward roads along ways -/
inductive RoadP (w : Int → Int → Option Int) : List Int → Int → Prop
  | one (x : Int) : RoadP w [x] 0
  | step {x y p c : Int} {l : List Int} : w x y = some p → RoadP w (y :: l) c → RoadP w (x :: y :: l) (p + c)
theorem RoadP.app {w : Int → Int → Option Int} {m c2 : Int} {l2 : List Int} (h2 : RoadP w (m :: l2) c2) : ∀ {l1 : List Int} {c1 : Int}, RoadP w (l1 ++ [m]) c1 → RoadP w (l1 ++ m :: l2) (c1 + c2)
  | [], _, h => by
    cases h
    rw [Int.zero_add]
    exact h2
  | [x], _, h => by
    cases h with
    | step hp h =>
      have := RoadP.app h2 (l1 := []) h
      rw [Int.add_assoc]
      exact .step hp this
  | x :: y :: l1, _, h => by
    cases h with
    | step hp h =>
      have := RoadP.app h2 (l1 := y :: l1) h
      rw [Int.add_assoc]
      exact .step hp this
theorem RoadP.split {w : Int → Int → Option Int} {m : Int} {l2 : List Int} : ∀ {l1 : List Int} {c : Int}, RoadP w (l1 ++ m :: l2) c → ∃ c1 c2, RoadP w (l1 ++ [m]) c1 ∧ RoadP w (m :: l2) c2 ∧ c = c1 + c2
  | [], c, h => ⟨0, c, .one m, h, (Int.zero_add c).symm⟩
  | [x], _, h => by
    cases h with
    | step hp h => exact ⟨_, _, .step hp (.one m), h, by omega⟩
  | x :: y :: l1, _, h => by
    cases h with
    | step hp h =>
      obtain ⟨c1, c2, h1, h2, e⟩ := RoadP.split (l1 := y :: l1) h
      exact ⟨_, _, .step hp h1, h2, by omega⟩
theorem RoadP.pos {w : Int → Int → Option Int} (hw : ∀ x y p, w x y = some p → 1 ≤ p) {l : List Int} {c : Int} (h : RoadP w l c) : (l.length : Int) - 1 ≤ c := by
  induction h with
  | one => simp
  | step hp _ ih =>
    have := hw _ _ _ hp
    simp only [List.length_cons] at ih ⊢
    omega
theorem RoadP.way {w : Int → Int → Option Int} {l : List Int} {c : Int} (h : RoadP w l c) : ∀ {x : Int} {t : List Int}, l = x :: t → Way w tru x l.reverse c := by
  induction h with
  | one z =>
    intro x t e
    cases e
    exact .one
  | @step u y p c l hp _ ih =>
    intro x t e
    cases e
    rw [List.reverse_cons]
    exact Way.pre hp (ih rfl)
theorem RoadP.at {w : Int → Int → Option Int} {l : List Int} {c : Int} (h : RoadP w l c) : ∀ {i : Nat} {x y : Int}, l[i]? = some x → l[i + 1]? = some y → ∃ p, w x y = some p := by
  induction h with
  | one z =>
    intro i x y _ h2
    cases h2
  | step hp _ ih =>
    intro i x y h1 h2
    cases i with
    | zero =>
      cases h1
      cases h2
      exact ⟨_, hp⟩
    | succ i => exact ih h1 h2
theorem RoadP.take {w : Int → Int → Option Int} {l : List Int} {c : Int} (h : RoadP w l c) : ∀ {i : Nat} {x y : Int}, l[i]? = some x → l[i + 1]? = some y → ∃ c1 p, RoadP w (l.take (i + 1)) c1 ∧ w x y = some p ∧ RoadP w (l.take (i + 1 + 1)) (c1 + p) := by
  induction h with
  | one z =>
    intro i x y _ h2
    cases h2
  | @step u v p c l hp _ ih =>
    intro i x y h1 h2
    cases i with
    | zero =>
      cases h1
      cases h2
      refine ⟨0, p, .one _, hp, ?_⟩
      have := RoadP.step (w := w) hp (.one v)
      rw [Int.add_comm]
      exact this
    | succ i =>
      obtain ⟨c1, q, e1, e2, e3⟩ := ih h1 h2
      refine ⟨p + c1, q, .step hp e1, e2, ?_⟩
      rw [Int.add_assoc]
      exact .step hp e3
theorem RoadP.uniq {w : Int → Int → Option Int} {l : List Int} {c : Int} (h : RoadP w l c) : ∀ {c' : Int}, RoadP w l c' → c = c' := by
  induction h with
  | one z =>
    intro c' h'
    cases h'
    rfl
  | step hp _ ih =>
    intro c' h'
    cases h' with
    | step hp' h' =>
      have := ih h'
      have := Option.some.inj (hp.symm.trans hp')
      omega
/-- a road with a place twice has a shorter one of its own places, the ends the same -/
theorem RoadP.twice {w : Int → Int → Option Int} (hw : ∀ x y p, w x y = some p → 1 ≤ p) {l : List Int} {c : Int} (h : RoadP w l c) (hn : ¬ l.Nodup) : ∃ a z b t, l = a ++ z :: (b ++ z :: t) ∧ ∃ c', c' < c ∧ RoadP w (a ++ z :: t) c' := by
  have ex : ∃ a z b t, l = a ++ z :: (b ++ z :: t) := by
    clear h
    induction l with
    | nil => exact absurd List.nodup_nil hn
    | cons x l ih =>
      by_cases c : x ∈ l
      · obtain ⟨b, t, rfl⟩ := List.append_of_mem c
        exact ⟨[], x, b, t, rfl⟩
      · have : ¬ l.Nodup := fun h => hn (List.nodup_cons.mpr ⟨c, h⟩)
        obtain ⟨a, z, b, t, rfl⟩ := ih this
        exact ⟨x :: a, z, b, t, rfl⟩
  obtain ⟨a, z, b, t, rfl⟩ := ex
  refine ⟨a, z, b, t, rfl, ?_⟩
  obtain ⟨c1, c2, h1, h2, rfl⟩ := h.split
  have h2' : RoadP w ((z :: b) ++ z :: t) c2 := h2
  obtain ⟨c3, c4, h3, h4, rfl⟩ := h2'.split
  have p3 := h3.pos hw
  simp only [List.length_append, List.length_cons, List.length_nil] at p3
  exact ⟨c1 + c4, by omega, h4.app h1⟩
theorem bestF_mid {o : Option Int} {s : Int → Option Int} {ws : List Int} : ((bestF o s ws).2 = none → (bestF o s ws).1 = o) ∧ ∀ m, (bestF o s ws).2 = some m → m ∈ ws ∧ s m = (bestF o s ws).1 ∧ (s m).isSome = true := by
  have key : ∀ (ws : List Int) (acc : Option Int × Option Int), ws.foldl (bestStep s) acc = acc ∨ ∃ m ∈ ws, (ws.foldl (bestStep s) acc).2 = some m ∧ s m = (ws.foldl (bestStep s) acc).1 ∧ (s m).isSome = true := by
    intro ws
    induction ws with
    | nil => exact fun _ => .inl rfl
    | cons w ws ih =>
      intro acc
      rw [List.foldl_cons]
      rcases ih (bestStep s acc w) with e | ⟨m, hm, e⟩
      · rw [e]
        unfold bestStep
        cases hs : s w with
        | none => exact .inl rfl
        | some t =>
          cases ha : acc.1 with
          | none => exact .inr ⟨w, List.mem_cons_self, rfl, hs, by rw [hs]; rfl⟩
          | some b =>
            dsimp only
            by_cases c : t < b
            · rw [if_pos c]
              exact .inr ⟨w, List.mem_cons_self, rfl, hs, by rw [hs]; rfl⟩
            · rw [if_neg c]
              exact .inl rfl
      · exact .inr ⟨m, List.mem_cons_of_mem _ hm, e⟩
  rcases key ws (o, none) with e | ⟨m, hm, e1, e2, e3⟩
  · refine ⟨fun _ => ?_, fun m h => ?_⟩
    · unfold bestF
      rw [e]
    · unfold bestF at h
      rw [e] at h
      cases h
  · refine ⟨fun h => ?_, fun m' h => ?_⟩
    · unfold bestF at h
      rw [e1] at h
      cases h
    · unfold bestF at h ⊢
      rw [e1] at h
      cases h
      exact ⟨hm, e2, e3⟩
section
variable {N : Net} {os : List Int} {rows : List Row}
/-- a way of a filling: its price, and over its middle -/
structure WayOk (N : Net) (os : List Int) (rows : List Row) (x y : Int) (a : Option Int × Option Int) : Prop where
  pr : prR rows x y = a.1
  pair : PairP N.ls os x y ∨ PairP N.ls os y x
  flat : a.2 = none → a.1 = linkW N.ls x y
  over : ∀ m, a.2 = some m → m ∈ os ∧ posOf m os < posOf x os ∧ posOf m os < posOf y os ∧ PairP N.ls os m x ∧ PairP N.ls os m y ∧ ∃ p q, prR rows x m = some p ∧ prR rows m y = some q ∧ a.1 = some (p + q)
theorem way_ok (ok : NetOk N) (oo : OrdOk N.n os) (h : FillOk N os rows) {x y : Int} {a : Option Int × Option Int} (hw : wayR rows x y = some a) : WayOk N os rows x y a := by
  obtain ⟨r, hr, e⟩ := wayR_some hw
  have pp := h.pair ok oo hr
  obtain ⟨q1, q2⟩ := prR_up ok oo h hr
  have low : ∀ m, m ∈ lowerL (pairsL N.ls os) os r.u r.v → m ∈ os ∧ PairP N.ls os m r.u ∧ PairP N.ls os m r.v := fun m hm => by
    have := mem_lowerL.mp hm
    exact ⟨this.1, (mem_pairsL ok oo).mp this.2.1, (mem_pairsL ok oo).mp this.2.2⟩
  rcases e with ⟨rfl, rfl, rfl⟩ | ⟨rfl, rfl, rfl⟩
  · have hb := h.up r hr
    have b1 : r.up = _ := congrArg Prod.fst hb
    have b2 : r.um = _ := congrArg Prod.snd hb
    obtain ⟨m1, m2⟩ := bestF_mid (o := linkW N.ls r.u r.v) (s := fun w => addO (prR rows r.u w) (prR rows w r.v)) (ws := lowerL (pairsL N.ls os) os r.u r.v)
    refine ⟨q1, .inl pp, fun e => ?_, fun m e => ?_⟩
    · have e : r.um = none := e
      rw [e] at b2
      exact b1.trans (m1 b2.symm)
    · have e : r.um = some m := e
      rw [e] at b2
      obtain ⟨g1, g2, g3⟩ := m2 m b2.symm
      obtain ⟨l1, l2, l3⟩ := low m g1
      refine ⟨l1, l2.1, l3.1, l2, l3, ?_⟩
      obtain ⟨c, hc⟩ := Option.isSome_iff_exists.mp g3
      obtain ⟨p, q, hp, hq, rfl⟩ := addO_some hc
      exact ⟨p, q, hp, hq, b1.trans (g2.symm.trans hc)⟩
  · have hb := h.dn r hr
    have b1 : r.dn = _ := congrArg Prod.fst hb
    have b2 : r.dm = _ := congrArg Prod.snd hb
    obtain ⟨m1, m2⟩ := bestF_mid (o := linkW N.ls r.v r.u) (s := fun w => addO (prR rows r.v w) (prR rows w r.u)) (ws := lowerL (pairsL N.ls os) os r.u r.v)
    refine ⟨q2, .inr pp, fun e => ?_, fun m e => ?_⟩
    · have e : r.dm = none := e
      rw [e] at b2
      exact b1.trans (m1 b2.symm)
    · have e : r.dm = some m := e
      rw [e] at b2
      obtain ⟨g1, g2, g3⟩ := m2 m b2.symm
      obtain ⟨l1, l2, l3⟩ := low m g1
      refine ⟨l1, l3.1, l2.1, l3, l2, ?_⟩
      obtain ⟨c, hc⟩ := Option.isSome_iff_exists.mp g3
      obtain ⟨p, q, hp, hq, rfl⟩ := addO_some hc
      exact ⟨p, q, hp, hq, b1.trans (g2.symm.trans hc)⟩
theorem wayR_of (ok : NetOk N) (oo : OrdOk N.n os) (h : FillOk N os rows) {x y : Int} (hp : PairP N.ls os x y ∨ PairP N.ls os y x) : ∃ a, wayR rows x y = some a := by
  cases e : wayR rows x y with
  | some a => exact ⟨a, rfl⟩
  | none =>
    exfalso
    have key : ∀ u v, PairP N.ls os u v → ∃ r ∈ rows, r.u = u ∧ r.v = v := fun u v hp => by
      have := (mem_pairsL ok oo).mpr hp
      rw [← h.pairs] at this
      obtain ⟨r, hr, e⟩ := List.mem_map.mp this
      exact ⟨r, hr, congrArg Prod.fst e, congrArg Prod.snd e⟩
    have hn := List.findSome?_eq_none_iff.mp e
    rcases hp with hp | hp
    · obtain ⟨r, hr, e1, e2⟩ := key _ _ hp
      have := hn r hr
      unfold wayOf at this
      rw [if_pos ⟨e1, e2⟩] at this
      cases this
    · obtain ⟨r, hr, e1, e2⟩ := key _ _ hp
      have := hn r hr
      unfold wayOf at this
      by_cases c : r.u = x ∧ r.v = y
      · rw [if_pos c] at this
        cases this
      · rw [if_neg c, if_pos ⟨e1, e2⟩] at this
        cases this
theorem wayR_pr (ok : NetOk N) (oo : OrdOk N.n os) (h : FillOk N os rows) {x y p : Int} (hp : prR rows x y = some p) : ∃ m, wayR rows x y = some (some p, m) := by
  have hpair : PairP N.ls os x y ∨ PairP N.ls os y x := by
    rcases prR_some hp with ⟨r, hr, rfl, rfl, _⟩ | ⟨r, hr, rfl, rfl, _⟩
    · exact .inl (h.pair ok oo hr)
    · exact .inr (h.pair ok oo hr)
  obtain ⟨⟨a, m⟩, e⟩ := wayR_of ok oo h hpair
  have := (way_ok ok oo h e).pr
  rw [hp] at this
  exact ⟨m, by rw [e, this]⟩
/-- what the road of a way is: a real road of its price, over lower places -/
theorem road_real (ok : NetOk N) (oo : OrdOk N.n os) (h : FillOk N os rows) : ∀ (d : Nat) (x y p : Int), prR rows x y = some p → min (posOf x os) (posOf y os) < d → ∃ a, roadF rows d x y = x :: (a ++ [y]) ∧ RoadP (linkW N.ls) (x :: (a ++ [y])) p ∧ ∀ z ∈ a, z ∈ os ∧ posOf z os < min (posOf x os) (posOf y os)
  | 0, x, y, p, _, hd => absurd hd (Nat.not_lt_zero _)
  | d + 1, x, y, p, hp, hd => by
    obtain ⟨m, e⟩ := wayR_pr ok oo h hp
    have W := way_ok ok oo h e
    show ∃ a, (match wayR rows x y with | some (_, some m) => roadF rows d x m ++ (roadF rows d m y).drop 1 | _ => [x, y]) = x :: (a ++ [y]) ∧ _
    rw [e]
    cases m with
    | none =>
      refine ⟨[], rfl, ?_, fun _ h => (nomatch h)⟩
      have := RoadP.step (w := linkW N.ls) (x := x) (y := y) (p := p) (W.flat rfl).symm (.one y)
      rw [Int.add_zero] at this
      exact this
    | some m =>
      obtain ⟨hm, m1, m2, _, _, p1, q1, hp1, hq1, es⟩ := W.over m rfl
      have es : some p = some (p1 + q1) := es
      cases es
      obtain ⟨a, ea, ra, la⟩ := road_real ok oo h d x m p1 hp1 (by omega)
      obtain ⟨b, eb, rb, lb⟩ := road_real ok oo h d m y q1 hq1 (by omega)
      dsimp only
      rw [ea, eb]
      refine ⟨a ++ m :: b, ?_, ?_, fun z hz => ?_⟩
      · show x :: (a ++ [m]) ++ (b ++ [y]) = _
        simp
      · have := RoadP.app rb (l1 := x :: a) ra
        have e2 : x :: (a ++ m :: b ++ [y]) = (x :: a) ++ m :: (b ++ [y]) := by simp
        rw [e2]
        exact this
      · rcases List.mem_append.mp hz with hz | hz
        · have := la z hz
          exact ⟨this.1, by omega⟩
        · rcases List.mem_cons.mp hz with rfl | hz
          · exact ⟨hm, by omega⟩
          · have := lb z hz
            exact ⟨this.1, by omega⟩
theorem link_pos (ok : NetOk N) {x y p : Int} (h : linkW N.ls x y = some p) : 1 ≤ p := by
  obtain ⟨l, hl, e⟩ : ∃ l ∈ N.ls, l.t = some p ∨ l.k = some p := by
    have gen : ∀ ls : List Lnk, linkW ls x y = some p → ∃ l ∈ ls, l.t = some p ∨ l.k = some p := by
      intro ls
      induction ls with
      | nil => intro h; cases h
      | cons l ls ih =>
        intro h
        have h : (if l.a = x ∧ l.b = y then l.t else if l.b = x ∧ l.a = y then l.k else linkW ls x y) = some p := h
        split at h
        · exact ⟨l, List.mem_cons_self, .inl h⟩
        · split at h
          · exact ⟨l, List.mem_cons_self, .inr h⟩
          · obtain ⟨q, hq, e⟩ := ih h
            exact ⟨q, List.mem_cons_of_mem _ hq, e⟩
    exact gen _ h
  have lo := ok.ok l hl
  rcases e with e | e
  · exact (lo.t p e).1
  · exact (lo.k p e).1
/-- .. and it goes over no place twice -/
theorem road_nodup (ok : NetOk N) (oo : OrdOk N.n os) (h : FillOk N os rows) {x y p : Int} (hp : prR rows x y = some p) {a : List Int} (hr : RoadP (linkW N.ls) (x :: (a ++ [y])) p) (hl : ∀ z ∈ a, z ∈ os ∧ posOf z os < min (posOf x os) (posOf y os)) : (x :: (a ++ [y])).Nodup := by
  apply Classical.byContradiction
  intro hn
  obtain ⟨m, e⟩ := wayR_pr ok oo h hp
  have W := way_ok ok oo h e
  have xy : x ≠ y := by
    rcases W.pair with c | c
    · exact c.ne
    · exact c.ne.symm
  have xa : x ∉ a := fun hx => by
    have := (hl x hx).2
    omega
  have ya : y ∉ a := fun hy => by
    have := (hl y hy).2
    omega
  obtain ⟨b, z, c, t, el, c', hc, rc⟩ := hr.twice (fun x y p e => link_pos ok e) hn
  -- the doubled place is inside
  have hx0 : ∃ b', b = x :: b' := by
    cases b with
    | nil =>
      have e1 : x = z := (List.cons.inj el).1
      have e2 : a ++ [y] = c ++ z :: t := (List.cons.inj el).2
      have : z ∈ a ++ [y] := by
        rw [e2]
        exact List.mem_append.mpr (.inr List.mem_cons_self)
      rcases List.mem_append.mp this with h1 | h1
      · exact absurd (e1 ▸ h1) xa
      · exact absurd (e1.trans (List.mem_singleton.mp h1)) xy
    | cons w b =>
      have e1 : x = w := (List.cons.inj el).1
      exact ⟨b, by rw [e1]⟩
  obtain ⟨b', rfl⟩ := hx0
  have el2 : a ++ [y] = b' ++ z :: (c ++ z :: t) := (List.cons.inj el).2
  have ht : ∃ t', t = t' ++ [y] := by
    rcases List.eq_nil_or_concat t with rfl | ⟨t', w, rfl⟩
    · have e3 : a ++ [y] = (b' ++ z :: c) ++ [z] := by rw [el2]; simp
      have e4 := List.append_inj' e3 rfl
      have e5 : y = z := (List.cons.inj e4.2).1
      have : z ∈ a := by
        rw [e4.1]
        exact List.mem_append.mpr (.inr List.mem_cons_self)
      exact absurd (e5 ▸ this) ya
    · rw [List.concat_eq_append] at el2
      have e3 : a ++ [y] = (b' ++ z :: (c ++ z :: t')) ++ [w] := by rw [el2]; simp
      have e4 := List.append_inj' e3 rfl
      have e5 : y = w := (List.cons.inj e4.2).1
      exact ⟨t', by rw [List.concat_eq_append, e5]⟩
  obtain ⟨t', rfl⟩ := ht
  have ea : a = b' ++ z :: (c ++ z :: t') := by
    have e3 : a ++ [y] = (b' ++ z :: (c ++ z :: t')) ++ [y] := by rw [el2]; simp
    exact (List.append_inj' e3 rfl).1
  have rc2 : RoadP (linkW N.ls) (x :: ((b' ++ z :: t') ++ [y])) c' := by
    have : x :: ((b' ++ z :: t') ++ [y]) = x :: b' ++ z :: (t' ++ [y]) := by simp
    rw [this]
    exact rc
  have way := rc2.way (x := x) rfl
  have erev : (x :: ((b' ++ z :: t') ++ [y])).reverse = y :: (x :: (b' ++ z :: t')).reverse := by simp
  rw [erev] at way
  have inn : ∀ w ∈ (x :: (b' ++ z :: t')).reverse, w = x ∨ posOf w os < min (posOf x os) (posOf y os) := fun w hw => by
    rcases List.mem_cons.mp (List.mem_reverse.mp hw) with rfl | hw
    · exact .inl rfl
    · refine .inr (hl w ?_).2
      rw [ea]
      rcases List.mem_append.mp hw with h1 | h1
      · exact List.mem_append.mpr (.inl h1)
      · refine List.mem_append.mpr (.inr ?_)
        rcases List.mem_cons.mp h1 with rfl | h1
        · exact List.mem_cons_self
        · exact List.mem_cons_of_mem _ (List.mem_append.mpr (.inr (List.mem_cons_of_mem _ h1)))
  rcases W.pair with c0 | c0
  · have hk : min (posOf x os) (posOf y os) = posOf x os := by have := c0.1; omega
    rw [hk] at inn
    obtain ⟨d, hd, ed⟩ := (fill_dist ok oo h _ x y rfl c0).1.2 c' ⟨_, way.wid fun w hw _ => inn w hw⟩
    rw [hp] at ed
    have := Option.some.inj ed
    omega
  · have hk : min (posOf x os) (posOf y os) = posOf y os := by have := c0.1; omega
    rw [hk] at inn
    obtain ⟨d, hd, ed⟩ := (fill_dist ok oo h _ y x rfl c0).2.2 c' ⟨_, way.wid fun w hw _ => inn w hw⟩
    rw [hp] at ed
    have := Option.some.inj ed
    omega
theorem road_len (ok : NetOk N) (oo : OrdOk N.n os) (h : FillOk N os rows) {d : Nat} {x y p : Int} (hp : prR rows x y = some p) (hd : min (posOf x os) (posOf y os) < d) : (roadF rows d x y).length ≤ 60 := by
  obtain ⟨a, e, hr, hl⟩ := road_real ok oo h d x y p hp hd
  have hn := road_nodup ok oo h hp hr hl
  have hna : a.Nodup := (List.nodup_append.mp (List.nodup_cons.mp hn).2).1
  have := sub_len hna (fun z hz => (hl z hz).1)
  have := oo.len
  have := ok.n40
  rw [e]
  simp only [List.length_cons, List.length_append, List.length_nil]
  omega
theorem roadF_stable (ok : NetOk N) (oo : OrdOk N.n os) (h : FillOk N os rows) : ∀ (d d' : Nat) (x y p : Int), prR rows x y = some p → min (posOf x os) (posOf y os) < d → min (posOf x os) (posOf y os) < d' → roadF rows d x y = roadF rows d' x y
  | 0, _, _, _, _, _, hd, _ => absurd hd (Nat.not_lt_zero _)
  | _ + 1, 0, _, _, _, _, _, hd => absurd hd (Nat.not_lt_zero _)
  | d + 1, d' + 1, x, y, p, hp, hd, hd' => by
    obtain ⟨m, e⟩ := wayR_pr ok oo h hp
    have W := way_ok ok oo h e
    show (match wayR rows x y with | some (_, some m) => roadF rows d x m ++ (roadF rows d m y).drop 1 | _ => [x, y]) = (match wayR rows x y with | some (_, some m) => roadF rows d' x m ++ (roadF rows d' m y).drop 1 | _ => [x, y])
    rw [e]
    cases m with
    | none => rfl
    | some m =>
      obtain ⟨hm, m1, m2, _, _, p1, q1, hp1, hq1, es⟩ := W.over m rfl
      dsimp only
      rw [roadF_stable ok oo h d d' x m p1 hp1 (by omega) (by omega), roadF_stable ok oo h d d' m y q1 hq1 (by omega) (by omega)]
end
/-! ### the places above each place: a dict of lists that grow -/
structure AbAt (H : Hp) (d : Addr) (os : List Int) (rw : List Addr) (L : List (Int × Int)) : Prop where
  dict : H d = some (.dK (kz (os.map Sum.inl) rw))
  rows : ∀ (k : Nat) w a, os[k]? = some w → rw[k]? = some a → H a = some (.lst (((L.filter fun p => decide (p.1 = w)).map (·.2)).map V.int))
  nd : rw.Nodup
  len : rw.length = os.length
  nin : d ∉ rw
theorem AbAt.to {H H' : Hp} {d : Addr} {os : List Int} {rw : List Addr} {L : List (Int × Int)} (h : AbAt H d os rw L) (s : Same H H') : AbAt H' d os rw L := ⟨s _ _ h.dict, fun k w a h1 h2 => s _ _ (h.rows k w a h1 h2), h.nd, h.len, h.nin⟩
theorem AbAt.upd {H : Hp} {d o : Addr} {os : List Int} {rw : List Addr} {L : List (Int × Int)} {x : HO} (h : AbAt H d os rw L) (h1 : o ≠ d) (h2 : o ∉ rw) : AbAt (L2.upd H o x) d os rw L :=
  ⟨by rw [upd_ne h1.symm]; exact h.dict, fun k w a e1 e2 => by
    rw [upd_ne (fun z => h2 (by rw [← z]; exact List.mem_of_getElem? e2))]
    exact h.rows k w a e1 e2, h.nd, h.len, h.nin⟩
theorem AbAt.get {H : Hp} {d : Addr} {os : List Int} {rw : List Addr} {L : List (Int × Int)} {u : Int} (h : AbAt H d os rw L) (hn : os.Nodup) (hu : u ∈ os) : ∃ a, valV (kz (os.map Sum.inl) rw) (Sum.inl u : L2.Key) = some (.ref a) ∧ a ∈ rw ∧ H a = some (.lst (((L.filter fun p => decide (p.1 = u)).map (·.2)).map V.int)) ∧
    ∀ v, AbAt (L2.upd H a (.lst (((L.filter fun p => decide (p.1 = u)).map (·.2)).map V.int ++ [.int v]))) d os rw (L ++ [(u, v)]) := by
  have hk := posOf_lt hu
  have hkl := pos_len hu
  have hl := h.len
  have ha : rw[posOf u os]? = some (rw[posOf u os]'(by omega)) := List.getElem?_eq_getElem (by omega)
  generalize rw[posOf u os]'(by omega) = a at ha
  have hm := List.mem_of_getElem? ha
  refine ⟨a, kz_val (List.Pairwise.map _ (fun a b hab e => hab (Sum.inl.inj e)) hn) (by rw [List.getElem?_map, hk] <;> rfl) ha, hm, h.rows _ u a hk ha, fun v => ⟨?_, fun k' w' a' hk' ha' => ?_, h.nd, h.len, h.nin⟩⟩
  · rw [upd_ne (fun z => h.nin (by rw [z]; exact hm))]
    exact h.dict
  · rw [List.filter_append, List.map_append, List.map_append]
    by_cases e : w' = u
    · subst e
      have ek : k' = posOf w' os := by
        have := posOf_get hn hk'
        omega
      rw [ek, ha] at ha'
      cases ha'
      rw [upd_same, List.filter_cons_of_pos (by exact decide_eq_true (rfl : w' = w'))]
      rfl
    · rw [upd_ne (fun z => by
        rw [z, ← ha] at ha'
        have := (List.getElem?_inj (by
          have := (List.getElem?_eq_some_iff.mp hk').1
          omega) h.nd).mp ha'
        rw [this, hk] at hk'
        exact e (Option.some.inj hk').symm), h.rows k' w' a' hk' ha', List.filter_cons_of_neg (by exact fun z => e (of_decide_eq_true z).symm)]
      simp
theorem AbAt.start {H : Hp} {d : Addr} {os : List Int} {rw : List Addr} (h1 : H d = some (.dK (kz (os.map Sum.inl) rw))) (h2 : rw.length = os.length) (h3 : rw.Nodup) (h4 : d ∉ rw) (h5 : ∀ a ∈ rw, H a = some (.lst [])) : AbAt H d os rw [] := ⟨h1, fun k w a _ ha => h5 a (List.mem_of_getElem? ha), h3, h2, h4⟩
section
variable {K : PySem.W.Frag} {σ : L2.St} {H : Hp} {a : Addr} {D : Ends} {tz tw : TS} {tr_ : TA}
/-- for row in reversed(rows) -/
theorem g_forRv {j : Nat} {Hb : Hp} {xs : List V} {rows : List Row} (h : Va tr_ σ H [.ref a]) (hx : SqL K Hb a xs) (hL : DpAll K Hb xs (rows.map rowD)) (hb : Same Hb H) (Pv : Nat → L2.St → Hp → Prop) (h0 : Pv 0 σ H) (hl : ∀ i σ' H', Pv i σ' H' → Same Hb H')
    (hs : ∀ (i : Nat) r t σ H, rows.reverse[i]? = some r → SqT K Hb t (rowV r) → Pv i σ H → tz { D with nx := Pv (i + 1), ct := Pv (i + 1), bk := D.nx } (σ.set j (some (.ref t))) H) (hd : ∀ σ H, Pv rows.length σ H → D.nx σ H) :
    tFor (iRev K tr_) (gName j) tz D σ H := h _ ⟨a, xs, rfl, hb.seq hx, RT.for_Itv (xs := xs) Pv h0 (fun i σ H p => (hl i σ H p).seq hx) (fun i x σ H hi hx2 p => by
      have e := DpAll.len hL
      rw [List.length_map] at e
      obtain ⟨r, t, hg, rfl, ht⟩ := DpAll.row_at hL hx2
      refine hs i r t σ H ?_ ht p
      rw [List.getElem?_reverse (by omega), ← e]
      exact hg) (fun σ H p => by
      have e := DpAll.len hL
      rw [List.length_map] at e
      rw [e] at p
      exact hd σ H p)⟩
theorem q_forRv {j : Nat} {Hb : Hp} {xs : List V} {rows : List Row} (h : Va tr_ σ H [.ref a]) (hx : SqL K Hb a xs) (hL : DpAll K Hb xs (rows.map rowD)) (hb : Same Hb H) (Pv : Nat → L2.St → Hp → Prop) (h0 : Pv 0 σ H) (hl : ∀ i σ' H', Pv i σ' H' → Same Hb H')
    (hs : ∀ (i : Nat) r t σ H, rows.reverse[i]? = some r → SqT K Hb t (rowV r) → Pv i σ H → tz { D with nx := Pv (i + 1), ct := Pv (i + 1), bk := tw D } (σ.set j (some (.ref t))) H) (hd : ∀ σ H, Pv rows.length σ H → tw D σ H) :
    tSeq (tFor (iRev K tr_) (gName j) tz) tw D σ H := g_forRv (D := { D with nx := tw D }) h hx hL hb Pv h0 hl hs hd
theorem q_par2 {i j : Nat} {x y : V} {ta : TA} (h : Va ta σ H [x, y]) (k : tw D ((σ.set i (some x)).set j (some y)) H) : tSeq (tPar i j ta) tw D σ H := h _ ⟨x, y, rfl, k⟩
/-- d[x, y] of ints: the tuple made anew -/
theorem ve_dgetK {td ta tb : TE} {o : Addr} {kvs : List (List L2.Key × V)} {x y : Int} {v : V} (ho : Vl td σ H (.ref o)) (h1 : Vl ta σ H (.int x)) (h2 : Vl tb σ H (.int y)) (hd : H o = some (.dT kvs)) (hv : valV kvs (K2 (x, y)) = some v) : Ve (tDGet td (tTup (tCons ta (tCons tb tNil)))) σ H v := ve_dgetN ho h1 h2 hd hv
end
def spLesser : Sp := fun vs H Q _ => ∃ p a b : Option Int, vs = [oV p, oV a, oV b] ∧ Q (oV (lesF p (addO a b))) H
def spTruePr (K : PySem.W.Frag) : Sp := fun vs H Q _ => ∃ (p : Addr) (rv : V) (N : Net) (os : List Int) (rows : List Row), vs = [.ref p, rv] ∧ SqL K H p (os.map V.int) ∧ Dp K H rv (.list (rows.map rowD)) ∧ NetOk N ∧ OrdOk N.n os ∧ FillOk N os rows ∧
  ∀ (H' : Hp) (d : Addr) (kvs : List (List L2.Key × V)), Same H H' → H d = none → H' d = some (.dT kvs) → WayD kvs (rows.reverse.map prOf) (dstN N) → Q (.ref d) H'
section
variable {P : Program} {w : World} {K : PySem.W.Frag} {mg : Str → Option Value} {base : Heap}
end
/-! ### a list of pairs (sum, step), one for each place -/
structure PsAt (H : Hp) (ts : List V) (n : Nat) (g : Int → Option Int × Option Int) : Prop where
  len : ts.length = n
  at_ : ∀ k : Nat, k < n → ∃ t, ts[k]? = some (.ref t) ∧ H t = some (.tup [oV (g k).1, oV (g k).2])
theorem PsAt.to {H H' : Hp} {ts : List V} {n : Nat} {g : Int → Option Int × Option Int} (h : PsAt H ts n g) (s : Same H H') : PsAt H' ts n g := ⟨h.len, fun k hk => let ⟨t, h1, h2⟩ := h.at_ k hk; ⟨t, h1, s _ _ h2⟩⟩
theorem PsAt.set {H : Hp} {ts : List V} {n k : Nat} {g : Int → Option Int × Option Int} {T : Addr} {o : Option Int × Option Int} (h : PsAt H ts n g) (hT : H T = some (.tup [oV o.1, oV o.2])) : PsAt H (ts.set k (.ref T)) n (updF g (k : Int) o) :=
  ⟨by rw [List.length_set]; exact h.len, fun j hj => by
    by_cases e : j = k
    · subst e
      exact ⟨T, List.getElem?_set_self (by rw [h.len]; exact hj), by rw [updF_at]; exact hT⟩
    · obtain ⟨t, h1, h2⟩ := h.at_ j hj
      refine ⟨t, by rw [List.getElem?_set_ne (fun z => e z.symm)]; exact h1, ?_⟩
      rw [updF_ne (y := (k : Int)) (z := (j : Int)) (by omega)]
      exact h2⟩
section
variable {K : PySem.W.Frag} {σ : L2.St} {H : Hp} {t0 t1 : TE} {o : Addr} {n : Nat} {ts : List V} {g : Int → Option Int × Option Int} {x : Int}
theorem q_par3 {D : Ends} {tw : TS} {i j l : Nat} {x y z : V} {ta : TA} (h : Va ta σ H [x, y, z]) (k : tw D (((σ.set i (some x)).set j (some y)).set l (some z)) H) : tSeq (tPar3 i j l ta) tw D σ H := h _ ⟨x, y, z, rfl, k⟩
/-- found[x][0] -/
theorem vl_ps0 (h0 : Vl t0 σ H (.ref o)) (h1 : Vl t1 σ H (.int x)) (ho : SqL K H o ts) (hP : PsAt H ts n g) (hx : 0 ≤ x ∧ x < (n : Int)) : Vl (tOp (rIxT K) (tOp (rIxL K) t0 t1) (tC (.int 0))) σ H (oV (g x).1) := by
  obtain ⟨k, rfl⟩ := Int.eq_ofNat_of_zero_le hx.1
  obtain ⟨t, e1, e2⟩ := hP.at_ k (by omega)
  exact vl_ixT (vl_ixL h0 h1 ho (atI_nat e1)) vl_c (.of e2) (atI_nat (j := 0) rfl)
theorem vl_ps1 (h0 : Vl t0 σ H (.ref o)) (h1 : Vl t1 σ H (.int x)) (ho : SqL K H o ts) (hP : PsAt H ts n g) (hx : 0 ≤ x ∧ x < (n : Int)) : Vl (tOp (rIxT K) (tOp (rIxL K) t0 t1) (tC (.int 1))) σ H (oV (g x).2) := by
  obtain ⟨k, rfl⟩ := Int.eq_ofNat_of_zero_le hx.1
  obtain ⟨t, e1, e2⟩ := hP.at_ k (by omega)
  exact vl_ixT (vl_ixL h0 h1 ho (atI_nat e1)) vl_c (.of e2) (atI_nat (j := 1) rfl)
end
def RowsIn (n : Int) (rows : List Row) : Prop := ∀ r ∈ rows, (0 ≤ r.u ∧ r.u < n) ∧ (0 ≤ r.v ∧ r.v < n)
theorem FillOk.rowsIn {N : Net} {os : List Int} {rows : List Row} (ok : NetOk N) (oo : OrdOk N.n os) (h : FillOk N os rows) : RowsIn N.n rows := fun r hr => (h.pair ok oo hr).ins ok
def ColIs (c : Int) (cols : Row → Option Int) : Prop := (c = 2 ∧ cols = fun r => r.up) ∨ (c = 3 ∧ cols = fun r => r.dn)
def spSumsP (K : PySem.W.Frag) (CP : Addr) : Sp := fun vs H Q E => ∃ (p : Addr) (rv : V) (x c n : Int) (os : List Int) (rows : List Row) (cols : Row → Option Int), vs = [.ref p, rv, .int x, .int c] ∧ SqL K H p (os.map V.int) ∧ (os.length : Int) = n ∧ n ≤ 1000 ∧ Dp K H rv (.list (rows.map rowD)) ∧ RowsIn n rows ∧ ColIs c cols ∧
  (¬ (0 ≤ x ∧ x < n) → RaiseTo E H CP x) ∧ (0 ≤ x ∧ x < n → ∀ (H' : Hp) (q : Addr) (ts : List V), Same H H' → H q = none → H' q = some (.lst ts) → PsAt H' ts n.toNat (sumsF cols x rows) → Q (.ref q) H')
def spOneSums (K : PySem.W.Frag) (CP : Addr) (cols : Row → Option Int) : Sp := fun vs H Q E => ∃ (p : Addr) (rv : V) (x n : Int) (os : List Int) (rows : List Row), vs = [.ref p, rv, .int x] ∧ SqL K H p (os.map V.int) ∧ (os.length : Int) = n ∧ n ≤ 1000 ∧ Dp K H rv (.list (rows.map rowD)) ∧ RowsIn n rows ∧
  (¬ (0 ≤ x ∧ x < n) → RaiseTo E H CP x) ∧ (0 ≤ x ∧ x < n → ∀ (H' : Hp) (q : Addr) (ts : List V), Same H H' → H q = none → H' q = some (.lst ts) → PsAt H' ts n.toNat (sumsF cols x rows) → Q (.ref q) H')
def spAnswer (K : PySem.W.Frag) (CP : Addr) : Sp := fun vs H Q E => ∃ (p : Addr) (rv : V) (s t n : Int) (os : List Int) (rows : List Row), vs = [.ref p, rv, .int s, .int t] ∧ SqL K H p (os.map V.int) ∧ OrdOk n os ∧ 0 ≤ n ∧ n ≤ 1000 ∧ Dp K H rv (.list (rows.map rowD)) ∧ RowsIn n rows ∧
  (¬ (0 ≤ s ∧ s < n) → RaiseTo E H CP s) ∧ (0 ≤ s ∧ s < n → ¬ (0 ≤ t ∧ t < n) → RaiseTo E H CP t) ∧
  (0 ≤ s ∧ s < n → 0 ≤ t ∧ t < n → ∀ (H' : Hp) (T : Addr), Same H H' → H' T = some (.tup [oV (bestF none (fun x => addO (sumsF (·.up) s rows x).1 (sumsF (·.dn) t rows x).1) os).1, oV (bestF none (fun x => addO (sumsF (·.up) s rows x).1 (sumsF (·.dn) t rows x).1) os).2]) → Q (.ref T) H')
def spAnswers (K : PySem.W.Frag) (CP : Addr) : Sp := fun vs H Q E => ∃ (p st : Addr) (rv : V) (s n : Int) (os zs : List Int) (rows : List Row), vs = [.ref p, rv, .int s, .ref st] ∧ SqL K H p (os.map V.int) ∧ (os.length : Int) = n ∧ n ≤ 1000 ∧ Dp K H rv (.list (rows.map rowD)) ∧ RowsIn n rows ∧ SqL K H st (zs.map V.int) ∧ zs.length ≤ 100000 ∧
  (¬ (0 ≤ s ∧ s < n) → RaiseTo E H CP s) ∧ (0 ≤ s ∧ s < n → ∀ x, badPl n zs = some x → RaiseTo E H CP x) ∧
  (0 ≤ s ∧ s < n → badPl n zs = none → ∀ (H' : Hp) (q : Addr), Same H H' → H q = none → H' q = some (.lst (zs.map fun z => oV (ansF s rows z))) → Q (.ref q) H')
abbrev sSumsP : Stmt := topS 15
theorem scSumsP : FnScope ["order", "rows", "place", "column", "found", "row", "low", "high", "price", "before", "known", "_"] ["order", "rows", "place", "column"] (defScope sSumsP) := ⟨rfl, rfl, rfl, by decide +kernel, rfl, by decide +kernel, by decide +kernel⟩
section
variable {P : Program} {w : World} {K : PySem.W.Frag} {mg : Str → Option Value} {base : Heap} {CP : Addr}
theorem ok_sumsP {f : Addr} {fd : FuncData} {k : Nat} (hk : 2 ≤ k) (F : Fun K "_sums" "_sums" sSumsP f fd) (c_check_places : KalX P w K mg base 2 "check_places" ["n", "places"] (spChkPl K CP)) (ml : mg "len" = none) : FnOk P w K mg base (L2.CX P w) (k + 1) f fd ["order", "rows", "place", "column"] (spSumsP K CP) := by
  refine F.okX scSumsP (fun vs H Q E h => ?_) (fun cdv A outer s H vs Q E hr h => ?_)
  · obtain ⟨p, rv, x, c, n, os, rows, cols, rfl, _⟩ := h
    rfl
  · obtain ⟨p, rv, x, c, n, os, rows, cols, rfl, hS, hn, hn1, hR, hin, hcol, q1, q2⟩ := h
    refine ⟨_, pss_cons (ps_expr (pe_kx (E := E) c_check_places hr (by first | decide | omega) (by rfl) (takes_of rfl rfl rfl rfl) (pa_cons (pe_callB call_len_seq (by rfl) ml PySem.boot_len (pa_cons (pv 0) pa_nil)) (pa_cons (pe_lst (pa_cons (pv 2) pa_nil)) pa_nil))))
      (pss_cons (ps_setLc (i := 4) (own := [("_", 11)]) (g := gName 11) (tt := tYes) (te := (tTup (tCons (tC .non) (tCons (tC .non) tNil)))) (by rfl) scSumsP.nd rfl rfl (sw_true rfl rfl rfl (by decide +kernel)) (pi_list (pv 0)) (blkOk_by (own := [("_", 11)]) (N := ["order", "rows", "place", "column", "found", "row", "low", "high", "price", "before", "known", "_"]) (sc := defScope sSumsP) (by decide +kernel)) (fun _ _ _ _ _ => pg_name (i := 11) scSumsP.nd rfl (Or.inl rfl)) (fun _ _ _ _ _ => by exact pts_nil) (fun _ _ _ _ _ => by exact (pe_tup (pa_cons pe_non (pa_cons pe_non pa_nil)))))
      (pss_cons (ps_asg (pe_tup (pa_cons pe_int (pa_cons pe_non pa_nil))) (pg_sub (pv 4) (pv 2) set_list))
      (pss_cons (ps_for (passes_of rfl) rfl (pi_list (pv 1)) (pg_name (i := 5) scSumsP.nd rfl (.inl rfl))
      (pss_cons (ps_par3 (i := 6) (j := 7) (l := 8) (by rfl) scSumsP.nd rfl rfl rfl (by decide) (by decide) (by decide) rfl rfl rfl (pa_cons (pe_ix ix_tup (pv 5) pe_int (fun _ _ => rfl)) (pa_cons (pe_ix ix_tup (pv 5) pe_int (fun _ _ => rfl)) (pa_cons (pe_ix ix_tup (pv 5) (pv 3) (fun _ _ => rfl)) pa_nil))) (by rfl))
        (pss_cons (ps_par (i := 9) (j := 10) (by rfl) scSumsP.nd rfl rfl (by decide) rfl rfl (pa_cons (pe_ix ix_tup (pe_ix ix_list (pv 4) (pv 6) (fun _ _ => rfl)) pe_int (fun _ _ => rfl)) (pa_cons (pe_ix ix_tup (pe_ix ix_list (pv 4) (pv 7) (fun _ _ => rfl)) pe_int (fun _ _ => rfl)) pa_nil)) (by rfl))
        (pss_cons (ps_if (PW.pt (pw_or (pt_cmpR op_isN (pv 9) pe_non (nomark _)) (pw_or1 (pt_cmpR op_isN (pv 8) pe_non (nomark _)))))
        (pss_one ps_continue)
        pss_nil)
        (pss_one (ps_if (PW.pt (pw_or (pt_cmpR op_isN (pv 10) pe_non (nomark _)) (pw_or1 (pt_cmpR op_lt (pe_op op_add (pv 9) (pv 8)) (pv 10) (nomark _)))))
        (pss_one (ps_asg (pe_tup (pa_cons (pe_op op_add (pv 9) (pv 8)) (pa_cons (pv 6) pa_nil))) (pg_sub (pv 4) (pv 7) set_list)))
        pss_nil))))))
      (pss_one (ps_ret (pv 4)))))), ?_⟩
    obtain ⟨rp, xs, rfl, hx, hd⟩ := Dp.lst_inv hR
    refine q_chk1 (n := n) (a := x) ((vl_lenL (vl_var rfl) hS).is (by rw [List.length_map, hn])) (vl_var rfl) q1 (fun hb H0 s0 => ?_)
    have q := q2 hb
    have n0 : 0 ≤ n := by omega
    obtain ⟨xn, rfl⟩ := Int.eq_ofNat_of_zero_le hb.1
    -- found
    refine q_asgE ⟨.ref p, rfl, p, rfl, ⟨_, s0.seq hS⟩, fun o no => lc_list (K := K) (a := p) (xs := os.map V.int)
      (fun i H' => ∃ ts, H' o = some (.lst ts) ∧ Same H0 (but H' o) ∧ PsAt (but H' o) ts i (fun _ => (none, none)))
      ⟨[], upd_same, by rw [but_upd]; exact same_but (Same.refl H0) no, rfl, fun k hk => absurd hk (Nat.not_lt_zero _)⟩ (fun i H' _ hP => (hP.choose_spec.2.1.trans but_same).seq (s0.seq hS)) (fun i v H' hi hP => ?_) (fun H' hP => ?_)⟩
    · obtain ⟨ts, ho, s1, hps⟩ := hP
      refine ⟨rfl, yes_of (if_true_of rfl ⟨by show 2 ≤ sizeLine; decide, fun T nT => ?_⟩)⟩
      have sT : Same H' (upd H' T (.tup [.non, .non])) := same_upd nT
      have oT : T ≠ o := (ne_of_none ho nT).symm
      have il := (List.getElem?_eq_some_iff.mp hi).1
      rw [List.length_map] at il
      refine ⟨ts, sT _ _ ho, ?_, ts ++ [.ref T], upd_same, ?_, ?_, fun k hk => ?_⟩
      · rw [hps.len]
        exact Nat.lt_of_le_of_lt (show i ≤ 1000 by omega) (by decide)
      · rw [but_upd]
        exact s1.trans (but_mono sT)
      · rw [List.length_append, hps.len]
        rfl
      · rw [but_upd]
        by_cases e : k = i
        · subst e
          refine ⟨T, ?_, ?_⟩
          · rw [List.getElem?_append_right (by rw [hps.len]; exact Nat.le_refl _), hps.len, Nat.sub_self]
            rfl
          · rw [but_ne oT]
            exact upd_same
        · obtain ⟨t, h1, h2⟩ := hps.at_ k (by omega)
          refine ⟨t, ?_, but_mono sT _ _ h2⟩
          rw [List.getElem?_append_left (by rw [hps.len]; omega)]
          exact h1
    · obtain ⟨ts, ho, s1, hps⟩ := hP
      rw [List.length_map, show os.length = n.toNat by omega] at hps
      -- found[place] = (0, None)
      refine ⟨by show 2 ≤ sizeLine; decide, fun T nT => ?_⟩
      have sT : Same H' (upd H' T (.tup [.int 0, .non])) := same_upd nT
      have oT : T ≠ o := (ne_of_none ho nT).symm
      refine ⟨.ref o, rfl, .int (xn : Int), rfl, o, ts, (xn : Int), xn, rfl, rfl, sT _ _ ho, Evl.ixN_nat (by rw [hps.len]; omega), ?_⟩
      have hps2 : PsAt (but (upd (upd H' T (.tup [.int 0, .non])) o (.lst (ts.set xn (.ref T)))) o) (ts.set xn (.ref T)) n.toNat (sums0 (xn : Int)) := by
        rw [but_upd]
        have := (hps.to (but_mono sT)).set (k := xn) (T := T) (o := (some 0, none)) (by
          rw [but_ne oT]
          exact upd_same)
        exact this
      have s2 : Same H0 (but (upd (upd H' T (.tup [.int 0, .non])) o (.lst (ts.set xn (.ref T)))) o) := by
        rw [but_upd]
        exact s1.trans (but_mono sT)
      have ho2 : upd (upd H' T (.tup [.int 0, .non])) o (.lst (ts.set xn (.ref T))) o = some (.lst (ts.set xn (.ref T))) := upd_same
      generalize upd (upd H' T (.tup [.int 0, .non])) o (.lst (ts.set xn (.ref T))) = H2 at hps2 s2 ho2
      refine q_forRw (K := K) (Hb := H) (vl_var rfl) hx hd (s0.trans (s2.trans but_same))
        (fun i σ H3 => ∃ y5 y6 y7 y8 y9 y10 ts, σ = [some (.ref p), some (.ref rp), some (.int (xn : Int)), some (.int c), some (.ref o), y5, y6, y7, y8, y9, y10, none] ∧ Same H0 (but H3 o) ∧ H3 o = some (.lst ts) ∧ PsAt (but H3 o) ts n.toNat ((rows.take i).foldl (sumStep cols) (sums0 (xn : Int))))
        ⟨_, _, _, _, _, _, _, rfl, s2, ho2, hps2⟩ (fun i σ H3 hP => ?_) (fun i r t σ H3 hi ht hP => ?_) (fun σ H3 hP => ?_)
      · obtain ⟨_, _, _, _, _, _, _, _, s3, _⟩ := hP
        exact s0.trans (s3.trans but_same)
      · obtain ⟨y5, y6, y7, y8, y9, y10, ts, rfl, s3, ho, hps⟩ := hP
        rw [fold_take hi]
        generalize (rows.take i).foldl (sumStep cols) (sums0 (xn : Int)) = g at hps
        have hri := hin r (List.mem_of_getElem? hi)
        have ht3 := seqT (s0.trans (s3.trans but_same)) ht
        have hpsH := hps.to but_same
        have nN : ((n.toNat : Nat) : Int) = n := by omega
        have hc : Vl (tOp (rIxT K) (tVar 5) (tVar 3)) [some (.ref p), some (.ref rp), some (.int (xn : Int)), some (.int c), some (.ref o), some (.ref t), y6, y7, y8, y9, y10, none] H3 (oV (cols r)) := by
          rcases hcol with ⟨rfl, rfl⟩ | ⟨rfl, rfl⟩
          · exact vl_ixT (vl_var rfl) (vl_var rfl) ht3 (atI_nat (j := 2) rfl)
          · exact vl_ixT (vl_var rfl) (vl_var rfl) ht3 (atI_nat (j := 3) rfl)
        refine q_par3 (va_cons (vl_ixT (K := K) (vl_var rfl) vl_c ht3 (atI_nat (j := 0) rfl)) (va_cons (vl_ixT (K := K) (vl_var rfl) vl_c ht3 (atI_nat (j := 1) rfl)) (va_cons hc va_nil))) ?_
        refine q_par2 (va_cons (vl_ps0 (K := K) (x := r.u) (vl_var rfl) (vl_var rfl) (.of ho) hpsH (by rw [nN]; exact hri.1)) (va_cons (vl_ps0 (K := K) (x := r.v) (vl_var rfl) (vl_var rfl) (.of ho) hpsH (by rw [nN]; exact hri.2)) va_nil)) ?_
        have keep : sumStep cols g r = g → ∃ y5 y6 y7 y8 y9 y10 ts, [some (V.ref p), some (.ref rp), some (.int (xn : Int)), some (.int c), some (.ref o), some (.ref t), some (.int r.u), some (.int r.v), some (oV (cols r)), some (oV (g r.u).1), some (oV (g r.v).1), none] = [some (.ref p), some (.ref rp), some (.int (xn : Int)), some (.int c), some (.ref o), y5, y6, y7, y8, y9, y10, none] ∧ Same H0 (but H3 o) ∧ H3 o = some (.lst ts) ∧ PsAt (but H3 o) ts n.toNat (sumStep cols g r) := fun e => ⟨_, _, _, _, _, _, _, rfl, s3, ho, by rw [e]; exact hps⟩
        cases e1 : (g r.u).1 with
        | none =>
          rw [e1] at keep
          refine q_when (b := true) (an_or (k := true) (m := true) (an_test ((vl_isN (vl_var rfl)).is rfl)) fun h => by cases h) (fun _ => ?_) (fun h => by cases h)
          refine keep ?_
          unfold sumStep
          rw [e1]
        | some b =>
          cases e2 : cols r with
          | none =>
            rw [e1, e2] at keep
            refine q_when (b := true) ((an_or (k := false) (m := true) (an_test ((vl_isN (vl_var rfl)).is rfl)) fun _ => an_test ((vl_isN (vl_var rfl)).is rfl)).is rfl) (fun _ => ?_) (fun h => by cases h)
            refine keep ?_
            unfold sumStep
            rw [e1, e2]
          | some pr =>
            rw [e1, e2] at keep
            refine q_when (b := false) ((an_or (k := false) (m := false) (an_test ((vl_isN (vl_var rfl)).is rfl)) fun _ => an_test ((vl_isN (vl_var rfl)).is rfl)).is rfl) (fun h => by cases h) (fun _ => ?_)
            obtain ⟨vn, evn⟩ := Int.eq_ofNat_of_zero_le hri.2.1
            have put : ∀ z : Option Int, sumStep cols g r = updF g r.v (some (b + pr), some r.u) → tAsg (tTup (tCons (tOp (rI0 fun i j => .int (i + j)) (tVar 9) (tVar 8)) (tCons (tVar 6) tNil))) (gSub (tVar 4) (tVar 7) rSetL) { nx := fun σ H7 => ∃ y5 y6 y7 y8 y9 y10 ts, σ = [some (.ref p), some (.ref rp), some (.int (xn : Int)), some (.int c), some (.ref o), y5, y6, y7, y8, y9, y10, none] ∧ Same H0 (but H7 o) ∧ H7 o = some (.lst ts) ∧ PsAt (but H7 o) ts n.toNat (sumStep cols g r), rt := fun _ _ => True, bk := fun _ _ => True, ct := fun _ _ => True } [some (.ref p), some (.ref rp), some (.int (xn : Int)), some (.int c), some (.ref o), some (.ref t), some (.int r.u), some (.int r.v), some (.int pr), some (.int b), some (oV z), none] H3 := fun z e => by
              refine ⟨.int b, rfl, .int pr, rfl, b, pr, rfl, rfl, .int r.u, rfl, by show 2 ≤ sizeLine; decide, fun T nT => ?_⟩
              have sT : Same H3 (upd H3 T (.tup [.int (b + pr), .int r.u])) := same_upd nT
              have oT : T ≠ o := (ne_of_none ho nT).symm
              refine ⟨.ref o, rfl, .int r.v, rfl, o, ts, r.v, vn, rfl, rfl, sT _ _ ho, by rw [evn]; exact Evl.ixN_nat (by rw [hps.len]; omega), _, _, _, _, _, _, _, rfl, ?_, upd_same, ?_⟩
              · rw [but_upd]
                exact s3.trans (but_mono sT)
              · rw [but_upd, e, evn]
                exact (hps.to (but_mono sT)).set (k := vn) (T := T) (o := (some (b + pr), some r.u)) (by
                  rw [but_ne oT]
                  exact upd_same)
            cases e3 : (g r.v).1 with
            | none =>
              refine g_when (b := true) (an_or (k := true) (m := true) (an_test ((vl_isN (vl_var rfl)).is rfl)) fun h => by cases h) (fun _ => ?_) (fun h => by cases h)
              refine put none ?_
              unfold sumStep
              rw [e1, e2, e3]
            | some k0 =>
              rw [e3] at keep
              refine g_when (b := decide (b + pr < k0)) ((an_or (k := false) (m := decide (b + pr < k0)) (an_test ((vl_isN (vl_var rfl)).is rfl)) fun _ => an_test (vl_I0 (g := fun i j => .bl (decide (i < j))) (vl_I0 (vl_var rfl) (vl_var rfl)) (vl_var rfl))).is (Bool.false_or _)) (fun h => ?_) (fun h => ?_)
              · refine put (some k0) ?_
                unfold sumStep
                rw [e1, e2, e3]
                exact if_pos (of_decide_eq_true h)
              · refine keep ?_
                unfold sumStep
                rw [e1, e2, e3]
                exact if_neg (of_decide_eq_false h)
      · obtain ⟨y5, y6, y7, y8, y9, y10, ts, rfl, s3, ho, hps⟩ := hP
        rw [List.take_length] at hps
        exact g_ret (vl_var rfl) (q H3 o ts (s0.trans (s3.trans but_same)) (Same.free s0 no) ho (hps.to but_same))
end
abbrev sUpSums : Stmt := topS 12
abbrev sDownSums : Stmt := topS 13
abbrev sAnswers : Stmt := topS 14
theorem scUpSums : FnScope ["order", "rows", "place"] ["order", "rows", "place"] (defScope sUpSums) := ⟨rfl, rfl, rfl, by decide +kernel, rfl, by decide +kernel, by decide +kernel⟩
theorem scDownSums : FnScope ["order", "rows", "place"] ["order", "rows", "place"] (defScope sDownSums) := ⟨rfl, rfl, rfl, by decide +kernel, rfl, by decide +kernel, by decide +kernel⟩
theorem scAnswers : FnScope ["order", "rows", "start", "stops", "least", "row", "low", "before", "price", "entry", "place"] ["order", "rows", "start", "stops"] (defScope sAnswers) := ⟨rfl, rfl, rfl, by decide +kernel, rfl, by decide +kernel, by decide +kernel⟩
/-- check_places(n, places) -/
theorem q_chkL {K : PySem.W.Frag} {σ : L2.St} {H : Hp} {D : Ends} {tw : TS} {t0 t1 : TE} {E : XK} {CP p : Addr} {n : Int} {xs : List Int} (h0 : Vl t0 σ H (.int n)) (h1 : Vl t1 σ H (.ref p)) (hx : SqL K H p (xs.map V.int)) (qb : ∀ x, badPl n xs = some x → RaiseTo E H CP x) (k : badPl n xs = none → ∀ H', Same H H' → tw D σ H') :
    tSeq (tDrop (tCall (spChkPl K CP) [] E (tCons t0 (tCons t1 tNil)))) tw D σ H := h0 _ (h1 _ ⟨n, p, xs, rfl, hx, qb, k⟩)
/-- x, y = None, None: a tuple of constants, unpacked -/
theorem q_asgNN {K : PySem.W.Frag} {σ : L2.St} {H : Hp} {D : Ends} {tw : TS} {i j : Nat} (k : ∀ H', Same H H' → tw D ((σ.set i (some .non)).set j (some .non)) H') : tSeq (tAsg (tTup (tCons (tC .non) (tCons (tC .non) tNil))) (gTup K 2 (gCons (gName i) (gCons (gName j) gNil)))) tw D σ H :=
  ⟨by show 2 ≤ sizeLine; decide, fun T nT => ⟨T, _, rfl, .of upd_same, rfl, _, _, rfl, _, _, rfl, rfl, k _ (same_upd nT)⟩⟩
section
variable {P : Program} {w : World} {K : PySem.W.Frag} {mg : Str → Option Value} {base : Heap} {CP : Addr}
theorem ok_upSums {f : Addr} {fd : FuncData} {k : Nat} {t : Tok} (F : Fun K "up_sums" "up_sums" sUpSums f fd) (c_sums : KalX P w K mg base k "_sums" ["order", "rows", "place", "column"] (spSumsP K CP)) (g_UP : mg "UP" = some (.int 2 t)) : FnOk P w K mg base (L2.CX P w) (k + 1) f fd ["order", "rows", "place"] (spOneSums K CP (fun r => r.up)) := by
  refine F.okX scUpSums (fun vs H Q E h => ?_) (fun cdv A outer s H vs Q E hr h => ?_)
  · obtain ⟨p, rv, x, n, os, rows, rfl, _⟩ := h
    rfl
  · obtain ⟨p, rv, x, n, os, rows, rfl, hS, hn, hn1, hR, hin, q1, q2⟩ := h
    refine ⟨_, pss_one (ps_ret (pe_kx (E := E) c_sums hr (by first | decide | omega) (by rfl) (takes_of rfl rfl rfl rfl) (pa_cons (pv 0) (pa_cons (pv 1) (pa_cons (pv 2) (pa_cons (pe_glob (v := .int 2) (by rfl) g_UP ⟨_, rfl⟩) pa_nil)))))), ?_⟩
    exact ⟨.ref p, rfl, rv, rfl, .int x, rfl, p, rv, x, 2, n, os, rows, _, rfl, hS, hn, hn1, hR, hin, .inl ⟨rfl, rfl⟩, q1, q2⟩
theorem ok_downSums {f : Addr} {fd : FuncData} {k : Nat} {t : Tok} (F : Fun K "down_sums" "down_sums" sDownSums f fd) (c_sums : KalX P w K mg base k "_sums" ["order", "rows", "place", "column"] (spSumsP K CP)) (g_DOWN : mg "DOWN" = some (.int 3 t)) : FnOk P w K mg base (L2.CX P w) (k + 1) f fd ["order", "rows", "place"] (spOneSums K CP (fun r => r.dn)) := by
  refine F.okX scDownSums (fun vs H Q E h => ?_) (fun cdv A outer s H vs Q E hr h => ?_)
  · obtain ⟨p, rv, x, n, os, rows, rfl, _⟩ := h
    rfl
  · obtain ⟨p, rv, x, n, os, rows, rfl, hS, hn, hn1, hR, hin, q1, q2⟩ := h
    refine ⟨_, pss_one (ps_ret (pe_kx (E := E) c_sums hr (by first | decide | omega) (by rfl) (takes_of rfl rfl rfl rfl) (pa_cons (pv 0) (pa_cons (pv 1) (pa_cons (pv 2) (pa_cons (pe_glob (v := .int 3) (by rfl) g_DOWN ⟨_, rfl⟩) pa_nil)))))), ?_⟩
    exact ⟨.ref p, rfl, rv, rfl, .int x, rfl, p, rv, x, 3, n, os, rows, _, rfl, hS, hn, hn1, hR, hin, .inr ⟨rfl, rfl⟩, q1, q2⟩
theorem ok_answers {f : Addr} {fd : FuncData} {k : Nat} (hk : 2 ≤ k) (F : Fun K "answers" "answers" sAnswers f fd) (c_up_sums : KalX P w K mg base k "up_sums" ["order", "rows", "place"] (spOneSums K CP (fun r => r.up))) (c_check_places : KalX P w K mg base 2 "check_places" ["n", "places"] (spChkPl K CP)) {t : Tok} (g_DOWN : mg "DOWN" = some (.int 3 t)) (ml : mg "len" = none) (mrev : mg "reversed" = none) : FnOk P w K mg base (L2.CX P w) (k + 1) f fd ["order", "rows", "start", "stops"] (spAnswers K CP) := by
  refine F.okX scAnswers (fun vs H Q E h => ?_) (fun cdv A outer s H vs Q E hr h => ?_)
  · obtain ⟨p, st, rv, x, n, os, zs, rows, rfl, _⟩ := h
    rfl
  · obtain ⟨p, st, rv, x, n, os, zs, rows, rfl, hS, hn, hn1, hR, hin, hZ, hzl, q1, q2, q3⟩ := h
    refine ⟨_, pss_cons (ps_set (i := 4) scAnswers.nd rfl (.inr rfl) (pe_lc (own := [("entry", 9)]) (g := gName 9) (tt := tYes) (te := (tOp (rIxT K) (tVar 9) (tC (.int 0)))) (by rfl) scAnswers.nd (pi_list (pe_kx (E := E) c_up_sums hr (by first | decide | omega) (by rfl) (takes_of rfl rfl rfl rfl) (pa_cons (pv 0) (pa_cons (pv 1) (pa_cons (pv 2) pa_nil))))) (blkOk_by (own := [("entry", 9)]) (N := ["order", "rows", "start", "stops", "least", "row", "low", "before", "price", "entry", "place"]) (sc := defScope sAnswers) (by decide +kernel)) (fun _ _ _ _ _ => pg_name (i := 9) scAnswers.nd rfl (Or.inl rfl)) (fun _ _ _ _ _ => by exact pts_nil) (fun _ _ _ _ _ => by exact (pe_ix ix_tup (pv 9) pe_int (fun _ _ => rfl)))))
      (pss_cons (ps_expr (pe_kx (E := E) c_check_places hr (by first | decide | omega) (by rfl) (takes_of rfl rfl rfl rfl) (pa_cons (pe_callB call_len_seq (by rfl) ml PySem.boot_len (pa_cons (pv 0) pa_nil)) (pa_cons (pv 3) pa_nil))))
      (pss_cons (ps_for (passes_of rfl) rfl (pi_reversed (by rfl) mrev (pa_cons (pv 1) pa_nil)) (pg_name (i := 5) scAnswers.nd rfl (.inl rfl))
      (pss_cons (ps_par3 (i := 6) (j := 7) (l := 8) (by rfl) scAnswers.nd rfl rfl rfl (by decide) (by decide) (by decide) rfl rfl rfl (pa_cons (pe_ix ix_tup (pv 5) pe_int (fun _ _ => rfl)) (pa_cons (pe_ix ix_list (pv 4) (pe_ix ix_tup (pv 5) pe_int (fun _ _ => rfl)) (fun _ _ => rfl)) (pa_cons (pe_ix ix_tup (pv 5) (pe_glob (v := .int 3) (by rfl) g_DOWN ⟨_, rfl⟩) (fun _ _ => rfl)) pa_nil))) (by rfl))
        (pss_cons (ps_if (PW.pt (pw_or (pt_cmpR op_isN (pv 7) pe_non (nomark _)) (pw_or1 (pt_cmpR op_isN (pv 8) pe_non (nomark _)))))
        (pss_one ps_continue)
        pss_nil)
        (pss_one (ps_if (PW.pt (pw_or (pt_cmpR op_isN (pe_ix ix_list (pv 4) (pv 6) (fun _ _ => rfl)) pe_non (nomark _)) (pw_or1 (pt_cmpR op_lt (pe_op op_add (pv 7) (pv 8)) (pe_ix ix_list (pv 4) (pv 6) (fun _ _ => rfl)) (nomark _)))))
        (pss_one (ps_asg (pe_op op_add (pv 7) (pv 8)) (pg_sub (pv 4) (pv 6) set_list)))
        pss_nil)))))
      (pss_one (ps_ret (pe_lc (own := [("place", 10)]) (g := gName 10) (tt := tYes) (te := (tOp (rIxL K) (tVar 4) (tVar 10))) (by rfl) scAnswers.nd (pi_list (pv 3)) (blkOk_by (own := [("place", 10)]) (N := ["order", "rows", "start", "stops", "least", "row", "low", "before", "price", "entry", "place"]) (sc := defScope sAnswers) (by decide +kernel)) (fun _ _ _ _ _ => pg_name (i := 10) scAnswers.nd rfl (Or.inl rfl)) (fun _ _ _ _ _ => by exact pts_nil) (fun _ _ _ _ _ => by exact (pe_ix ix_list (pv 4) (pv 10) (fun _ _ => rfl)))))))), ?_⟩
    obtain ⟨rp, xs, rfl, hx, hd⟩ := Dp.lst_inv hR
    have nN : 0 ≤ n := by omega
    -- least
    refine q_asgE ⟨.ref p, rfl, .ref rp, rfl, .int x, rfl, p, .ref rp, x, n, os, rows, rfl, hS, hn, hn1, hR, hin, q1, fun hx0 H1 u ts s1 nu eu hps => ?_⟩
    have q2 := q2 hx0
    have q3 := q3 hx0
    refine ⟨u, rfl, ⟨_, .of eu⟩, fun o no => lc_list (K := K) (a := u) (xs := ts)
      (fun i H' => ∃ ys : List V, H' o = some (.lst ys) ∧ Same H1 H' ∧ ys.length = i ∧ ∀ k : Nat, k < i → ys[k]? = some (oV (sumsF (·.up) x rows (k : Int)).1))
      ⟨[], upd_same, same_upd no, rfl, fun k hk => absurd hk (Nat.not_lt_zero _)⟩ (fun i H' _ hP => .of (hP.choose_spec.2.1 _ _ eu)) (fun i v H' hi hP => ?_) (fun H' hP => ?_)⟩
    · obtain ⟨ys, ho, s2, hyl, hy⟩ := hP
      have il := (List.getElem?_eq_some_iff.mp hi).1
      rw [hps.len] at il
      obtain ⟨t, h1, h2⟩ := hps.at_ i il
      cases hi.symm.trans h1
      refine ⟨rfl, yes_of (if_true_of rfl ?_)⟩
      refine (vl_ixT (K := K) (vl_var rfl) vl_c (.of (s2 _ _ h2)) (atI_nat (j := 0) rfl)) _ ⟨ys, ho, ?_, ys ++ [oV (sumsF (·.up) x rows (i : Int)).1], upd_same, same_upd' s2 no, by rw [List.length_append, hyl]; rfl, fun k hk => ?_⟩
      · rw [hyl]
        exact Nat.lt_of_le_of_lt (show i ≤ 1000 by omega) (by decide)
      · by_cases e : k = i
        · subst e
          rw [List.getElem?_append_right (by omega), hyl, Nat.sub_self]
          rfl
        · rw [List.getElem?_append_left (by omega)]
          exact hy k (by omega)
    · obtain ⟨ys, ho, s2, hyl, hy⟩ := hP
      rw [hps.len] at hyl hy
      have ho : H' o = some (.lst ((rng n).map fun z => oV (sumsF (·.up) x rows z).1)) := by
        rw [ho]
        congr 2
        refine List.ext_getElem? fun i => ?_
        by_cases hi : i < n.toNat
        · rw [hy i hi, List.getElem?_map, rngG hi]
          rfl
        · rw [List.getElem?_eq_none (by omega), List.getElem?_eq_none (by rw [List.length_map, len_rng]; omega)]
      have nH : H o = none := Same.free s1 no
      have s02 : Same H (but H' o) := same_but (s1.trans s2) nH
      have s02' := s02.trans but_same
      -- check_places
      refine q_chkL (n := n) (xs := zs) ((vl_lenL (vl_var rfl) (s02'.seq hS)).is (by rw [List.length_map, hn])) (vl_var rfl) (s02'.seq hZ) (fun x hx => (q2 x hx).to s02') fun hb H2 s2' => ?_
      have q := q3 hb
      have s03 : Same H (but H2 o) := s02.trans (but_mono s2')
      have ho2 := s2' _ _ ho
      refine q_forRv (K := K) (Hb := H) (va_cons (vl_var rfl) va_nil) hx hd (s03.trans but_same)
        (fun i σ H3 => ∃ y5 y6 y7 y8, σ = [some (.ref p), some (.ref rp), some (.int x), some (.ref st), some (.ref o), y5, y6, y7, y8, none, none] ∧ Same H (but H3 o) ∧ H3 o = some (.lst ((rng n).map fun z => oV ((rows.reverse.take i).foldl ansStep (fun z => (sumsF (·.up) x rows z).1) z))))
        ⟨_, _, _, _, rfl, s03, ho2⟩ (fun i σ H3 hP => ?_) (fun i r t σ H3 hi ht hP => ?_) (fun σ H3 hP => ?_)
      · obtain ⟨_, _, _, _, _, s3, _⟩ := hP
        exact s3.trans but_same
      · obtain ⟨y5, y6, y7, y8, rfl, s3, ho⟩ := hP
        rw [fold_take hi]
        generalize (rows.reverse.take i).foldl ansStep (fun z => (sumsF (·.up) x rows z).1) = g at ho
        have hri := hin r (List.mem_reverse.mp (List.mem_of_getElem? hi))
        have ht3 := seqT (s3.trans but_same) ht
        have gat : ∀ {σ : L2.St} {t0 t1 : TE} {z : Int}, 0 ≤ z ∧ z < n → Vl t0 σ H3 (.ref o) → Vl t1 σ H3 (.int z) → Vl (tOp (rIxL K) t0 t1) σ H3 (oV (g z)) := fun hz h0 h1 => vl_ixL h0 h1 (.of ho) (rng_at (g := fun z => oV (g z)) hz)
        refine q_par3 (va_cons (vl_ixT (K := K) (vl_var rfl) vl_c ht3 (atI_nat (j := 0) rfl)) (va_cons (gat (z := r.v) hri.2 (vl_var rfl) (vl_ixT (K := K) (vl_var rfl) vl_c ht3 (atI_nat (j := 1) rfl))) (va_cons (vl_ixT (K := K) (vl_var rfl) vl_c ht3 (atI_nat (j := 3) rfl)) va_nil))) ?_
        have keep : ansStep g r = g → ∃ y5 y6 y7 y8, [some (V.ref p), some (.ref rp), some (.int x), some (.ref st), some (.ref o), some (.ref t), some (.int r.u), some (oV (g r.v)), some (oV r.dn), none, none] = [some (.ref p), some (.ref rp), some (.int x), some (.ref st), some (.ref o), y5, y6, y7, y8, none, none] ∧ Same H (but H3 o) ∧ H3 o = some (.lst ((rng n).map fun z => oV (ansStep g r z))) := fun e => ⟨_, _, _, _, rfl, s3, by rw [e]; exact ho⟩
        cases e1 : g r.v with
        | none =>
          rw [e1] at keep
          refine q_when (b := true) (an_or (k := true) (m := true) (an_test ((vl_isN (vl_var rfl)).is rfl)) fun h => by cases h) (fun _ => ?_) (fun h => by cases h)
          refine keep ?_
          unfold ansStep rlx
          rw [e1]
          cases r.dn <;> rfl
        | some b =>
          cases e2 : r.dn with
          | none =>
            rw [e1, e2] at keep
            refine q_when (b := true) ((an_or (k := false) (m := true) (an_test ((vl_isN (vl_var rfl)).is rfl)) fun _ => an_test ((vl_isN (vl_var rfl)).is rfl)).is rfl) (fun _ => ?_) (fun h => by cases h)
            refine keep ?_
            unfold ansStep rlx
            rw [e2]
          | some pr =>
            rw [e1, e2] at keep
            refine q_when (b := false) ((an_or (k := false) (m := false) (an_test ((vl_isN (vl_var rfl)).is rfl)) fun _ => an_test ((vl_isN (vl_var rfl)).is rfl)).is rfl) (fun h => by cases h) (fun _ => ?_)
            obtain ⟨un, eun⟩ := Int.eq_ofNat_of_zero_le hri.1.1
            have gu : ∀ {σ : L2.St} {t0 t1 : TE}, Vl t0 σ H3 (.ref o) → Vl t1 σ H3 (.int r.u) → Vl (tOp (rIxL K) t0 t1) σ H3 (oV (g r.u)) := fun h0 h1 => gat hri.1 h0 h1
            have put : ansStep g r = updF g r.u (some (b + pr)) → tAsg (tOp (rI0 fun i j => .int (i + j)) (tVar 7) (tVar 8)) (gSub (tVar 4) (tVar 6) rSetL) { nx := fun σ H7 => ∃ y5 y6 y7 y8, σ = [some (.ref p), some (.ref rp), some (.int x), some (.ref st), some (.ref o), y5, y6, y7, y8, none, none] ∧ Same H (but H7 o) ∧ H7 o = some (.lst ((rng n).map fun z => oV (ansStep g r z))), rt := fun _ _ => True, bk := fun _ _ => True, ct := fun _ _ => True } [some (.ref p), some (.ref rp), some (.int x), some (.ref st), some (.ref o), some (.ref t), some (.int r.u), some (.int b), some (.int pr), none, none] H3 := fun e => by
              refine g_setE (k := un) (v := .int (b + pr)) (ve_of (vl_I0 (vl_var rfl) (vl_var rfl))) (fun _ _ => vl_var rfl) (fun _ _ => (vl_var rfl).is (by rw [eun])) ho (by rw [List.length_map, len_rng]; omega) fun H7 s7 => ⟨_, _, _, _, rfl, ?_, ?_⟩
              · rw [but_upd]
                exact s3.trans (but_mono s7)
              · rw [upd_same, rng_set, e, eun]
                congr 3
                rw [map_updF]
                rfl
            cases e3 : g r.u with
            | none =>
              rw [e3] at gu
              refine g_when (b := true) (an_or (k := true) (m := true) (an_test ((vl_isN (gu (vl_var rfl) (vl_var rfl))).is rfl)) fun h => by cases h) (fun _ => ?_) (fun h => by cases h)
              refine put ?_
              unfold ansStep rlx
              rw [e2, e1, e3]
              rfl
            | some k0 =>
              rw [e3] at gu
              have est : ansStep g r = if b + pr < k0 then updF g r.u (some (b + pr)) else g := by
                unfold ansStep rlx
                rw [e2, e1, e3]
                rfl
              refine g_when (b := decide (b + pr < k0)) ((an_or (k := false) (m := decide (b + pr < k0)) (an_test ((vl_isN (gu (vl_var rfl) (vl_var rfl))).is rfl)) fun _ => an_test (vl_I0 (g := fun i j => .bl (decide (i < j))) (vl_I0 (vl_var rfl) (vl_var rfl)) (gu (vl_var rfl) (vl_var rfl)))).is (Bool.false_or _)) (fun h => ?_) (fun h => ?_)
              · exact put (by rw [est, if_pos (of_decide_eq_true h)])
              · exact keep (by rw [est, if_neg (of_decide_eq_false h)])
      · obtain ⟨y5, y6, y7, y8, rfl, s3, ho⟩ := hP
        rw [← List.length_reverse, List.take_length] at ho
        have hzin : ∀ z ∈ zs, 0 ≤ z ∧ z < n := badPl_none hb
        refine ⟨.ref st, rfl, st, rfl, ⟨_, (s3.trans but_same).seq hZ⟩, fun D nD => lc_list (K := K) (a := st) (xs := zs.map V.int)
          (fun i H' => H' D = some (.lst ((zs.take i).map fun z => oV (ansF x rows z))) ∧ Same H3 H') ⟨upd_same, same_upd nD⟩ (fun i H' _ hP => ((s3.trans but_same).trans hP.2).seq hZ) (fun i v H' hi hP => ?_) (fun H' hP => ?_)⟩
        · obtain ⟨hD, s4⟩ := hP
          rw [List.getElem?_map] at hi
          cases hg : zs[i]? with
          | none =>
            rw [hg] at hi
            cases hi
          | some z =>
            rw [hg] at hi
            cases hi
            have il := (List.getElem?_eq_some_iff.mp hg).1
            refine ⟨rfl, yes_of (if_true_of rfl ?_)⟩
            refine (vl_ixL (K := K) (z := oV (ansF x rows z)) (vl_var rfl) (vl_var rfl) (.of (s4 _ _ ho)) (rng_at (g := fun z => oV (ansF x rows z)) (hzin z (List.mem_of_getElem? hg)))) _ ⟨_, hD, ?_, ?_, same_upd' s4 nD⟩
            · rw [List.length_map, List.length_take]
              exact Nat.lt_of_le_of_lt (m := 100000) (by omega) (by decide)
            · rw [upd_same, take_snoc hg, List.map_append]
              rfl
        · obtain ⟨hD, s4⟩ := hP
          rw [List.length_map, List.take_length] at hD
          have sE := (s3.trans but_same).trans s4
          exact q H' D sE (Same.free (s3.trans but_same) nD) hD
end
/-! ### lists of sums as data -/
theorem lay_oDs (f : Int → Option Int) : ∀ xs : List Int, PyData.canLayAll0 (xs.map fun x => oD (f x)) = true ∧ PyData.depthAll (xs.map fun x => oD (f x)) = 0
  | [] => ⟨rfl, rfl⟩
  | x :: xs => by
    have h := lay_oDs f xs
    cases e : f x with
    | none =>
      constructor
      · show ((oD (f x)).canLay0 && PyData.canLayAll0 (xs.map fun x => oD (f x))) = true
        rw [e, h.1]
        rfl
      · show max (oD (f x)).depth (PyData.depthAll (xs.map fun x => oD (f x))) = 0
        rw [e, h.2]
        rfl
    | some z =>
      constructor
      · show ((oD (f x)).canLay0 && PyData.canLayAll0 (xs.map fun x => oD (f x))) = true
        rw [e, h.1]
        rfl
      · show max (oD (f x)).depth (PyData.depthAll (xs.map fun x => oD (f x))) = 0
        rw [e, h.2]
        rfl
theorem shaped_oDs (f : Int → Option Int) (xs : List Int) : SeqAt.shaped (.list (xs.map fun x => oD (f x))) = true := by
  have h := lay_oDs f xs
  show (PyData.canLayAll0 (xs.map fun x => oD (f x)) && decide (PyData.depthAll (xs.map fun x => oD (f x)) + 1 ≤ 64)) = true
  rw [h.1, h.2]
  rfl
theorem DpAll.oDs {K : PySem.W.Frag} {H : Hp} (f : Int → Option Int) : ∀ xs : List Int, DpAll K H (xs.map fun x => oV (f x)) (xs.map fun x => oD (f x))
  | [] => .nil
  | x :: xs => .cons (by
    show Dp K H (oV (f x)) (oD (f x))
    cases f x with
    | none => exact Dp.non
    | some z => exact Dp.int z) (DpAll.oDs f xs)
theorem badPl_rng {n : Int} : badPl n (rng n) = none := badPl_of fun x hx => mem_rng.mp hx
theorem badPl_app {n : Int} {zs xs : List Int} (h : ∀ x ∈ zs, 0 ≤ x ∧ x < n) : badPl n (zs ++ xs) = badPl n xs := by
  have e := badPl_of h
  unfold badPl at e ⊢
  rw [List.find?_append, e, Option.none_or]
theorem badPl_cons {n x : Int} {xs : List Int} (h : ¬ (0 ≤ x ∧ x < n)) : badPl n (x :: xs) = some x := by
  unfold badPl
  rw [List.find?_cons, badP_out h]
theorem shaped_oT (a b : Option Int) : SeqAt.shaped (.tuple [oD a, oD b]) = true := by
  cases a <;> cases b <;> rfl
/-! ### the sums from each place: a list of lists -/
structure SumsAt (H : Hp) (D : Addr) (N : Net) : Prop where
  ex : ∃ refs : List V, H D = some (.lst refs) ∧ refs.length = N.n.toNat ∧ ∀ k : Nat, k < N.n.toNat → ∃ a, refs[k]? = some (.ref a) ∧ H a = some (.lst ((rng N.n).map fun z => oV (dstN N (k : Int) z)))
theorem SumsAt.to {H H' : Hp} {D : Addr} {N : Net} (h : SumsAt H D N) (s : Same H H') : SumsAt H' D N := by
  obtain ⟨refs, h1, h2, h3⟩ := h.ex
  exact ⟨refs, s _ _ h1, h2, fun k hk => let ⟨a, e1, e2⟩ := h3 k hk; ⟨a, e1, s _ _ e2⟩⟩
section
variable {K : PySem.W.Frag} {σ : L2.St} {H : Hp} {t0 t1 t2 : TE} {D : Addr} {N : Net} {x y : Int} {tr_ : TA}
theorem vl_sums1 (h0 : Vl t0 σ H (.ref D)) (h1 : Vl t1 σ H (.int x)) (hS : SumsAt H D N) (hx : 0 ≤ x ∧ x < N.n) : ∃ a, Vl (tOp (rIxL K) t0 t1) σ H (.ref a) ∧ H a = some (.lst ((rng N.n).map fun z => oV (dstN N x z))) := by
  obtain ⟨refs, e1, e2, e3⟩ := hS.ex
  obtain ⟨k, rfl⟩ := Int.eq_ofNat_of_zero_le hx.1
  obtain ⟨a, e4, e5⟩ := e3 k (by omega)
  exact ⟨a, vl_ixL h0 h1 (.of e1) (atI_nat e4), e5⟩
theorem vl_sums2 (h0 : Vl t0 σ H (.ref D)) (h1 : Vl t1 σ H (.int x)) (h2 : Vl t2 σ H (.int y)) (hS : SumsAt H D N) (hx : 0 ≤ x ∧ x < N.n) (hy : 0 ≤ y ∧ y < N.n) : Vl (tOp (rIxL K) (tOp (rIxL K) t0 t1) t2) σ H (oV (dstN N x y)) := by
  obtain ⟨a, h3, h4⟩ := vl_sums1 (K := K) h0 h1 hS hx
  exact vl_ixL h3 h2 (.of h4) (rng_at (g := fun z => oV (dstN N x z)) hy)
/-- [_law_sums(net, place, []) for place in range(net[0])] -/
theorem lc_sums {j : Nat} {v : V} {Q : VK} (hj : j < σ.length) (hl : Va tr_ σ H [.int N.n]) (hv : ∀ H', Same H H' → ∀ z, Vl t0 ((σ.set j none).set j (some z)) H' v) (hN : Dp K H v (netD N)) (ok : NetOk N)
    (q : ∀ (D : Addr) (H' : Hp), Same H H' → H D = none → SumsAt H' D N → Q (.ref D) H') : tLc (iRng1 tr_) (gName j) tYes (tCall (spSums K) [] E0 (tCons t0 (tCons (tVar j) (tCons (tLst tNil) tNil)))) [j] σ H Q := by
  have n1 := ok.n1
  have n40 := ok.n40
  refine hl _ ⟨N.n, rfl, by omega, by omega, fun D nD => lc_range (lo := 0) (n := N.n.toNat)
    (fun m H' => Same H (but H' D) ∧ ∃ refs : List V, H' D = some (.lst refs) ∧ refs.length = m ∧ ∀ k : Nat, k < m → ∃ a, a ≠ D ∧ refs[k]? = some (.ref a) ∧ H' a = some (.lst ((rng N.n).map fun z => oV (dstN N (k : Int) z))))
    ⟨same_but (same_upd nD) nD, [], upd_same, rfl, fun k hk => absurd hk (Nat.not_lt_zero _)⟩ (fun m H' hm hP => ?_) (fun H' hP => ?_)⟩
  · obtain ⟨s, refs, hD, hl, hr⟩ := hP
    refine ⟨?_, yes_of ?_⟩
    · show ((σ.set j none).set j _).set j none = σ.set j none
      rw [List.set_set, List.set_set]
    refine if_true_of (by rfl) ?_
    have hjl : ((σ.set j none).set j (some (V.int (0 + (m : Int)))))[j]? = some (some (V.int (0 + (m : Int)))) := List.getElem?_set_self (by rw [List.length_set]; exact hj)
    refine (hv _ (s.trans but_same) _) _ ⟨_, hjl, Nat.zero_le _, fun cl ncl => ?_⟩
    have sc : Same H' (upd H' cl (.lst [])) := same_upd ncl
    refine ⟨v, N, 0 + (m : Int), cl, rfl, Dp.to hN ((s.trans but_same).trans sc), ok, by omega, by omega, .of upd_same, fun H2 a s2 na ea => ?_⟩
    have sE := sc.trans s2
    have hD2 := sE _ _ hD
    have naD : a ≠ D := fun e => by
      rw [e, sc _ _ hD] at na
      cases na
    refine ⟨refs, hD2, ?_, ?_, refs ++ [.ref a], upd_same, ?_, fun k hk => ?_⟩
    · rw [hl]
      exact Nat.lt_of_le_of_lt (show m ≤ 100 by omega) (by decide)
    · rw [but_upd]
      exact s.trans (but_mono sE)
    · rw [List.length_append, hl]
      rfl
    · by_cases e : k = m
      · subst e
        refine ⟨a, naD, ?_, ?_⟩
        · rw [List.getElem?_append_right (by omega), hl, Nat.sub_self]
          rfl
        · rw [upd_ne naD, ea, Int.zero_add]
          rfl
      · obtain ⟨b, h1, h2, h3⟩ := hr k (by omega)
        refine ⟨b, h1, ?_, ?_⟩
        · rw [List.getElem?_append_left (by omega)]
          exact h2
        · rw [upd_ne h1]
          exact sE _ _ h3
  · obtain ⟨s, refs, hD, hl, hr⟩ := hP
    exact q D H' (s.trans but_same) nD ⟨refs, hD, hl, fun k hk => let ⟨a, _, h2, h3⟩ := hr k hk; ⟨a, h2, h3⟩⟩
end
end Ovc
namespace L2
open PySem PySem.Spec PyProof.Rows
/-! ### min(xs, default=None), xs a list of ints -/
def rMinDef (K : PySem.W.Frag) : List V → List V → Hp → VK → Prop := fun vs zs H Q => ∃ a ns, vs = [.ref a] ∧ zs = [.non] ∧ SqL K H a (ns.map V.int) ∧ (ns = [] → Q .non H) ∧ ∀ m, m ∈ ns → (∀ x ∈ ns, m ≤ x) → Q (.int m) H
theorem depth_ints : ∀ ns : List Int, PyData.depthAll (ns.map PyData.int) = 0
  | [] => rfl
  | n :: ns => by
    show max 0 (PyData.depthAll (ns.map PyData.int)) = 0
    rw [depth_ints ns]
    rfl
theorem foldl_min_le : ∀ (ns : List Int) (n : Int), (ns.foldl min n ≤ n) ∧ ∀ x ∈ ns, ns.foldl min n ≤ x
  | [], n => ⟨Int.le_refl _, fun _ h => (nomatch h)⟩
  | y :: ns, n => by
    obtain ⟨h1, h2⟩ := foldl_min_le ns (min n y)
    rw [List.foldl_cons]
    refine ⟨Int.le_trans h1 (Int.min_le_left _ _), fun x hx => ?_⟩
    rcases List.mem_cons.mp hx with e | e
    · rw [e]
      exact Int.le_trans h1 (Int.min_le_right _ _)
    · exact h2 x e
theorem call_minDef {X : Cx} (hc : X.calm = true) (hu : X.A.units + 64 < cLine) : CallRK X (.builtin "min") ["default"] (rMinDef X.K) := by
  intro pins s σ H vs zs us ws Q I r rz h
  obtain ⟨a, ns, rfl, rfl, hs, q0, q⟩ := h
  obtain ⟨its, rv, hl, _⟩ := I.list hs
  rw [Vals.ref1 r]
  obtain ⟨as, rd⟩ := Dp.readsAll I (ns.map PyData.int) (ns.map V.int) its (Ovc.DpAll.ints ns) rv
  obtain ⟨d, rfl, rz1⟩ : ∃ d, ws = [d] ∧ RelV .non d := by
    cases rz with
    | cons a b =>
      cases b
      exact ⟨_, rfl, a⟩
  obtain rfl : d = Value.none := rz1
  refine PySem.W.min_list_default (xs := ns.map PyData.int) (as := as) (I.ok.hd hc) hl.isList (by simpa using rd) ⟨fun x hx y hy => ?_, fun x hx => ?_⟩ ?_ (fun he h' tk hk => ?_) fun y ys i v h' tk bs e hi hr hk => ?_
  · obtain ⟨a1, _, rfl⟩ := List.mem_map.mp hx
    obtain ⟨a2, _, rfl⟩ := List.mem_map.mp hy
    rfl
  · obtain ⟨a1, _, rfl⟩ := List.mem_map.mp hx
    exact fun z => (nomatch z)
  · rw [depth_ints]
    omega
  · exact ⟨.non, H, I.kept hk, rfl, q0 (List.map_eq_nil_iff.mp he)⟩
  · have hi2 : its[i]? = some v := by simpa using hi
    have hxl : i < (ns.map V.int).length := by
      have := rv.length
      have := (List.getElem?_eq_some_iff.mp hi2).1
      omega
    have ex : (ns.map V.int)[i]? = some (ns.map V.int)[i] := List.getElem?_eq_getElem hxl
    obtain ⟨u, hu2, ru⟩ := rv.get ex
    cases hi2.symm.trans hu2
    rw [List.getElem_map] at ru
    rw [List.length_map] at hxl
    generalize en : ns[i] = m at ru
    have hm : m ∈ ns := by
      rw [← en]
      exact List.getElem_mem hxl
    cases ns with
    | nil => cases hm
    | cons n0 r0 =>
      rw [List.map_cons] at e
      injection e with e1 e2
      subst e1
      subst e2
      rw [PySem.W.minD_ints] at hr
      obtain ⟨t, rfl⟩ := ru
      have e3 : r0.foldl min n0 = m := by
        cases hr
        rfl
      obtain ⟨h1, h2⟩ := foldl_min_le r0 n0
      refine ⟨.int m, H, I.kept hk, ⟨t, rfl⟩, q m hm fun x hx => ?_⟩
      rw [← e3]
      rcases List.mem_cons.mp hx with e | e
      · rw [e]
        exact h1
      · exact h2 x e
end L2
namespace Ovc
open PySem PySem.Spec PyProof.Rows L2
/-! ### lists of pairs of ints, as data -/
def ppD (x : Int × Int) : PyData := .tuple [.int x.1, .int x.2]
def labD (L : List (Int × Int)) : PyData := .list (L.map ppD)
theorem Dp.pp_inv {K : PySem.W.Frag} {H : Hp} {v : V} {x : Int × Int} (h : Dp K H v (ppD x)) : ∃ t, v = .ref t ∧ SqT K H t [.int x.1, .int x.2] := by
  obtain ⟨a, xs, rfl, hs, ha⟩ := Dp.tup_inv h
  cases ha with
  | cons h1 r1 =>
    cases r1 with
    | cons h2 r2 =>
      cases r2
      rw [Dp.int_inv h1, Dp.int_inv h2] at hs
      exact ⟨a, rfl, hs⟩
theorem Dp.pp {K : PySem.W.Frag} {H : Hp} {t : Addr} {x : Int × Int} (h : SqT K H t [.int x.1, .int x.2]) : Dp K H (.ref t) (ppD x) := .tup h (.cons (.int _) (.cons (.int _) .nil))
theorem DpAll.pp_at {K : PySem.W.Frag} {H : Hp} {xs : List V} {L : List (Int × Int)} (h : DpAll K H xs (L.map ppD)) {i : Nat} {v : V} (hi : xs[i]? = some v) : ∃ x t, L[i]? = some x ∧ v = .ref t ∧ SqT K H t [.int x.1, .int x.2] := by
  have e := DpAll.len h
  rw [List.length_map] at e
  have hlt := (List.getElem?_eq_some_iff.mp hi).1
  have hg : L[i]? = some (L[i]'(by omega)) := List.getElem?_eq_getElem (by omega)
  obtain ⟨v', hv, dv⟩ := DpAll.get (i := i) (d := ppD (L[i]'(by omega))) h (by
    rw [List.getElem?_map, hg]
    rfl)
  cases hi.symm.trans hv
  obtain ⟨t, rfl, ht⟩ := Dp.pp_inv dv
  exact ⟨_, t, hg, rfl, ht⟩
section
variable {K : PySem.W.Frag} {σ : L2.St} {H : Hp} {a : Addr} {D : Ends} {tz tw : TS}
/-- for x, y in L -/
theorem g_forPp {j1 j2 : Nat} {Hb : Hp} {xs : List V} {L : List (Int × Int)} {tl : TE} (h : Vl tl σ H (.ref a)) (hx : SqL K Hb a xs) (hL : DpAll K Hb xs (L.map ppD)) (hb : Same Hb H) (Pv : Nat → L2.St → Hp → Prop) (h0 : Pv 0 σ H) (hl : ∀ i σ' H', Pv i σ' H' → Same Hb H')
    (hs : ∀ (i : Nat) x σ H, L[i]? = some x → Pv i σ H → tz { D with nx := Pv (i + 1), ct := Pv (i + 1), bk := D.nx } ((σ.set j1 (some (.int x.1))).set j2 (some (.int x.2))) H) (hd : ∀ σ H, Pv L.length σ H → D.nx σ H) :
    tFor (iList K tl) (gTup K 2 (gCons (gName j1) (gCons (gName j2) gNil))) tz D σ H := h _ ⟨a, rfl, ⟨_, hb.seq hx⟩, for_list (xs := xs) Pv h0 (fun i σ H _ p => (hl i σ H p).seq hx) (fun i v σ H hi p => by
      obtain ⟨x, t, hg, rfl, ht⟩ := DpAll.pp_at hL hi
      exact ⟨t, _, rfl, seqT (hl i σ H p) ht, rfl, _, _, rfl, _, _, rfl, rfl, hs i _ σ H hg p⟩) (fun σ H p => by
      have e := DpAll.len hL
      rw [List.length_map] at e
      rw [e] at p
      exact hd σ H p)⟩
theorem q_forPp {j1 j2 : Nat} {Hb : Hp} {xs : List V} {L : List (Int × Int)} {tl : TE} (h : Vl tl σ H (.ref a)) (hx : SqL K Hb a xs) (hL : DpAll K Hb xs (L.map ppD)) (hb : Same Hb H) (Pv : Nat → L2.St → Hp → Prop) (h0 : Pv 0 σ H) (hl : ∀ i σ' H', Pv i σ' H' → Same Hb H')
    (hs : ∀ (i : Nat) x σ H, L[i]? = some x → Pv i σ H → tz { D with nx := Pv (i + 1), ct := Pv (i + 1), bk := tw D } ((σ.set j1 (some (.int x.1))).set j2 (some (.int x.2))) H) (hd : ∀ σ H, Pv L.length σ H → tw D σ H) :
    tSeq (tFor (iList K tl) (gTup K 2 (gCons (gName j1) (gCons (gName j2) gNil))) tz) tw D σ H := g_forPp (D := { D with nx := tw D }) h hx hL hb Pv h0 hl hs hd
end
/-! ### the least sum of two labels -/
def minO : List Int → Option Int
  | [] => none
  | x :: xs => some (xs.foldl min x)
theorem minO_snoc {xs : List Int} {s : Int} : minO (xs ++ [s]) = some (match minO xs with
    | none => s
    | some m => if s < m then s else m) := by
  cases xs with
  | nil => rfl
  | cons x r =>
    show some ((r ++ [s]).foldl min x) = _
    rw [List.foldl_append]
    show some (min (r.foldl min x) s) = some (if s < r.foldl min x then s else r.foldl min x)
    congr 1
    split <;> omega
theorem minO_none {xs : List Int} : minO xs = none ↔ xs = [] := by
  cases xs with
  | nil => exact ⟨fun _ => rfl, fun _ => rfl⟩
  | cons x r => exact ⟨fun h => (nomatch h), fun h => (nomatch h)⟩
theorem minO_of {xs : List Int} {m : Int} (hm : m ∈ xs) (hl : ∀ x ∈ xs, m ≤ x) : minO xs = some m := by
  cases xs with
  | nil => cases hm
  | cons x r =>
    show some (r.foldl min x) = some m
    obtain ⟨h1, h2⟩ := L2.foldl_min_le r x
    have h3 : r.foldl min x ≤ m := by
      rcases List.mem_cons.mp hm with e | e
      · rw [e]
        exact h1
      · exact h2 m e
    have h4 : ∀ (r : List Int) (x : Int), r.foldl min x ∈ x :: r := by
      intro r
      induction r with
      | nil => exact fun x => List.mem_cons_self
      | cons y r ih =>
        intro x
        rw [List.foldl_cons]
        have := ih (min x y)
        rcases List.mem_cons.mp this with e | e
        · rw [e]
          by_cases c : x ≤ y
          · rw [show min x y = x by omega]
            exact List.mem_cons_self
          · rw [show min x y = y by omega]
            exact List.mem_cons_of_mem _ List.mem_cons_self
        · exact List.mem_cons_of_mem _ (List.mem_cons_of_mem _ e)
    have h5 := hl _ (h4 r x)
    congr 1
    omega
def comS (F B : List (Int × Int)) : List Int := F.flatMap fun p => (B.filter fun q => decide (p.1 = q.1)).map fun q => p.2 + q.2
def labMin (F B : List (Int × Int)) : Option Int := minO (comS F B)
/-- what a dict of these pairs holds -/
def dfold (L : List (Int × Int)) (o : Option Int) (x : Int) : Option Int := L.foldl (fun o p => if p.1 = x then some p.2 else o) o
theorem dfold_snoc {L : List (Int × Int)} {o : Option Int} {x : Int} {p : Int × Int} : dfold (L ++ [p]) o x = if p.1 = x then some p.2 else dfold L o x := by
  unfold dfold
  rw [List.foldl_append]
  rfl
theorem dfold_nodup {x c : Int} : ∀ (L : List (Int × Int)) (o : Option Int), (L.map Prod.fst).Nodup → (o = none ∨ x ∉ L.map Prod.fst) → (o.toList ++ (L.filter fun q => decide (x = q.1)).map (·.2)) = (dfold L o x).toList
  | [], o, _, _ => by
    show o.toList ++ [] = o.toList
    rw [List.append_nil]
  | p :: L, o, hn, ho => by
    rw [List.map_cons, List.nodup_cons] at hn
    have e : dfold (p :: L) o x = dfold L (if p.1 = x then some p.2 else o) x := rfl
    rw [e]
    by_cases h : p.1 = x
    · rw [if_pos h]
      have o0 : o = none := by
        rcases ho with ho | ho
        · exact ho
        · exact absurd (by rw [List.map_cons, h]; exact List.mem_cons_self) ho
      have := dfold_nodup (x := x) (c := c) L (some p.2) hn.2 (.inr (by rw [← h]; exact hn.1))
      rw [← this, o0, List.filter_cons_of_pos (by exact decide_eq_true h.symm)]
      rfl
    · rw [if_neg h, List.filter_cons_of_neg (by
        intro z
        exact h (of_decide_eq_true z).symm)]
      exact dfold_nodup (x := x) (c := c) L o hn.2 (ho.imp id fun z y => z (by rw [List.map_cons]; exact List.mem_cons_of_mem _ y))
theorem row_eq {x d : Int} {B : List (Int × Int)} (hn : (B.map Prod.fst).Nodup) : (B.filter fun q => decide (x = q.1)).map (fun q => d + q.2) = ((dfold B none x).map fun c => d + c).toList := by
  have h := dfold_nodup (x := x) (c := 0) B none hn (.inl rfl)
  have h : (B.filter fun q => decide (x = q.1)).map (·.2) = (dfold B none x).toList := h
  rw [show (B.filter fun q => decide (x = q.1)).map (fun q => d + q.2) = ((B.filter fun q => decide (x = q.1)).map (·.2)).map (fun c => d + c) by
    rw [List.map_map]
    rfl, h]
  cases dfold B none x <;> rfl
theorem comS_snoc {F B : List (Int × Int)} {p : Int × Int} : comS (F ++ [p]) B = comS F B ++ (B.filter fun q => decide (p.1 = q.1)).map fun q => p.2 + q.2 := by
  unfold comS
  rw [List.flatMap_append]
  simp
def spLabAns (K : PySem.W.Frag) : Sp := fun vs H Q _ => ∃ (u v : V) (F B : List (Int × Int)), vs = [u, v] ∧ Dp K H u (labD F) ∧ Dp K H v (labD B) ∧ F.length ≤ 1000 ∧ B.length ≤ 1000 ∧ (B.map Prod.fst).Nodup ∧
  ∀ H', Same H H' → Q (oV (labMin F B)) H'
/-- a dict comprehension over a list -/
theorem dc_list {K : PySem.W.Frag} {a : Addr} {xs : List V} {g : TG} {tt : TT} {tk tv : TE} {vs : List Nat} {σ : L2.St} {H1 : Hp} {D : Addr} {Qd : Hp → Prop} (Pv : Nat → Hp → Prop) (h0 : Pv 0 (upd H1 D (.dK []))) (hl : ∀ i H, i ≤ xs.length → Pv i H → SqL K H a xs)
    (hs : ∀ i x H, xs[i]? = some x → Pv i H → g x (wipe σ vs) H fun σ2 H2 => wipe σ2 vs = wipe σ vs ∧ tt σ2 H2 fun b H3 =>
      if b = true then tk σ2 H3 fun y H4 => tv σ2 H4 fun z H5 => ∃ kvs k, y = kV k ∧ H5 D = some (.dK kvs) ∧ kvs.length < sizeLine ∧ Pv (i + 1) (upd H5 D (.dK (putK kvs k z))) else Pv (i + 1) H3) (hd : ∀ H, Pv xs.length H → Qd H) :
    ∃ W : Nat → Nat → Hp → Prop, (∃ m, W 0 m (upd H1 D (.dK []))) ∧ ∀ i m H, W i m H →
      ((Itl K a).stop i H ∧ Qd H) ∨ ((Itl K a).go i H ∧ ∃ Nx : Hp → Prop, (∀ H', Nx H' → ∃ m', m' < m ∧ W (i + 1) m' H') ∧ ∀ x H', (Itl K a).yld i H x H' → g x (wipe σ vs) H' fun σ2 H2 => wipe σ2 vs = wipe σ vs ∧ tt σ2 H2 fun b H3 =>
        if b = true then tk σ2 H3 fun y H4 => tv σ2 H4 fun z H5 => ∃ kvs k, y = kV k ∧ H5 D = some (.dK kvs) ∧ kvs.length < sizeLine ∧ Nx (upd H5 D (.dK (putK kvs k z))) else Nx H3) := by
  refine ⟨fun i m H => m = xs.length - i ∧ i ≤ xs.length ∧ Pv i H, ⟨xs.length, by simp, Nat.zero_le _, h0⟩, ?_⟩
  rintro i m H ⟨rfl, hi, p⟩
  have q := hl i H hi p
  by_cases hlt : i < xs.length
  · refine .inr ⟨⟨xs, xs[i], q, by simp [hlt]⟩, Pv (i + 1), fun H' p' => ⟨xs.length - (i + 1), by omega, rfl, hlt, p'⟩, fun x H' y => ?_⟩
    obtain ⟨e, y⟩ := y
    subst e
    exact hs i x _ (y xs q) p
  · have e : i = xs.length := by omega
    subst e
    exact .inl ⟨⟨xs, q, Nat.le_refl _⟩, hd H p⟩
theorem putK_lenI {kvs : List (L2.Key × V)} {k : L2.Key} {v : V} : (putK kvs k v).length ≤ kvs.length + 1 := by
  unfold putK
  split
  · rw [List.length_map]
    omega
  · rw [List.length_append]
    exact Nat.le_refl _
theorem yes_at {σ : L2.St} {H : Hp} {P : Bool → Hp → Prop} (h : P true H) : tYes σ H P := h
theorem comS_len {B : List (Int × Int)} (hn : (B.map Prod.fst).Nodup) : ∀ F : List (Int × Int), (comS F B).length ≤ F.length
  | [] => Nat.le_refl _
  | p :: F => by
    have e : comS (p :: F) B = (B.filter fun q => decide (p.1 = q.1)).map (fun q => p.2 + q.2) ++ comS F B := by
      unfold comS
      rw [List.flatMap_cons]
    have ih := comS_len hn F
    rw [e, List.length_append, row_eq hn, List.length_cons]
    cases dfold B none p.1 with
    | none =>
      show 0 + _ ≤ _
      omega
    | some c =>
      show 1 + _ ≤ _
      omega
abbrev sLabAns : Stmt := topS 18
theorem scLabAns : FnScope ["forward", "backward", "prices", "sums", "place", "price"] ["forward", "backward"] (defScope sLabAns) := ⟨rfl, rfl, rfl, by decide +kernel, rfl, by decide +kernel, by decide +kernel⟩
section
variable {P : Program} {w : World} {K : PySem.W.Frag} {mg : Str → Option Value} {base : Heap}
theorem ok_labAns {f : Addr} {fd : FuncData} {k : Nat} (F : Fun K "label_answer" "label_answer" sLabAns f fd) (mm : mg "min" = none) : FnOk P w K mg base CX0 (k + 1) f fd ["forward", "backward"] (spLabAns K) := by
  refine F.ok scLabAns (fun vs H Q E h => ?_) (fun cdv A outer s H vs Q E hr h => ?_)
  · obtain ⟨u, v, F, B, rfl, _⟩ := h
    rfl
  · obtain ⟨u, v, F, B, rfl, hF, hB, lF, lB, hn, q⟩ := h
    have hu := hu_of hr
    refine ⟨_, pss_cons (ps_set (i := 2) scLabAns.nd rfl (.inr rfl) (pe_dc (own := [("place", 4), ("price", 5)]) (g := gTup K 2 (gCons (gName 4) (gCons (gName 5) (gNil)))) (tt := tYes) (tk := (tVar 4)) (tv := (tVar 5)) rfl scLabAns.nd (pi_list (pv 1)) (blkOk_by (own := [("place", 4), ("price", 5)]) (N := ["forward", "backward", "prices", "sums", "place", "price"]) (sc := defScope sLabAns) (by decide +kernel)) (fun _ _ _ _ _ => pg_tup rfl (pgs_cons (pg_name (i := 4) scLabAns.nd rfl (Or.inl rfl)) (pgs_cons (pg_name (i := 5) scLabAns.nd rfl (Or.inl rfl)) pgs_nil))) (fun _ _ _ _ _ => by exact pts_nil) (fun _ _ _ _ _ => by exact (pv 4)) (fun _ _ _ _ _ => by exact (pv 5))))
      (pss_cons (ps_setLc (i := 3) (own := [("place", 4), ("price", 5)]) (g := gTup K 2 (gCons (gName 4) (gCons (gName 5) (gNil)))) (tt := (tB (tDIn (tVar 4) (tVar 2)))) (te := (tOp (rI0 fun i j => .int (i + j)) (tVar 5) (tDGet (tVar 2) (tVar 4)))) (by rfl) scLabAns.nd rfl rfl (sw_true rfl rfl rfl (by decide +kernel)) (pi_list (pv 0)) (blkOk_by (own := [("place", 4), ("price", 5)]) (N := ["forward", "backward", "prices", "sums", "place", "price"]) (sc := defScope sLabAns) (by decide +kernel)) (fun _ _ _ _ _ => pg_tup rfl (pgs_cons (pg_name (i := 4) scLabAns.nd rfl (Or.inl rfl)) (pgs_cons (pg_name (i := 5) scLabAns.nd rfl (Or.inl rfl)) pgs_nil))) (fun _ _ _ _ _ => by exact (pts_one (pt_cmp (pc_din hu (pv 4) (pv 2))))) (fun _ _ _ _ _ => by exact (pe_op op_add (pv 5) (pe_dget hu (pv 2) (pv 4) (fun _ _ => rfl)))))
      (pss_one (ps_ret (pe_callBK (call_minDef rfl hr.units) (by rfl) mm (by decide +kernel) (pa_cons (pv 3) pa_nil) (pk_cons pe_non pk_nil))))), ?_⟩
    obtain ⟨af, xf, rfl, sf, df⟩ := Dp.lst_inv hF
    obtain ⟨ab, xb, rfl, sb, db⟩ := Dp.lst_inv hB
    have eB := DpAll.len db
    rw [List.length_map] at eB
    have eF := DpAll.len df
    rw [List.length_map] at eF
    -- prices
    refine q_asgE ⟨.ref ab, rfl, ab, rfl, ⟨_, sb⟩, fun D nD => dc_list (K := K) (a := ab) (xs := xb)
      (fun i H3 => ∃ kvs : List (L2.Key × V), H3 D = some (.dK kvs) ∧ Same H (but H3 D) ∧ kvs.length ≤ i ∧ ∀ x : Int, valV kvs (Sum.inl x) = (dfold (B.take i) none x).map V.int)
      ⟨[], upd_same, by rw [but_upd]; exact same_but (Same.refl H) nD, Nat.le_refl _, fun x => rfl⟩ (fun i H3 _ hP => ?_) (fun i v H3 hi hP => ?_) (fun H3 hP => ?_)⟩
    · obtain ⟨_, _, s3, _⟩ := hP
      exact (s3.trans but_same).seq sb
    · obtain ⟨kvs, hD, s3, hl, hv⟩ := hP
      obtain ⟨x, t, hg, rfl, ht⟩ := DpAll.pp_at db hi
      have hil := (List.getElem?_eq_some_iff.mp hg).1
      refine ⟨t, _, rfl, seqT (s3.trans but_same) ht, rfl, _, _, rfl, _, _, rfl, rfl, rfl, ?_⟩
      refine yes_at (if_true_of rfl ⟨_, rfl, _, rfl, kvs, Sum.inl x.1, rfl, hD, Nat.lt_of_le_of_lt (m := 1000) (by omega) (by decide), putK kvs (Sum.inl x.1) (.int x.2), upd_same, ?_, ?_, fun y => ?_⟩)
      · rw [but_upd]
        exact s3
      · have := putK_lenI (kvs := kvs) (k := Sum.inl x.1) (v := .int x.2)
        omega
      · rw [valV_put, take_snoc hg, dfold_snoc, hv]
        by_cases e : x.1 = y
        · rw [if_pos e, if_pos (by rw [e])]
          rfl
        · rw [if_neg e, if_neg (fun z => e (Sum.inl.inj z).symm)]
    · obtain ⟨kvs, hD, s3, hl, hv⟩ := hP
      rw [eB, List.take_length] at hv
      have sH := s3.trans but_same
      -- sums
      refine ⟨.ref af, rfl, af, rfl, ⟨_, sH.seq sf⟩, fun S nS => lc_list (K := K) (a := af) (xs := xf)
        (fun i H4 => H4 S = some (.lst ((comS (F.take i) B).map V.int)) ∧ Same H3 H4) ⟨upd_same, same_upd nS⟩ (fun i H4 _ hP => (sH.trans hP.2).seq sf) (fun i v H4 hi hP => ?_) (fun H4 hP => ?_)⟩
      · obtain ⟨hS, s4⟩ := hP
        obtain ⟨x, t, hg, rfl, ht⟩ := DpAll.pp_at df hi
        have hil := (List.getElem?_eq_some_iff.mp hg).1
        have en : comS (F.take (i + 1)) B = comS (F.take i) B ++ ((dfold B none x.1).map fun c => x.2 + c).toList := by
          rw [take_snoc hg, comS_snoc, row_eq hn]
        have hlen : (comS (F.take i) B).length ≤ 1000 := Nat.le_trans (comS_len hn _) (by rw [List.length_take]; omega)
        refine ⟨t, _, rfl, seqT (sH.trans s4) ht, rfl, _, _, rfl, _, _, rfl, rfl, rfl, ?_⟩
        have hD4 := s4 _ _ hD
        refine ⟨_, rfl, _, rfl, D, _, rfl, DGet.k (k := Sum.inl x.1) hD4, _, rfl, ?_⟩
        rw [hv]
        cases e : dfold B none x.1 with
        | none =>
          rw [e] at en
          refine if_false_of rfl ⟨?_, s4⟩
          rw [hS, en]
          simp
        | some c =>
          rw [e] at en
          have e1 : valV kvs (Sum.inl x.1) = some (.int c) := by
            rw [hv, e]
            rfl
          refine if_true_of rfl ⟨_, rfl, _, rfl, _, rfl, D, .int c, rfl, by
            rw [← e1]
            exact DGet.k (k := Sum.inl x.1) hD4, _, _, rfl, rfl, _, hS, ?_, ?_, same_upd' s4 nS⟩
          · rw [List.length_map]
            exact Nat.lt_of_le_of_lt (m := 1000) (Nat.le_trans hlen (by omega)) (by decide)
          · rw [upd_same, en, List.map_append]
            rfl
      · obtain ⟨hS, s4⟩ := hP
        rw [eF, List.take_length] at hS
        have sE := sH.trans s4
        refine ⟨_, rfl, S, comS F B, rfl, rfl, .of hS, fun e => ?_, fun m hm hle => ?_⟩
        · have := q H4 sE
          unfold labMin at this
          rw [e] at this
          exact this
        · have := q H4 sE
          unfold labMin at this
          rw [minO_of hm hle] at this
          exact this
end
end Ovc
namespace L2
open PySem PySem.Spec PyProof.Rows
/-! ### xs[:k:-1] -/
theorem bounds_to {n k : Nat} (h : k < n) : sliceBounds none (some (k : Int)) (some (-1)) n = ((n : Int) - 1, (k : Int), -1) := by
  simp [sliceBounds]
  omega
theorem range_to {n k : Nat} (h : k < n) : sliceRange ((n : Int) - 1) (k : Int) (-1) = ((List.range (n - 1 - k)).map fun j => k + 1 + j).reverse := by
  unfold sliceRange
  have h1 : ¬ ((-1 : Int) > 0) := by decide
  have e : (List.range (n - 1 - k)).map (fun j => n - 1 - j) = ((List.range (n - 1 - k)).map fun j => k + 1 + j).reverse := by
    apply List.ext_getElem
    · simp
    · intro i h1 h2
      rw [List.getElem_map, List.getElem_reverse]
      simp at h1
      simp
      omega
  by_cases c : (n : Int) - 1 > (k : Int)
  · have e2 : ((n : Int) - 1 - (k : Int) - -1 - 1) / (- -1) = ((n - 1 - k : Nat) : Int) := by
      rw [show (- -1 : Int) = 1 by decide, Int.ediv_one]
      omega
    simp only [h1, if_false, c, if_true, e2, Int.toNat_natCast]
    rw [← e]
    apply List.map_congr_left
    intro j hj
    have := List.mem_range.mp hj
    omega
  · have e3 : n - 1 - k = 0 := by omega
    simp only [h1, if_false, c, e3]
    rfl
theorem pick_to {items : Array Value} {k : Nat} (h : k < items.size) : slicePick items none (some (k : Int)) (some (-1)) = (items.toList.drop (k + 1)).reverse.toArray := by
  unfold slicePick
  rw [bounds_to h]
  show ((sliceRange ((items.size : Int) - 1) (k : Int) (-1)).filterMap (items[·]?)).toArray = _
  rw [range_to h, List.filterMap_reverse]
  congr 2
  have := pick_run items (k + 1) (items.size - 1 - k)
  rw [this, List.take_of_length_le (by rw [List.length_drop, Array.length_toList]; omega)]
def tRevTo (K : PySem.W.Frag) (te th : TE) : TE := fun σ H Q => te σ H fun x H1 => tPart th σ H1 fun o H2 => ∃ (a : Addr) (xs : List V) (k : Nat), x = .ref a ∧ o = some (k : Int) ∧ SqL K H2 a xs ∧ k < xs.length ∧ ∀ p, H2 p = none → Q (.ref p) (upd H2 p (.lst (xs.drop (k + 1)).reverse))
section
variable {X : Cx}
theorem pe_revTo {e f : Expr} {te th : TE} {k : Nat} {p1 p2 p3 pos : Pos} (he : PE X e te) (hf : PE X f th) : PE X (.Subscript e (.Slice none (some f) (some (.UnaryOp .USub (.Constant (.int 1) k p1) p2)) p3) pos) (tRevTo X.K te th) := by
  refine ⟨fun pins s σ H Q I h => ?_⟩
  refine Subscript_ (thn (he.run pins s σ H _ I h) fun v s1 ⟨x, H1, I1, r1, q1⟩ => ?_)
  have hst : PO X (some (.UnaryOp .USub (.Constant (.int 1) k p1) p2)) (tPart (tUn (rU fun i => .int (-i)) (tC (.int 1)))) := po_some (pe_un un_neg pe_int)
  have hup : PO X (some f) (tPart th) := po_some hf
  refine wpAny_Slice (thn (po_none.run pins s1 σ H1 (fun o H2 => o = none ∧ H2 = H1) I1 ⟨rfl, rfl⟩) fun vl s2 ⟨l, H2, I2, pl, el, e2⟩ => ?_)
  subst el e2
  refine thn (hup.run pins s2 σ H2 _ I2 q1) fun vu s3 ⟨u, H3, I3, pu, a, xs, kk, ex, eu, hx, hk, q⟩ => ?_
  subst ex eu
  cases r1
  refine thn (hst.run pins s3 σ H3 (fun o H4 => o = some (-1) ∧ H4 = H3) I3 ⟨1, rfl, -1, rfl, rfl, rfl⟩) fun vs s4 ⟨o, H4, I4, ps, eo, e4⟩ => ?_
  subst eo e4
  have I5 : Inv X pins σ H4 { s4 with heap := s4.heap.push { cls := .type "slice", data := .fields #[vl, vu, vs] } } := I4.kept (t' := s4.toks) fun b ob q => Heap.get?_push_of_some _ q
  obtain ⟨its, r, ht, hz⟩ := I5.list hx
  have hlen := r.length
  show wpAny (model X.prog X.w) X.A (subscriptTail e (.Slice none (some f) (some (.UnaryOp .USub (.Constant (.int 1) k p1) p2)) p3) (.ref a) (.ref s4.heap.objs.size)) (EP X pins σ Q) X.xe { s4 with heap := s4.heap.push { cls := .type "slice", data := .fields #[vl, vu, vs] } }
  refine tail_any (ops := [.ref a, .ref s4.heap.objs.size]) ht.isList.typeIs (PySem.slot_list_getitem.lookup) ?_ (by with_unfolding_all rfl)
  refine wpAny_getItem_list_slice ht.isList (Heap.IsSliceOf.new _ vl vu vs) pl pu ps (by decide) ?_ (by rw [List.size_toArray]; omega)
  rw [pick_to (by rw [List.size_toArray]; omega)]
  refine ⟨.ref _, _, I5.laid (t' := s4.toks) (o := .lst (xs.drop (kk + 1)).reverse) (fun b ob q => Heap.get?_push_of_some _ q) (Nat.le_refl _) ?_, rfl, q _ (I5.hok.fresh (Nat.le_refl _))⟩
  refine ⟨by rw [List.length_reverse, List.length_drop]; omega, _, 0, ?_, Heap.get?_push_size _ rfl⟩
  exact (r.drop (kk + 1)).reverse
end
end L2
namespace Ovc
open PySem PySem.Spec PyProof.Rows L2
/-! ### labels: the places that no least road passes a higher one than -/
def hiP (D : Int → Int → Option Int) (n : Int) (os : List Int) (v x : Int) : Prop := ∀ y a b, 0 ≤ y → y < n → posOf x os < posOf y os → D v y = some a → D y x = some b → D v x ≠ some (a + b)
open Classical in
noncomputable def ent (D : Int → Int → Option Int) (n : Int) (os : List Int) (v x : Int) : Option (Int × Int) := match D v x with
  | some d => if hiP D n os v x then some (x, d) else none
  | none => none
noncomputable def labF (D : Int → Int → Option Int) (n : Int) (os : List Int) (v : Int) : List (Int × Int) := (rng n).filterMap (ent D n os v)
theorem ent_some {D : Int → Int → Option Int} {n : Int} {os : List Int} {v x y a : Int} : ent D n os v x = some (y, a) ↔ y = x ∧ D v x = some a ∧ hiP D n os v x := by
  unfold ent
  cases e : D v x with
  | none => exact ⟨fun h => (nomatch h), fun h => by cases h.2.1⟩
  | some d =>
    dsimp only
    by_cases c : hiP D n os v x
    · rw [if_pos c]
      constructor
      · intro h
        cases h
        exact ⟨rfl, rfl, c⟩
      · rintro ⟨rfl, h, _⟩
        cases h
        rfl
    · rw [if_neg c]
      exact ⟨fun h => (nomatch h), fun h => absurd h.2.2 c⟩
theorem mem_ents {D : Int → Int → Option Int} {n : Int} {os ys : List Int} {v y a : Int} : (y, a) ∈ ys.filterMap (ent D n os v) ↔ y ∈ ys ∧ D v y = some a ∧ hiP D n os v y := by
  rw [List.mem_filterMap]
  constructor
  · rintro ⟨x, hx, h⟩
    obtain ⟨rfl, h1, h2⟩ := ent_some.mp h
    exact ⟨hx, h1, h2⟩
  · rintro ⟨hx, h1, h2⟩
    exact ⟨y, hx, ent_some.mpr ⟨rfl, h1, h2⟩⟩
theorem mem_comS {F B : List (Int × Int)} {s : Int} : s ∈ comS F B ↔ ∃ x a b, (x, a) ∈ F ∧ (x, b) ∈ B ∧ s = a + b := by
  unfold comS
  rw [List.mem_flatMap]
  constructor
  · rintro ⟨⟨x, a⟩, hp, h⟩
    obtain ⟨⟨y, b⟩, hq, rfl⟩ := List.mem_map.mp h
    obtain ⟨hq, e⟩ := List.mem_filter.mp hq
    have e := of_decide_eq_true e
    have e : x = y := e
    subst e
    exact ⟨x, a, b, hp, hq, rfl⟩
  · rintro ⟨x, a, b, hp, hq, rfl⟩
    exact ⟨(x, a), hp, List.mem_map.mpr ⟨(x, b), List.mem_filter.mpr ⟨hq, decide_eq_true rfl⟩, rfl⟩⟩
theorem minO_some {xs : List Int} {m : Int} (h : minO xs = some m) : m ∈ xs ∧ ∀ x ∈ xs, m ≤ x := by
  cases xs with
  | nil => cases h
  | cons x r =>
    cases h
    obtain ⟨h1, h2⟩ := L2.foldl_min_le r x
    have h4 : ∀ (r : List Int) (x : Int), r.foldl min x ∈ x :: r := by
      intro r
      induction r with
      | nil => exact fun x => List.mem_cons_self
      | cons y r ih =>
        intro x
        rw [List.foldl_cons]
        have := ih (min x y)
        rcases List.mem_cons.mp this with e | e
        · rw [e]
          by_cases c : x ≤ y
          · rw [show min x y = x by omega]
            exact List.mem_cons_self
          · rw [show min x y = y by omega]
            exact List.mem_cons_of_mem _ List.mem_cons_self
        · exact List.mem_cons_of_mem _ (List.mem_cons_of_mem _ e)
    exact ⟨h4 r x, fun y hy => by
      rcases List.mem_cons.mp hy with e | e
      · rw [e]
        exact h1
      · exact h2 y e⟩
def labStep (u : Int → Option Int) (L : Int → List (Int × Int)) (acc : List (Int × Int)) (x : Int) : List (Int × Int) := match u x with
  | none => acc
  | some p => match labMin acc (L x) with
    | none => acc ++ [(x, p)]
    | some k => if p < k then acc ++ [(x, p)] else acc
/-- distances D, those the other way D', sums upward U -/
structure LabOk (D D' U : Int → Int → Option Int) (n : Int) (os : List Int) : Prop where
  tri : ∀ x y z a b, (0 ≤ x ∧ x < n) → (0 ≤ y ∧ y < n) → (0 ≤ z ∧ z < n) → D x y = some a → D y z = some b → ∃ c, c ≤ a + b ∧ D x z = some c
  up : ∀ v x p, (0 ≤ v ∧ v < n) → (0 ≤ x ∧ x < n) → U v x = some p → ∃ c, c ≤ p ∧ D v x = some c
  top : ∀ v x c, (0 ≤ v ∧ v < n) → (0 ≤ x ∧ x < n) → D v x = some c → ∃ m a b, (0 ≤ m ∧ m < n) ∧ (m = x ∨ posOf x os < posOf m os) ∧ U v m = some a ∧ D m x = some b ∧ a + b ≤ c
  self : ∀ v, (0 ≤ v ∧ v < n) → D v v = some 0
  pos : ∀ x y a, (0 ≤ x ∧ x < n) → (0 ≤ y ∧ y < n) → x ≠ y → D x y = some a → 1 ≤ a
  tr : ∀ x y, D' x y = D y x
section
variable {D D' U : Int → Int → Option Int} {n : Int} {os : List Int}
theorem LabOk.nonneg (h : LabOk D D' U n os) {x y a : Int} (hx : 0 ≤ x ∧ x < n) (hy : 0 ≤ y ∧ y < n) (e : D x y = some a) : 0 ≤ a := by
  by_cases c : x = y
  · subst c
    rw [h.self x hx] at e
    cases e
    exact Int.le_refl _
  · have := h.pos x y a hx hy c e
    omega
theorem lab_step (h : LabOk D D' U n os) {v x : Int} (hv : 0 ≤ v ∧ v < n) (hx : 0 ≤ x ∧ x < n) {ys : List Int} (hys : ∀ y, y ∈ ys ↔ (0 ≤ y ∧ y < n) ∧ posOf x os < posOf y os) :
    labStep (U v) (labF D' n os) (ys.filterMap (ent D n os v)) x = (ys ++ [x]).filterMap (ent D n os v) := by
  rw [List.filterMap_append]
  have e1 : [x].filterMap (ent D n os v) = (ent D n os v x).toList := by
    rw [List.filterMap_cons, List.filterMap_nil]
    cases ent D n os v x <;> rfl
  rw [e1]
  cases eD : D v x with
  | none =>
    have eU : U v x = none := by
      cases e : U v x with
      | none => rfl
      | some p =>
        obtain ⟨c, _, e2⟩ := h.up v x p hv hx e
        rw [eD] at e2
        cases e2
    have eE : ent D n os v x = none := by
      unfold ent
      rw [eD]
    unfold labStep
    rw [eU, eE]
    simp
  | some c =>
    -- what stands in both labels
    have both : ∀ s, s ∈ comS (ys.filterMap (ent D n os v)) (labF D' n os x) → ∃ y a b, (0 ≤ y ∧ y < n) ∧ posOf x os < posOf y os ∧ D v y = some a ∧ D y x = some b ∧ s = a + b := fun s hs => by
      obtain ⟨y, a, b, h1, h2, rfl⟩ := mem_comS.mp hs
      obtain ⟨g1, g2, _⟩ := mem_ents.mp h1
      obtain ⟨_, g3, _⟩ := mem_ents.mp h2
      rw [h.tr] at g3
      obtain ⟨g4, g5⟩ := (hys y).mp g1
      exact ⟨y, a, b, g4, g5, g2, g3, rfl⟩
    by_cases hi : hiP D n os v x
    · have eE : ent D n os v x = some (x, c) := ent_some.mpr ⟨rfl, eD, hi⟩
      -- the sum upward is the distance
      have eU : U v x = some c := by
        obtain ⟨m, a, b, hm, hmx, ha, hb, le⟩ := h.top v x c hv hx eD
        obtain ⟨a', la, ea⟩ := h.up v m a hv hm ha
        obtain ⟨c', lc, ec⟩ := h.tri v m x a' b hv hm hx ea hb
        rw [eD] at ec
        cases ec
        rcases hmx with rfl | hmx
        · have := h.nonneg hm hx hb
          rw [ha]
          congr 1
          rw [eD] at ea
          cases ea
          omega
        · exact absurd (show D v x = some (a' + b) by rw [eD]; congr 1; omega) (hi m a' b hm.1 hm.2 hmx ea hb)
      unfold labStep
      rw [eU, eE]
      dsimp only
      cases eM : labMin (ys.filterMap (ent D n os v)) (labF D' n os x) with
      | none => rfl
      | some k =>
        dsimp only
        rw [if_pos]
        · rfl
        · obtain ⟨y, a, b, hy, hxy, ha, hb, rfl⟩ := both k (minO_some eM).1
          obtain ⟨c', lc, ec⟩ := h.tri v y x a b hv hy hx ha hb
          rw [eD] at ec
          cases ec
          have := hi y a b hy.1 hy.2 hxy ha hb
          rw [eD] at this
          have ne : c ≠ a + b := fun e => this (by rw [e])
          omega
    · have eE : ent D n os v x = none := by
        cases e : ent D n os v x with
        | none => rfl
        | some p =>
          obtain ⟨y, a⟩ := p
          exact absurd (ent_some.mp e).2.2 hi
      rw [eE]
      -- the highest place on a least way
      classical
      let cand : Int → Prop := fun y => posOf x os < posOf y os ∧ ∃ a b, D v y = some a ∧ D y x = some b ∧ c = a + b
      have ex : ∃ y, y ∈ rng n ∧ cand y := by
        refine Classical.byContradiction fun no => hi fun y a b h0 h1 hl ha hb e => no ⟨y, mem_rng.mpr ⟨h0, h1⟩, hl, a, b, ha, hb, ?_⟩
        rw [eD] at e
        cases e
        rfl
      obtain ⟨y0, hy0, hc0⟩ := ex
      obtain ⟨y, hy, htop⟩ := top_of (fun z => posOf z os) ((rng n).filter fun z => decide (cand z)) (List.ne_nil_of_mem (List.mem_filter.mpr ⟨hy0, decide_eq_true hc0⟩))
      obtain ⟨hyr, hcy⟩ := List.mem_filter.mp hy
      obtain ⟨hl, a, b, ha, hb, rfl⟩ := of_decide_eq_true hcy
      have hyn := mem_rng.mp hyr
      have above : ∀ z a2 b2, 0 ≤ z → z < n → posOf y os < posOf z os → D v z = some a2 → D z x = some b2 → a2 + b2 ≤ a + b → False := fun z a2 b2 z0 z1 hz e1 e2 le => by
        obtain ⟨c', lc, ec⟩ := h.tri v z x a2 b2 hv ⟨z0, z1⟩ hx e1 e2
        rw [eD] at ec
        cases ec
        have := htop z (List.mem_filter.mpr ⟨mem_rng.mpr ⟨z0, z1⟩, decide_eq_true ⟨by omega, a2, b2, e1, e2, by omega⟩⟩)
        omega
      have h1 : hiP D n os v y := fun z a2 b2 z0 z1 hz e1 e2 e3 => by
        rw [ha] at e3
        cases e3
        obtain ⟨c', lc, ec⟩ := h.tri z y x b2 b ⟨z0, z1⟩ hyn hx e2 hb
        exact above z a2 c' z0 z1 hz e1 ec (by omega)
      have h2 : hiP D' n os x y := fun z a2 b2 z0 z1 hz e1 e2 e3 => by
        rw [h.tr] at e1 e2 e3
        rw [hb] at e3
        cases e3
        obtain ⟨c', lc, ec⟩ := h.tri v y z a b2 hv hyn ⟨z0, z1⟩ ha e2
        exact above z c' a2 z0 z1 hz ec e1 (by omega)
      have hm : a + b ∈ comS (ys.filterMap (ent D n os v)) (labF D' n os x) := mem_comS.mpr ⟨y, a, b, mem_ents.mpr ⟨(hys y).mpr ⟨hyn, hl⟩, ha, h1⟩, mem_ents.mpr ⟨hyr, by rw [h.tr]; exact hb, h2⟩, rfl⟩
      unfold labStep
      cases eU : U v x with
      | none => simp
      | some p =>
        dsimp only
        obtain ⟨c', lc, ec⟩ := h.up v x p hv hx eU
        rw [eD] at ec
        cases ec
        cases eM : labMin (ys.filterMap (ent D n os v)) (labF D' n os x) with
        | none =>
          have := minO_none.mp eM
          rw [this] at hm
          cases hm
        | some k =>
          have := (minO_some eM).2 _ hm
          dsimp only
          rw [if_neg (by omega)]
          simp
/-- entries of lower places: none; of the place itself: 0 -/
theorem ent_low (h : LabOk D D' U n os) {v x : Int} (hv : 0 ≤ v ∧ v < n) (hl : posOf x os < posOf v os) : ent D n os v x = none := by
  cases e : ent D n os v x with
  | none => rfl
  | some p =>
    obtain ⟨y, a⟩ := p
    obtain ⟨rfl, h1, h2⟩ := ent_some.mp e
    exact absurd (show D v y = some (0 + a) by rw [h1, Int.zero_add]) (h2 v 0 a hv.1 hv.2 hl (h.self v hv) h1)
theorem ent_self (h : LabOk D D' U n os) {v : Int} (hv : 0 ≤ v ∧ v < n) : ent D n os v v = some (v, 0) := by
  refine ent_some.mpr ⟨rfl, h.self v hv, fun y a b h0 h1 hl ha hb e => ?_⟩
  have ne : v ≠ y := fun z => by
    rw [z] at hl
    omega
  have p1 := h.pos v y a hv ⟨h0, h1⟩ ne ha
  have p2 := h.nonneg ⟨h0, h1⟩ hv hb
  rw [h.self v hv] at e
  injection e with e
  omega
end
/-! ### the distances of a net keep this -/
section
variable {N : Net} {os : List Int} {rows : List Row}
theorem dst_tri (ok : NetOk N) {x y z a b : Int} (hx : 0 ≤ x ∧ x < N.n) (hy : 0 ≤ y ∧ y < N.n) (h1 : dstN N x y = some a) (h2 : dstN N y z = some b) : ∃ c, c ≤ a + b ∧ dstN N x z = some c := by
  obtain ⟨l1, w1⟩ := (dstN_dist ok hx y).1 a h1
  obtain ⟨l2, w2⟩ := (dstN_dist ok hy z).1 b h2
  obtain ⟨l, w⟩ := w1.append (ext := tru) (fun _ _ => trivial) (fun _ _ => trivial) w2
  exact (dstN_dist ok hx z).2 _ ⟨l, w⟩
theorem dst_self (ok : NetOk N) {v : Int} (hv : 0 ≤ v ∧ v < N.n) : dstN N v v = some 0 := by
  obtain ⟨d, hd, e⟩ := (dstN_dist ok hv v).2 0 ⟨[], .one⟩
  obtain ⟨l, w⟩ := (dstN_dist ok hv v).1 d e
  have := w.nonneg (pos_net ok)
  rw [e]
  congr 1
  omega
theorem dst_pos (ok : NetOk N) {x y a : Int} (hx : 0 ≤ x ∧ x < N.n) (ne : x ≠ y) (h : dstN N x y = some a) : 1 ≤ a := by
  obtain ⟨l, w⟩ := (dstN_dist ok hx y).1 a h
  cases w with
  | one => exact absurd rfl ne
  | step w1 _ hp =>
    have := w1.nonneg (pos_net ok)
    have := link_pos ok hp
    omega
theorem labOk_fwd (ok : NetOk N) (oo : OrdOk N.n os) (hF : FillOk N os rows) : LabOk (dstN N) (fun x y => dstN N y x) (fun v x => (sumsF (·.up) v rows x).1) N.n os where
  tri := fun x y z a b hx hy _ h1 h2 => dst_tri ok hx hy h1 h2
  up := fun v x p hv _ e => by
    obtain ⟨l, w⟩ := upW_way ok oo hF ((sums_least ok oo (fill_up ok oo hF) v x).1 p e)
    exact (dstN_dist ok hv x).2 p ⟨l, w⟩
  top := fun v x c hv hx e => by
    obtain ⟨l, w⟩ := (dstN_dist ok hv x).1 c e
    obtain ⟨m, d1, d2, hm, hd, u1, u2⟩ := road_top ok oo hF (oo.mem.mpr hv) w
    obtain ⟨g1, l1, e1⟩ := (sums_least ok oo (fill_up ok oo hF) v m).2 d1 u1
    obtain ⟨l2, w2⟩ := dnW_way ok oo hF u2
    obtain ⟨g2, l3, e2⟩ := (dstN_dist ok (oo.mem.mp hm) x).2 d2 ⟨l2, w2⟩
    exact ⟨m, g1, g2, oo.mem.mp hm, u2.le, e1, e2, by omega⟩
  self := fun v hv => dst_self ok hv
  pos := fun x y a hx _ ne e => dst_pos ok hx ne e
  tr := fun _ _ => rfl
theorem labOk_bwd (ok : NetOk N) (oo : OrdOk N.n os) (hF : FillOk N os rows) : LabOk (fun x y => dstN N y x) (dstN N) (fun v x => (sumsF (·.dn) v rows x).1) N.n os where
  tri := fun x y z a b hx hy hz h1 h2 => by
    obtain ⟨c, hc, e⟩ := dst_tri ok hz hy h2 h1
    exact ⟨c, by omega, e⟩
  up := fun v x p hv hx e => by
    obtain ⟨l, w⟩ := dnW_way ok oo hF ((sums_least ok oo (fill_dn ok oo hF) v x).1 p e)
    exact (dstN_dist ok hx v).2 p ⟨l, w⟩
  top := fun v x c hv hx e => by
    obtain ⟨l, w⟩ := (dstN_dist ok hx v).1 c e
    obtain ⟨m, d1, d2, hm, hd, u1, u2⟩ := road_top ok oo hF (oo.mem.mpr hx) w
    obtain ⟨g1, l1, e1⟩ := (sums_least ok oo (fill_dn ok oo hF) v m).2 d2 u2
    obtain ⟨l2, w2⟩ := upW_way ok oo hF u1
    obtain ⟨g2, l3, e2⟩ := (dstN_dist ok hx m).2 d1 ⟨l2, w2⟩
    exact ⟨m, g1, g2, oo.mem.mp hm, u1.le, e1, e2, by omega⟩
  self := fun v hv => dst_self ok hv
  pos := fun x y a hx hy ne e => dst_pos ok hy ne.symm e
  tr := fun _ _ => rfl
end
/-! ### labels, place by place, the highest first -/
theorem mem_drop_pos {n : Int} {os : List Int} (oo : OrdOk n os) {j : Nat} {y : Int} : y ∈ os.drop j ↔ y ∈ os ∧ j ≤ posOf y os := by
  constructor
  · intro h
    obtain ⟨i, hi, e⟩ := List.getElem_of_mem h
    have e2 : os[j + i]? = some y := by
      rw [← List.getElem?_drop, List.getElem?_eq_getElem hi, e]
    have := posOf_get oo.nodup e2
    exact ⟨List.mem_of_mem_drop h, by omega⟩
  · rintro ⟨h, hj⟩
    have := posOf_lt h
    have e : (os.drop j)[posOf y os - j]? = some y := by
      rw [List.getElem?_drop]
      have e2 : j + (posOf y os - j) = posOf y os := by omega
      rw [e2]
      exact this
    exact List.mem_of_getElem? e
theorem ent_sorted {D : Int → Int → Option Int} {n : Int} {os : List Int} {v : Int} : ∀ {xs : List Int}, xs.Pairwise (· < ·) → (xs.filterMap (ent D n os v)).Pairwise fun p q => p.1 < q.1
  | [], _ => .nil
  | x :: xs, h => by
    obtain ⟨h1, h2⟩ := List.pairwise_cons.mp h
    have ih := ent_sorted (D := D) (n := n) (os := os) (v := v) h2
    rw [List.filterMap_cons]
    cases e : ent D n os v x with
    | none => exact ih
    | some p =>
      obtain ⟨y, a⟩ := p
      obtain ⟨rfl, _, _⟩ := ent_some.mp e
      refine List.pairwise_cons.mpr ⟨fun q hq => ?_, ih⟩
      obtain ⟨z, b⟩ := q
      exact h1 z (mem_ents.mp hq).1
theorem rng_sorted {n : Int} : (rng n).Pairwise (· < ·) := by
  unfold rng
  rw [List.pairwise_map]
  exact List.pairwise_lt_range.imp fun h => by omega
theorem labF_sorted {D : Int → Int → Option Int} {n : Int} {os : List Int} {v : Int} : (labF D n os v).Pairwise fun p q => p.1 < q.1 := ent_sorted rng_sorted
theorem labF_nodup {D : Int → Int → Option Int} {n : Int} {os : List Int} {v : Int} : ((labF D n os v).map Prod.fst).Nodup := by
  unfold List.Nodup
  rw [List.pairwise_map]
  exact labF_sorted.imp fun h => by omega
theorem labF_len {D : Int → Int → Option Int} {n : Int} {os : List Int} {v : Int} : (labF D n os v).length ≤ n.toNat := by
  unfold labF
  have := List.length_filterMap_le (ent D n os v) (rng n)
  rw [len_rng] at this
  exact this
section
variable {D D' U : Int → Int → Option Int} {n : Int} {os : List Int}
theorem lab_fold (h : LabOk D D' U n os) (oo : OrdOk n os) {r : Nat} {v : Int} (hr : os[r]? = some v) :
    ((os.drop (r + 1)).reverse).foldl (labStep (U v) (labF D' n os)) [] = ((os.drop (r + 1)).reverse).filterMap (ent D n os v) := by
  have hl := (List.getElem?_eq_some_iff.mp hr).1
  have hv := oo.mem.mp (List.mem_of_getElem? hr)
  have pv := posOf_get oo.nodup hr
  have key : ∀ k, k ≤ os.length - (r + 1) → ((os.drop (os.length - k)).reverse).foldl (labStep (U v) (labF D' n os)) [] = ((os.drop (os.length - k)).reverse).filterMap (ent D n os v) := by
    intro k
    induction k with
    | zero =>
      intro _
      rw [Nat.sub_zero, List.drop_length]
      rfl
    | succ k ih =>
      intro hk
      have hj : os.length - (k + 1) < os.length := by omega
      have ed : os.drop (os.length - (k + 1)) = os[os.length - (k + 1)] :: os.drop (os.length - k) := by
        rw [List.drop_eq_getElem_cons hj]
        congr 2
        omega
      have hx : os[os.length - (k + 1)]? = some os[os.length - (k + 1)] := List.getElem?_eq_getElem hj
      rw [ed, List.reverse_cons, List.foldl_append, ih (by omega)]
      generalize os[os.length - (k + 1)] = x at hx
      have px := posOf_get oo.nodup hx
      exact lab_step h hv (oo.mem.mp (List.mem_of_getElem? hx)) fun y => by
        rw [List.mem_reverse, mem_drop_pos oo, oo.mem]
        constructor
        · rintro ⟨h1, h2⟩
          exact ⟨h1, by omega⟩
        · rintro ⟨h1, h2⟩
          exact ⟨h1, by omega⟩
  have := key (os.length - (r + 1)) (Nat.le_refl _)
  rw [show os.length - (os.length - (r + 1)) = r + 1 by omega] at this
  exact this
theorem lab_perm (h : LabOk D D' U n os) (oo : OrdOk n os) {r : Nat} {v : Int} (hr : os[r]? = some v) :
    (((os.drop (r + 1)).reverse).foldl (labStep (U v) (labF D' n os)) [] ++ [(v, 0)]).Perm (labF D n os v) := by
  have hl := (List.getElem?_eq_some_iff.mp hr).1
  have hv := oo.mem.mp (List.mem_of_getElem? hr)
  have pv := posOf_get oo.nodup hr
  rw [lab_fold h oo hr]
  have e1 : [(v, 0)] = [v].filterMap (ent D n os v) := by
    rw [List.filterMap_cons, ent_self h hv]
    rfl
  rw [e1, ← List.filterMap_append]
  have e2 : (os.drop (r + 1)).reverse ++ [v] = (os.drop r).reverse := by
    rw [List.drop_eq_getElem_cons hl, List.reverse_cons]
    rw [(List.getElem?_eq_some_iff.mp hr).2]
  rw [e2]
  refine ((List.reverse_perm _).filterMap _).trans ?_
  have gen : ∀ g : Int → Option (Int × Int), (os.take r).filterMap g = [] → os.filterMap g = (os.drop r).filterMap g := fun g hg => by
    conv => lhs; rw [← List.take_append_drop r os]
    rw [List.filterMap_append, hg, List.nil_append]
  have e3 : os.filterMap (ent D n os v) = (os.drop r).filterMap (ent D n os v) := by
    have : (os.take r).filterMap (ent D n os v) = [] := by
      rw [List.filterMap_eq_nil_iff]
      intro x hx
      refine ent_low h hv ?_
      obtain ⟨i, hi, e⟩ := List.getElem_of_mem hx
      rw [List.length_take] at hi
      have e4 : os[i]? = some x := by
        rw [← e, List.getElem_take]
        exact List.getElem?_eq_getElem (by omega)
      have := posOf_get oo.nodup e4
      omega
    exact gen _ this
  rw [← e3]
  exact List.Perm.filterMap _ oo
end
/-! ### answers by labels; each entry is needed -/
section
variable {D D' U U' : Int → Int → Option Int} {n : Int} {os : List Int}
theorem lab_top (h : LabOk D D' U n os) {v x c : Int} (hv : 0 ≤ v ∧ v < n) (hx : 0 ≤ x ∧ x < n) (eD : D v x = some c) : ∃ y a b, (0 ≤ y ∧ y < n) ∧ D v y = some a ∧ D y x = some b ∧ c = a + b ∧ hiP D n os v y ∧ hiP D' n os x y := by
  classical
  let cand : Int → Prop := fun y => ∃ a b, D v y = some a ∧ D y x = some b ∧ c = a + b
  have hc0 : cand v := ⟨0, c, h.self v hv, eD, by omega⟩
  obtain ⟨y, hy, htop⟩ := top_of (fun z => posOf z os) ((rng n).filter fun z => decide (cand z)) (List.ne_nil_of_mem (List.mem_filter.mpr ⟨mem_rng.mpr hv, decide_eq_true hc0⟩))
  obtain ⟨hyr, hcy⟩ := List.mem_filter.mp hy
  obtain ⟨a, b, ha, hb, rfl⟩ := of_decide_eq_true hcy
  have hyn := mem_rng.mp hyr
  have above : ∀ z a2 b2, 0 ≤ z → z < n → posOf y os < posOf z os → D v z = some a2 → D z x = some b2 → a2 + b2 ≤ a + b → False := fun z a2 b2 z0 z1 hz e1 e2 le => by
    obtain ⟨c', lc, ec⟩ := h.tri v z x a2 b2 hv ⟨z0, z1⟩ hx e1 e2
    rw [eD] at ec
    cases ec
    have := htop z (List.mem_filter.mpr ⟨mem_rng.mpr ⟨z0, z1⟩, decide_eq_true ⟨a2, b2, e1, e2, by omega⟩⟩)
    omega
  refine ⟨y, a, b, hyn, ha, hb, rfl, fun z a2 b2 z0 z1 hz e1 e2 e3 => ?_, fun z a2 b2 z0 z1 hz e1 e2 e3 => ?_⟩
  · rw [ha] at e3
    cases e3
    obtain ⟨c', lc, ec⟩ := h.tri z y x b2 b ⟨z0, z1⟩ hyn hx e2 hb
    exact above z a2 c' z0 z1 hz e1 ec (by omega)
  · rw [h.tr] at e1 e2 e3
    rw [hb] at e3
    cases e3
    obtain ⟨c', lc, ec⟩ := h.tri v y z a b2 hv hyn ⟨z0, z1⟩ ha e2
    exact above z c' a2 z0 z1 hz ec e1 (by omega)
theorem mem_labF {v y a : Int} : (y, a) ∈ labF D n os v ↔ (0 ≤ y ∧ y < n) ∧ D v y = some a ∧ hiP D n os v y := by
  unfold labF
  rw [mem_ents, mem_rng]
theorem lab_ans (h : LabOk D D' U n os) {v x : Int} (hv : 0 ≤ v ∧ v < n) (hx : 0 ≤ x ∧ x < n) : labMin (labF D n os v) (labF D' n os x) = D v x := by
  have all : ∀ s ∈ comS (labF D n os v) (labF D' n os x), ∃ c, c ≤ s ∧ D v x = some c := fun s hs => by
    obtain ⟨y, a, b, h1, h2, rfl⟩ := mem_comS.mp hs
    obtain ⟨hy, ha, _⟩ := mem_labF.mp h1
    obtain ⟨_, hb, _⟩ := mem_labF.mp h2
    rw [h.tr] at hb
    exact h.tri v y x a b hv hy hx ha hb
  cases e : D v x with
  | none =>
    have : comS (labF D n os v) (labF D' n os x) = [] := by
      cases e2 : comS (labF D n os v) (labF D' n os x) with
      | nil => rfl
      | cons s r =>
        obtain ⟨c, _, e3⟩ := all s (by rw [e2]; exact List.mem_cons_self)
        rw [e] at e3
        cases e3
    unfold labMin
    rw [this]
    rfl
  | some c =>
    obtain ⟨y, a, b, hy, ha, hb, rfl, h1, h2⟩ := lab_top h hv hx e
    refine minO_of (mem_comS.mpr ⟨y, a, b, mem_labF.mpr ⟨hy, ha, h1⟩, mem_labF.mpr ⟨hy, by rw [h.tr]; exact hb, h2⟩, rfl⟩) fun s hs => ?_
    obtain ⟨c', hc, e2⟩ := all s hs
    rw [e] at e2
    cases e2
    exact hc
theorem lab_pos (h : LabOk D D' U n os) {v x a : Int} (hv : 0 ≤ v ∧ v < n) (hm : (x, a) ∈ labF D n os v) : posOf v os ≤ posOf x os := by
  obtain ⟨hx, ha, hi⟩ := mem_labF.mp hm
  by_cases c : posOf x os < posOf v os
  · have := ent_low h hv c
    rw [ent_some.mpr ⟨rfl, ha, hi⟩] at this
    cases this
  · omega
/-- without the entry the sum isn't found -/
theorem lab_need (h : LabOk D D' U n os) (h' : LabOk D' D U' n os) (oo : OrdOk n os) {v x d : Int} {k : Nat} (hv : 0 ≤ v ∧ v < n) (hk : (labF D n os v)[k]? = some (x, d)) : d ∉ comS ((labF D n os v).take k ++ (labF D n os v).drop (k + 1)) (labF D' n os x) := fun hs => by
  have hm := List.mem_of_getElem? hk
  obtain ⟨hx, hd, hi⟩ := mem_labF.mp hm
  obtain ⟨y, a, b, h1, h2, e⟩ := mem_comS.mp hs
  have nd := labF_nodup (D := D) (n := n) (os := os) (v := v)
  have kl := (List.getElem?_eq_some_iff.mp hk).1
  have split : labF D n os v = (labF D n os v).take k ++ (x, d) :: (labF D n os v).drop (k + 1) := by
    conv => lhs; rw [← List.take_append_drop k (labF D n os v)]
    congr 1
    rw [List.drop_eq_getElem_cons kl]
    congr 1
    exact (List.getElem?_eq_some_iff.mp hk).2
  have hmem : (y, a) ∈ labF D n os v := by
    rcases List.mem_append.mp h1 with g | g
    · exact List.mem_of_mem_take g
    · exact List.mem_of_mem_drop g
  have ne : y ≠ x := fun z => by
    subst z
    rw [split, List.map_append, List.map_cons] at nd
    have nd2 := List.nodup_append.mp nd
    rcases List.mem_append.mp h1 with g | g
    · exact nd2.2.2 y (List.mem_map.mpr ⟨_, g, rfl⟩) y List.mem_cons_self rfl
    · exact (List.nodup_cons.mp nd2.2.1).1 (List.mem_map.mpr ⟨_, g, rfl⟩)
  obtain ⟨hy, ha, _⟩ := mem_labF.mp hmem
  have px := lab_pos h' hx h2
  obtain ⟨_, hb, _⟩ := mem_labF.mp h2
  rw [h.tr] at hb
  have ne2 : posOf y os ≠ posOf x os := fun z => ne (pos_inj (oo.mem.mpr hy) (oo.mem.mpr hx) z)
  exact hi y a b hy.1 hy.2 (by omega) ha hb (by rw [hd, e])
end
theorem labMin_ne {F B : List (Int × Int)} {d : Int} (h : d ∉ comS F B) : decide (oV (labMin F B) = V.int d) = false := by
  cases e : labMin F B with
  | none => rfl
  | some m =>
    refine decide_eq_false fun z => h ?_
    cases z
    exact (minO_some e).1
/-! ### a label of a place -/
theorem labStep_len {u : Int → Option Int} {Lb : Int → List (Int × Int)} : ∀ (hs : List Int) (acc : List (Int × Int)), (hs.foldl (labStep u Lb) acc).length ≤ acc.length + hs.length
  | [], acc => Nat.le_refl _
  | x :: hs, acc => by
    rw [List.foldl_cons]
    have h1 := labStep_len (u := u) (Lb := Lb) hs (labStep u Lb acc x)
    have h2 : (labStep u Lb acc x).length ≤ acc.length + 1 := by
      unfold labStep
      cases u x with
      | none => exact Nat.le_succ _
      | some p =>
        dsimp only
        cases labMin acc (Lb x) with
        | none => rw [List.length_append]; exact Nat.le_refl _
        | some k =>
          dsimp only
          split
          · rw [List.length_append]; exact Nat.le_refl _
          · exact Nat.le_succ _
    rw [List.length_cons]
    omega
def kPr (H : Hp) (v : V) : Int × Int := match v with
  | .ref t => match H t with
    | some (.tup [.int a, .int b]) => (a, b)
    | _ => (0, 0)
  | _ => (0, 0)
theorem kPr_at {H : Hp} {t : Addr} {a b : Int} (h : H t = some (.tup [.int a, .int b])) : kPr H (.ref t) = (a, b) := by
  show (match H t with | some (.tup [.int a, .int b]) => (a, b) | _ => (0, 0)) = (a, b)
  rw [h]
theorem TupsAt.kmap {H : Hp} {ts : List V} {L : List (Int × Int)} (h : TupsAt H ts L) : ts.map (kPr H) = L := by
  apply List.ext_getElem?
  intro i
  rw [List.getElem?_map]
  by_cases hi : i < L.length
  · obtain ⟨t, h1, h2⟩ := h.at_ i L[i].1 L[i].2 (List.getElem?_eq_getElem hi)
    rw [h1, List.getElem?_eq_getElem hi]
    show some (kPr H (.ref t)) = _
    rw [kPr_at h2]
  · rw [List.getElem?_eq_none (by rw [h.len]; omega), List.getElem?_eq_none (by omega)]
    rfl
theorem TupsAt.mem {H : Hp} {ts : List V} {L : List (Int × Int)} (h : TupsAt H ts L) {x : V} (hx : x ∈ ts) : ∃ t a b, x = .ref t ∧ H t = some (.tup [.int a, .int b]) := by
  obtain ⟨i, hi, rfl⟩ := List.getElem_of_mem hx
  have hl : i < L.length := by rw [← h.len]; exact hi
  obtain ⟨t, h1, h2⟩ := h.at_ i L[i].1 L[i].2 (List.getElem?_eq_getElem hl)
  rw [List.getElem?_eq_getElem hi] at h1
  exact ⟨t, _, _, Option.some.inj h1, h2⟩
/-- what is sorted by the first of each pair is the only such list -/
theorem tups_sorted {H : Hp} {xs ys : List V} {L0 L : List (Int × Int)} (hT : TupsAt H xs L0) (hp : L0.Perm L) (hs : L.Pairwise fun p q => p.1 < q.1) (h1 : SrtO.Srtd (ltP (kPr H)) ys) (h2 : SrtO.Stb (ltP (kPr H)) ys xs) : TupsAt H ys L := by
  have pm : (ys.map (kPr H)).Perm L := by
    have := h2.perm.map (kPr H)
    rw [hT.kmap] at this
    exact this.trans hp
  have s1 : (ys.map (kPr H)).Pairwise (fun p q => SrtO.lexB q p = false) := by
    rw [List.pairwise_map]
    exact h1
  have s2 : L.Pairwise (fun p q => SrtO.lexB q p = false) := hs.imp fun {p q} h => by
    cases e : SrtO.lexB q p with
    | false => rfl
    | true =>
      rcases SrtO.lexB_iff.mp e with h3 | ⟨h3, _⟩ <;> omega
  have anti : ∀ p q : Int × Int, SrtO.lexB q p = false → SrtO.lexB p q = false → p = q := fun p q e1 e2 => by
    have n1 : ¬ (q.1 < p.1 ∨ (q.1 = p.1 ∧ q.2 < p.2)) := fun h => by
      rw [SrtO.lexB_iff.mpr h] at e1
      cases e1
    have n2 : ¬ (p.1 < q.1 ∨ (p.1 = q.1 ∧ p.2 < q.2)) := fun h => by
      rw [SrtO.lexB_iff.mpr h] at e2
      cases e2
    have a1 : p.1 = q.1 := by omega
    have a2 : p.2 = q.2 := by omega
    exact Prod.ext a1 a2
  have e : ys.map (kPr H) = L := List.Perm.eq_of_pairwise (fun a b _ _ => anti a b) s1 s2 pm
  have hl : ys.length = L.length := by rw [← e, List.length_map]
  refine ⟨hl, fun i u v hi => ?_⟩
  have il := (List.getElem?_eq_some_iff.mp hi).1
  obtain ⟨y, gy⟩ : ∃ y, ys[i]? = some y := ⟨_, List.getElem?_eq_getElem (show i < ys.length by omega)⟩
  obtain ⟨t, a, b, e1, e2⟩ := hT.mem (h2.perm.mem_iff.mp (List.mem_of_getElem? gy))
  refine ⟨t, by rw [gy, e1], ?_⟩
  have : L[i]? = some (kPr H y) := by
    rw [← e, List.getElem?_map, gy]
    rfl
  rw [hi, e1, kPr_at e2] at this
  cases this
  exact e2
section
variable {K : PySem.W.Frag} {σ : L2.St} {H : Hp} {ta : TE} {tr : TA} {D : Ends} {tw : TS}
theorem g_appTup {l : Addr} {xs us : List V} (ho : Vl ta σ H (.ref l)) (hl : H l = some (.lst xs)) (hv : Va tr σ H us) (hz : xs.length < sizeLine) (hu : us.length ≤ sizeLine) (k : ∀ T H', Same H H' → H T = none → H' T = some (.tup us) → D.nx σ (L2.upd H' l (.lst (xs ++ [.ref T])))) :
    tDrop (tBM K "list" rAppend ta (tCons (tTup tr) tNil)) D σ H := ho _ ⟨.inl ⟨rfl, _, .inl (.inl hl)⟩, hv _ ⟨hu, fun T nT => ⟨l, xs, .ref T, rfl, rfl, same_upd nT _ _ hl, hz, k T _ (same_upd nT) nT upd_same⟩⟩⟩
theorem q_appTup {l : Addr} {xs us : List V} (ho : Vl ta σ H (.ref l)) (hl : H l = some (.lst xs)) (hv : Va tr σ H us) (hz : xs.length < sizeLine) (hu : us.length ≤ sizeLine) (k : ∀ T H', Same H H' → H T = none → H' T = some (.tup us) → tw D σ (L2.upd H' l (.lst (xs ++ [.ref T])))) :
    tSeq (tDrop (tBM K "list" rAppend ta (tCons (tTup tr) tNil))) tw D σ H := g_appTup (D := { D with nx := tw D }) ho hl hv hz hu k
end
def spLabelP (K : PySem.W.Frag) : Sp := fun vs H Q _ => ∃ (v : Int) (ph sp ot : Addr) (hs : List Int) (ts refs : List V) (u : Int → Option Int × Option Int) (Lb : Int → List (Int × Int)) (n : Nat) (L : List (Int × Int)), vs = [.int v, .ref ph, .ref sp, .ref ot] ∧ SqL K H ph (hs.map V.int) ∧ SqL K H sp ts ∧ PsAt H ts n u ∧ SqL K H ot refs ∧
  (∀ x ∈ hs, (0 ≤ x ∧ x < (n : Int)) ∧ (∃ b, atI refs x = some (.ref b) ∧ Dp K H (.ref b) (labD (Lb x))) ∧ (Lb x).length ≤ 1000 ∧ ((Lb x).map Prod.fst).Nodup) ∧ hs.length ≤ 500 ∧
  L.Pairwise (fun p q => p.1 < q.1) ∧ (hs.foldl (labStep (fun x => (u x).1) Lb) [] ++ [(v, 0)]).Perm L ∧
  ∀ H' q xs, Same H H' → H q = none → H' q = some (.lst xs) → TupsAt H' xs L → Q (.ref q) H'
abbrev sLabelP : Stmt := topS 19
theorem scLabelP : FnScope ["place", "higher", "sums", "others", "label", "other", "price", "known"] ["place", "higher", "sums", "others"] (defScope sLabelP) := ⟨rfl, rfl, rfl, by decide +kernel, rfl, by decide +kernel, by decide +kernel⟩
section
variable {P : Program} {w : World} {K : PySem.W.Frag} {mg : Str → Option Value} {base : Heap}
theorem ok_labelP {f : Addr} {fd : FuncData} {k : Nat} (F : Fun K "_label" "_label" sLabelP f fd) (c_label_answer : Kal P w K mg base k "label_answer" ["forward", "backward"] (spLabAns K)) (mo : mg "sorted" = none) : FnOk P w K mg base CX0 (k + 1) f fd ["place", "higher", "sums", "others"] (spLabelP K) := by
  refine F.ok scLabelP (fun vs H Q E h => ?_) (fun cdv A outer s H vs Q E hr h => ?_)
  · obtain ⟨v, ph, sp, ot, hs, ts, refs, u, Lb, n, L, rfl, _⟩ := h
    rfl
  · obtain ⟨v, ph, sp, ot, hs, ts, refs, u, Lb, n, L, rfl, hH, hsp, hps, hot, hx, hlen, hLs, hLp, q⟩ := h
    refine ⟨_, pss_cons (ps_set (i := 4) scLabelP.nd rfl (.inl rfl) (pe_lst pa_nil))
      (pss_cons (ps_for PassesOwn.never rfl (pi_list (pv 1)) (pg_name (i := 5) scLabelP.nd rfl (.inl rfl))
      (pss_cons (ps_set (i := 6) scLabelP.nd rfl (.inl rfl) (pe_ix ix_tup (pe_ix ix_list (pv 2) (pv 5) (fun _ _ => rfl)) pe_int (fun _ _ => rfl)))
        (pss_cons (ps_if (pt_cmpR op_isN (pv 6) pe_non (nomark _))
        (pss_one ps_continue)
        pss_nil)
        (pss_cons (ps_set (i := 7) scLabelP.nd rfl (.inl rfl) (pe_k c_label_answer hr (by first | decide | omega) (by rfl) (pa_cons (pv 4) (pa_cons (pe_ix ix_list (pv 3) (pv 5) (fun _ _ => rfl)) pa_nil))))
        (pss_one (ps_if (PW.pt (pw_or (pt_cmpR op_isN (pv 7) pe_non (nomark _)) (pw_or1 (pt_cmpR op_lt (pv 6) (pv 7) (nomark _)))))
        (pss_one (ps_expr (pe_bm PySem.F.plainAttrs_list PySem.F.slot_list_append PySem.F.type_list_append mt_append (pv 4) (pa_cons (pe_tup (pa_cons (pv 5) (pa_cons (pv 6) pa_nil))) pa_nil))))
        pss_nil))))))
      (pss_cons (ps_expr (pe_bm PySem.F.plainAttrs_list PySem.F.slot_list_append PySem.F.type_list_append mt_append (pv 4) (pa_cons (pe_tup (pa_cons (pv 0) (pa_cons pe_int pa_nil))) pa_nil)))
      (pss_one (ps_ret (pe_callB cr_sortedPO (by rfl) mo (by decide +kernel) (pa_cons (pv 4) pa_nil)))))), ?_⟩
    refine q_lnew fun l nl => ?_
    have sl : Same H (upd H l (.lst [])) := same_upd nl
    refine q_forL (K := K) (j := 5) (a := ph) (xs := hs.map V.int) (vl_var rfl) (sl.seq hH)
      (fun i σ H1 => ∃ y5 y6 y7 zs, σ = [some (.int v), some (.ref ph), some (.ref sp), some (.ref ot), some (.ref l), y5, y6, y7] ∧ Same H (but H1 l) ∧ H1 l = some (.lst zs) ∧ TupsAt (but H1 l) zs ((hs.take i).foldl (labStep (fun x => (u x).1) Lb) []))
      ⟨_, _, _, [], rfl, same_but sl nl, upd_same, TupsAt.nil⟩ (fun i σ H1 hP => ?_) (fun i x0 σ H1 hi hP => ?_) (fun σ H1 hP => ?_)
    · obtain ⟨_, _, _, _, _, s1, _⟩ := hP
      exact (s1.trans but_same).seq hH
    · obtain ⟨y5, y6, y7, zs, rfl, s1, hl, hT⟩ := hP
      rw [List.getElem?_map] at hi
      obtain ⟨x, hg, rfl⟩ := Option.map_eq_some_iff.mp hi
      obtain ⟨hxn, ⟨b, hb, hD⟩, hll, hnd⟩ := hx x (List.mem_of_getElem? hg)
      have il := (List.getElem?_eq_some_iff.mp hg).1
      rw [fold_take hg]
      have hal : ((hs.take i).foldl (labStep (fun x => (u x).1) Lb) []).length ≤ 500 := by
        have := labStep_len (u := fun x => (u x).1) (Lb := Lb) (hs.take i) []
        rw [List.length_take, List.length_nil] at this
        omega
      generalize (hs.take i).foldl (labStep (fun x => (u x).1) Lb) [] = acc at hT hal
      have sH : Same H H1 := s1.trans but_same
      have hTH := hT.to but_same
      have keep : ∀ {H2 : Hp} {y6 y7 : Option V}, Same H1 H2 → labStep (fun x => (u x).1) Lb acc x = acc → ∃ y5' y6' y7' zs, [some (V.int v), some (.ref ph), some (.ref sp), some (.ref ot), some (.ref l), some (V.int x), y6, y7] = [some (.int v), some (.ref ph), some (.ref sp), some (.ref ot), some (.ref l), y5', y6', y7'] ∧ Same H (but H2 l) ∧ H2 l = some (.lst zs) ∧ TupsAt (but H2 l) zs (labStep (fun x => (u x).1) Lb acc x) := fun s2 e => ⟨_, _, _, zs, rfl, s1.trans (but_mono s2), s2 _ _ hl, by rw [e]; exact hT.to (but_mono s2)⟩
      have vp := fun {σ' : L2.St} (e2 : σ'[2]? = some (some (.ref sp))) (e5 : σ'[5]? = some (some (.int x))) => vl_ps0 (K := K) (H := H1) (σ := σ') (t0 := tVar 2) (t1 := tVar 5) (vl_var e2) (vl_var e5) (sH.seq hsp) (hps.to sH) hxn
      refine q_asg (vp rfl rfl) ?_
      cases eu : (u x).1 with
      | none =>
        refine q_when (b := true) (an_test ((vl_isN (vl_var rfl)).is rfl)) (fun _ => ?_) (fun h => by cases h)
        exact keep (Same.refl _) (by
          unfold labStep
          dsimp only
          rw [eu])
      | some p =>
        refine q_when (b := false) (an_test ((vl_isN (vl_var rfl)).is rfl)) (fun h => by cases h) (fun _ => ?_)
        refine q_asgE ⟨.ref l, rfl, (vl_ixL (K := K) (vl_var rfl) (vl_var rfl) (sH.seq hot) hb) _ ⟨.ref l, .ref b, acc, Lb x, rfl, .lst (.of hl) hTH.dp, Dp.to hD sH, by omega, hll, hnd, fun H2 s2 => ?_⟩⟩
        have put : ∀ {y7 : Option V}, labStep (fun x => (u x).1) Lb acc x = acc ++ [(x, p)] → tDrop (tBM K "list" rAppend (tVar 4) (tCons (tTup (tCons (tVar 5) (tCons (tVar 6) tNil))) tNil)) { nx := fun σ H3 => ∃ y5 y6 y7 zs, σ = [some (.int v), some (.ref ph), some (.ref sp), some (.ref ot), some (.ref l), y5, y6, y7] ∧ Same H (but H3 l) ∧ H3 l = some (.lst zs) ∧ TupsAt (but H3 l) zs (labStep (fun x => (u x).1) Lb acc x), rt := fun _ _ => True, bk := fun _ _ => True, ct := fun _ _ => True } [some (.int v), some (.ref ph), some (.ref sp), some (.ref ot), some (.ref l), some (.int x), some (.int p), y7] H2 := fun {y7} e => by
          refine g_appTup (us := [.int x, .int p]) (vl_var rfl) (s2 _ _ hl) (va_cons (vl_var rfl) (va_cons (vl_var rfl) va_nil)) (by rw [hT.len]; exact Nat.lt_of_le_of_lt (m := 1000) (by omega) (by decide)) (by show 2 ≤ sizeLine; decide) fun T H3 s3 nT eT => ?_
          have Tl : T ≠ l := fun z => by
            rw [z, s2 _ _ hl] at nT
            cases nT
          refine ⟨_, _, _, _, rfl, ?_, upd_same, ?_⟩
          · rw [but_upd]
            exact s1.trans (but_mono (s2.trans s3))
          · rw [but_upd, e]
            exact (hT.to (but_mono (s2.trans s3))).app (TupsAt.one (by rw [but_ne Tl]; exact eT))
        cases eM : labMin acc (Lb x) with
        | none =>
          refine g_when (b := true) (an_or (k := true) (m := true) (an_test ((vl_isN (vl_var rfl)).is rfl)) fun h => by cases h) (fun _ => ?_) (fun h => by cases h)
          exact put (by
            unfold labStep
            dsimp only
            rw [eu]
            dsimp only
            rw [eM])
        | some m =>
          have e : labStep (fun x => (u x).1) Lb acc x = if p < m then acc ++ [(x, p)] else acc := by
            unfold labStep
            dsimp only
            rw [eu]
            dsimp only
            rw [eM]
          refine g_when (b := decide (p < m)) ((an_or (k := false) (m := decide (p < m)) (an_test ((vl_isN (vl_var rfl)).is rfl)) fun _ => an_test (vl_I0 (g := fun i j => .bl (decide (i < j))) (vl_var rfl) (vl_var rfl))).is (Bool.false_or _)) (fun h => ?_) (fun h => ?_)
          · exact put (by rw [e, if_pos (of_decide_eq_true h)])
          · exact keep s2 (by rw [e, if_neg (of_decide_eq_false h)])
    · obtain ⟨y5, y6, y7, zs, rfl, s1, hl, hT⟩ := hP
      rw [List.length_map, List.take_length] at hT
      have hal : (hs.foldl (labStep (fun x => (u x).1) Lb) []).length ≤ 500 := by
        have := labStep_len (u := fun x => (u x).1) (Lb := Lb) hs []
        rw [List.length_nil] at this
        omega
      generalize hs.foldl (labStep (fun x => (u x).1) Lb) [] = acc at hT hal hLp
      refine q_appTup (us := [.int v, .int 0]) (vl_var rfl) hl (va_cons (vl_var rfl) (va_cons vl_c va_nil)) (by rw [hT.len]; exact Nat.lt_of_le_of_lt (m := 1000) (by omega) (by decide)) (by show 2 ≤ sizeLine; decide) fun T H3 s3 nT eT => ?_
      have Tl : T ≠ l := fun z => by
        rw [z, hl] at nT
        cases nT
      have hl4 : upd H3 l (.lst (zs ++ [.ref T])) l = some (.lst (zs ++ [.ref T])) := upd_same
      have s4 : Same H (but (upd H3 l (.lst (zs ++ [.ref T]))) l) := by
        rw [but_upd]
        exact s1.trans (but_mono s3)
      have hT4 : TupsAt (but (upd H3 l (.lst (zs ++ [.ref T]))) l) (zs ++ [.ref T]) (acc ++ [(v, 0)]) := by
        rw [but_upd]
        exact (hT.to (but_mono s3)).app (TupsAt.one (by rw [but_ne Tl]; exact eT))
      generalize upd H3 l (.lst (zs ++ [.ref T])) = H4 at hl4 s4 hT4
      have hTH := hT4.to but_same
      refine ⟨.ref l, rfl, l, _, kPr H4, rfl, .of hl4, fun x hx => ?_, fun ys p h1 h2 np => ?_⟩
      · obtain ⟨t, a, b, rfl, e⟩ := hTH.mem hx
        exact ⟨t, rfl, by rw [kPr_at e]; exact e⟩
      · have sE : Same H H4 := s4.trans but_same
        exact q _ p ys (sE.trans (same_upd np)) (Same.free sE np) upd_same ((tups_sorted hTH hLp hLs h1 h2).to (same_upd np))
end
/-! ### the labels of all places -/
theorem q_forRev {K : PySem.W.Frag} {σ : L2.St} {H : Hp} {te : TE} {D : Ends} {tz tw : TS} {j n : Nat} (h : Vl te σ H (.int (n : Int))) (hn : n ≤ 100000) (Pv : Nat → L2.St → Hp → Prop) (h0 : Pv 0 σ H)
    (hs : ∀ (i : Nat) σ H, i < n → Pv i σ H → tz { D with nx := Pv (i + 1), ct := Pv (i + 1), bk := tw D } (σ.set j (some (.int ((n - 1 - i : Nat) : Int)))) H) (hd : ∀ σ H, Pv n σ H → tw D σ H) :
    tSeq (tFor (iRevR (tRg1 te)) (gName j) tz) tw D σ H := h _ ⟨(n : Int), rfl, by omega, by omega, by omega, by omega, by
      have e : ((n : Int) - 0).toNat = n := by omega
      rw [e]
      exact for_rangeC (D := { D with nx := tw D }) Pv h0 (fun i σ H hi p => by
        have e2 : (0 : Int) + (n : Int) - 1 + (i : Int) * (-1) = ((n - 1 - i : Nat) : Int) := by omega
        show tz _ (σ.set j (some (.int ((0 : Int) + (n : Int) - 1 + (i : Int) * (-1))))) H
        rw [e2]
        exact hs i σ H hi p) hd⟩
structure LabsAt (G H : Hp) (q : Addr) (n : Nat) (Lb : Int → List (Int × Int)) : Prop where
  ex : ∃ refs, G q = none ∧ H q = some (.lst refs) ∧ refs.length = n ∧ ∀ k : Nat, k < n → ∃ b xs, refs[k]? = some (.ref b) ∧ G b = none ∧ H b = some (.lst xs) ∧ TupsAt H xs (Lb (k : Int))
theorem LabsAt.to {G H H' : Hp} {q : Addr} {n : Nat} {Lb : Int → List (Int × Int)} (h : LabsAt G H q n Lb) (s : Same H H') : LabsAt G H' q n Lb := by
  obtain ⟨refs, h1, h2, h3, h4⟩ := h.ex
  exact ⟨refs, h1, s _ _ h2, h3, fun k hk => let ⟨b, xs, e1, e2, e3, e4⟩ := h4 k hk; ⟨b, xs, e1, e2, s _ _ e3, e4.to s⟩⟩
theorem LabsAt.old {G G' H : Hp} {q : Addr} {n : Nat} {Lb : Int → List (Int × Int)} (h : LabsAt G' H q n Lb) (s : Same G G') : LabsAt G H q n Lb := by
  obtain ⟨refs, h1, h2, h3, h4⟩ := h.ex
  exact ⟨refs, Same.free s h1, h2, h3, fun k hk => let ⟨b, xs, e1, e2, e3, e4⟩ := h4 k hk; ⟨b, xs, e1, Same.free s e2, e3, e4⟩⟩
def labsD (n : Nat) (Lb : Int → List (Int × Int)) : PyData := .list ((List.range n).map fun (k : Nat) => labD (Lb (k : Int)))
theorem dpAll_get {K : PySem.W.Frag} {H : Hp} : ∀ {vs : List V} {ds : List PyData}, vs.length = ds.length → (∀ (i : Nat) v d, vs[i]? = some v → ds[i]? = some d → Dp K H v d) → DpAll K H vs ds
  | [], [], _, _ => .nil
  | [], _ :: _, h, _ => by cases h
  | _ :: _, [], h, _ => by cases h
  | v :: vs, d :: ds, h, hh => .cons (hh 0 v d rfl rfl) (dpAll_get (Nat.succ.inj h) fun i v d h1 h2 => hh (i + 1) v d h1 h2)
theorem LabsAt.dp {K : PySem.W.Frag} {G H : Hp} {q : Addr} {n : Nat} {Lb : Int → List (Int × Int)} (h : LabsAt G H q n Lb) : Dp K H (.ref q) (labsD n Lb) := by
  obtain ⟨refs, _, h2, h3, h4⟩ := h.ex
  refine .lst (.of h2) (dpAll_get (by rw [h3, List.length_map, List.length_range]) fun i v d hv hd => ?_)
  have il := (List.getElem?_eq_some_iff.mp hv).1
  obtain ⟨b, xs, e1, _, e3, e4⟩ := h4 i (by omega)
  rw [List.getElem?_map, List.getElem?_range (by omega)] at hd
  cases hv.symm.trans e1
  cases Option.some.inj hd
  exact .lst (.of e3) e4.dp
def spLabels (K : PySem.W.Frag) : Sp := fun vs H Q _ => ∃ (p : Addr) (rv : V) (N : Net) (os : List Int) (rows : List Row), vs = [.ref p, rv] ∧ SqL K H p (os.map V.int) ∧ Dp K H rv (.list (rows.map rowD)) ∧ NetOk N ∧ OrdOk N.n os ∧ FillOk N os rows ∧
  ∀ H' T q1 q2, Same H H' → H T = none → H' T = some (.tup [.ref q1, .ref q2]) → LabsAt H H' q1 N.n.toNat (labF (dstN N) N.n os) → LabsAt H H' q2 N.n.toNat (labF (fun x y => dstN N y x) N.n os) → Q (.ref T) H'
abbrev sLabels : Stmt := topS 17
theorem scLabels : FnScope ["order", "rows", "forward", "backward", "rank", "place", "higher", "_"] ["order", "rows"] (defScope sLabels) := ⟨rfl, rfl, rfl, by decide +kernel, rfl, by decide +kernel, by decide +kernel⟩
/-- part of the labels: those of the places from rank j on -/
def LabsP (G H : Hp) (q : Addr) (n : Nat) (os : List Int) (j : Nat) (Lb : Int → List (Int × Int)) (refs : List V) : Prop := refs.length = n ∧ ∀ x : Int, x ∈ os → j ≤ posOf x os → ∃ b xs, refs[x.toNat]? = some (.ref b) ∧ G b = none ∧ H b = some (.lst xs) ∧ TupsAt H xs (Lb x)
theorem LabsP.to {G H H' : Hp} {q : Addr} {n j : Nat} {os : List Int} {Lb : Int → List (Int × Int)} {refs : List V} (h : LabsP G H q n os j Lb refs) (s : Same H H') : LabsP G H' q n os j Lb refs := ⟨h.1, fun x hx hj => let ⟨b, xs, e1, e2, e3, e4⟩ := h.2 x hx hj; ⟨b, xs, e1, e2, s _ _ e3, e4.to s⟩⟩
theorem LabsP.set {G H : Hp} {q : Addr} {n : Int} {j : Nat} {os : List Int} {Lb : Int → List (Int × Int)} {refs : List V} (oo : OrdOk n os) (h : LabsP G H q n.toNat os (j + 1) Lb refs) {x : Int} (hx : os[j]? = some x) {b : Addr} {xs : List V} (nb : G b = none) (eb : H b = some (.lst xs)) (hT : TupsAt H xs (Lb x)) : LabsP G H q n.toNat os j Lb (refs.set x.toNat (.ref b)) := by
  have xn := oo.mem.mp (List.mem_of_getElem? hx)
  have px := posOf_get oo.nodup hx
  refine ⟨by rw [List.length_set]; exact h.1, fun z hz hj => ?_⟩
  have zn := oo.mem.mp hz
  by_cases e : z = x
  · subst e
    exact ⟨b, xs, List.getElem?_set_self (by rw [h.1]; omega), nb, eb, hT⟩
  · have ne : posOf z os ≠ posOf x os := fun c => e (pos_inj hz (List.mem_of_getElem? hx) c)
    obtain ⟨c, ys, e1, e2⟩ := h.2 z hz (by omega)
    exact ⟨c, ys, by rw [List.getElem?_set_ne (by omega)]; exact e1, e2⟩
theorem TupsAt.mask {H : Hp} {T : Addr → Prop} {ts : List V} {L : List (Int × Int)} (h : TupsAt H ts L) (hT : ∀ b, T b → ∃ zs, H b = some (.lst zs)) : TupsAt (Ovc.mask T H) ts L := ⟨h.len, fun i u v e => by
  obtain ⟨t, h1, h2⟩ := h.at_ i u v e
  refine ⟨t, h1, ?_⟩
  rw [mask_ne fun hb => by
    obtain ⟨zs, e2⟩ := hT t hb
    rw [h2] at e2
    cases e2]
  exact h2⟩
theorem LabsP.cond {K : PySem.W.Frag} {G H : Hp} {q : Addr} {n : Int} {j : Nat} {os : List Int} {D : Int → Int → Option Int} {refs : List V} (oo : OrdOk n os) (n40 : n ≤ 40) (h : LabsP G H q n.toNat os j (labF D n os) refs) : ∀ x ∈ (os.drop j).reverse, (0 ≤ x ∧ x < ((n.toNat : Nat) : Int)) ∧ (∃ b, atI refs x = some (.ref b) ∧ Dp K H (.ref b) (labD (labF D n os x))) ∧ (labF D n os x).length ≤ 1000 ∧ ((labF D n os x).map Prod.fst).Nodup := fun x hx => by
  obtain ⟨h1, h2⟩ := (mem_drop_pos oo).mp (List.mem_reverse.mp hx)
  have xn := oo.mem.mp h1
  obtain ⟨b, xs, e1, _, e3, e4⟩ := h.2 x h1 h2
  have ll := labF_len (D := D) (n := n) (os := os) (v := x)
  refine ⟨by omega, ⟨b, ?_, .lst (.of e3) e4.dp⟩, by omega, labF_nodup⟩
  have := atI_nat e1
  rw [show ((x.toNat : Nat) : Int) = x by omega] at this
  exact this
theorem lc_nils {K : PySem.W.Frag} {σ : L2.St} {H : Hp} {tl : TE} {a : Addr} {xs : List V} {j : Nat} {Q : VK} (hl : Vl tl σ H (.ref a)) (hx : SqL K H a xs) (hz : xs.length ≤ 1000) (q : ∀ D H' refs, Same H H' → H D = none → H' D = some (.lst refs) → refs.length = xs.length → Q (.ref D) H') : tLc (iList K tl) (gName j) tYes (tLst tNil) [j] σ H Q := by
  refine hl _ ⟨a, rfl, ⟨_, hx⟩, fun D nD => lc_list (K := K) (a := a) (xs := xs) (fun i H' => ∃ refs, H' D = some (.lst refs) ∧ Same H H' ∧ refs.length = i) ⟨[], upd_same, same_upd nD, rfl⟩ (fun i H' _ hP => hP.choose_spec.2.1.seq hx) (fun i v H' hi hP => ?_) (fun H' hP => ?_)⟩
  · obtain ⟨refs, hD, s2, hl⟩ := hP
    have il := (List.getElem?_eq_some_iff.mp hi).1
    refine ⟨?_, yes_of (if_true_of rfl ⟨Nat.zero_le _, fun T nT => ⟨refs, same_upd nT _ _ hD, ?_, refs ++ [.ref T], upd_same, same_upd' (s2.trans (same_upd nT)) nD, ?_⟩⟩)⟩
    · show ((σ.set j none).set j (some v)).set j none = σ.set j none
      rw [List.set_set, List.set_set]
    · rw [hl]
      exact Nat.lt_of_le_of_lt (m := 1000) (by omega) (by decide)
    · rw [List.length_append, hl]
      rfl
  · obtain ⟨refs, hD, s2, hl⟩ := hP
    exact q D H' refs s2 nD hD hl
section
variable {P : Program} {w : World} {K : PySem.W.Frag} {mg : Str → Option Value} {base : Heap} {CP : Addr}
theorem ok_labels {f : Addr} {fd : FuncData} {k k1 k2 k3 : Nat} (l1 : k1 ≤ k) (l2 : k2 ≤ k) (l3 : k3 ≤ k) (F : Fun K "labels" "labels" sLabels f fd) (c_up_sums : KalX P w K mg base k1 "up_sums" ["order", "rows", "place"] (spOneSums K CP (fun r => r.up))) (c_down_sums : KalX P w K mg base k2 "down_sums" ["order", "rows", "place"] (spOneSums K CP (fun r => r.dn)))
    (c_label : Kal P w K mg base k3 "_label" ["place", "higher", "sums", "others"] (spLabelP K)) (ml : mg "len" = none) (mr : mg "range" = none) (mrev : mg "reversed" = none) : FnOk P w K mg base CX0 (k + 1) f fd ["order", "rows"] (spLabels K) := by
  refine F.ok scLabels (fun vs H Q E h => ?_) (fun cdv A outer s H vs Q E hr h => ?_)
  · obtain ⟨p, rv, N, os, rows, rfl, _⟩ := h
    rfl
  · obtain ⟨p, rv, N, os, rows, rfl, hS, hR, ok, oo, hF, q⟩ := h
    refine ⟨_, pss_cons (ps_setLc (i := 2) (own := [("_", 7)]) (g := gName 7) (tt := tYes) (te := (tLst tNil)) (by rfl) scLabels.nd rfl rfl (sw_true rfl rfl rfl (by decide +kernel)) (pi_list (pv 0)) (blkOk_by (own := [("_", 7)]) (N := ["order", "rows", "forward", "backward", "rank", "place", "higher", "_"]) (sc := defScope sLabels) (by decide +kernel)) (fun _ _ _ _ _ => pg_name (i := 7) scLabels.nd rfl (Or.inl rfl)) (fun _ _ _ _ _ => by exact pts_nil) (fun _ _ _ _ _ => by exact (pe_lst pa_nil)))
      (pss_cons (ps_setLc (i := 3) (own := [("_", 7)]) (g := gName 7) (tt := tYes) (te := (tLst tNil)) (by rfl) scLabels.nd rfl rfl (sw_true rfl rfl rfl (by decide +kernel)) (pi_list (pv 0)) (blkOk_by (own := [("_", 7)]) (N := ["order", "rows", "forward", "backward", "rank", "place", "higher", "_"]) (sc := defScope sLabels) (by decide +kernel)) (fun _ _ _ _ _ => pg_name (i := 7) scLabels.nd rfl (Or.inl rfl)) (fun _ _ _ _ _ => by exact pts_nil) (fun _ _ _ _ _ => by exact (pe_lst pa_nil)))
      (pss_cons (ps_for PassesOwn.never rfl (pi_revR (by rfl) mrev (prg_1 (by rfl) mr (pe_callB call_len_seq (by rfl) ml PySem.boot_len (pa_cons (pv 0) pa_nil)))) (pg_name (i := 4) scLabels.nd rfl (.inl rfl))
      (pss_cons (ps_set (i := 5) scLabels.nd rfl (.inl rfl) (pe_ix ix_list (pv 0) (pv 4) (fun _ _ => rfl)))
        (pss_cons (ps_set (i := 6) scLabels.nd rfl (.inl rfl) (pe_revTo (pv 0) (pv 4)))
        (pss_cons (ps_asg (pe_k c_label hr (by first | decide | omega) (by rfl) (pa_cons (pv 5) (pa_cons (pv 6) (pa_cons (pe_kx (E := fun _ _ _ => False) c_up_sums hr (by first | decide | omega) (by rfl) takes0 (pa_cons (pv 0) (pa_cons (pv 1) (pa_cons (pv 5) pa_nil)))) (pa_cons (pv 3) pa_nil))))) (pg_sub (pv 2) (pv 5) set_list))
        (pss_one (ps_asg (pe_k c_label hr (by first | decide | omega) (by rfl) (pa_cons (pv 5) (pa_cons (pv 6) (pa_cons (pe_kx (E := fun _ _ _ => False) c_down_sums hr (by first | decide | omega) (by rfl) takes0 (pa_cons (pv 0) (pa_cons (pv 1) (pa_cons (pv 5) pa_nil)))) (pa_cons (pv 2) pa_nil))))) (pg_sub (pv 3) (pv 5) set_list)))))))
      (pss_one (ps_ret (pe_tup (pa_cons (pv 2) (pa_cons (pv 3) pa_nil))))))), ?_⟩
    have n1 := ok.n1
    have n40 := ok.n40
    have ol := oo.len
    have hin := hF.rowsIn ok oo
    have lf := labOk_fwd ok oo hF
    have lb := labOk_bwd ok oo hF
    refine q_asgE (lc_nils (K := K) (vl_var rfl) hS (by rw [List.length_map]; omega) fun q1 H1 r1 s1 n1' e1 l1' => ?_)
    refine q_asgE (lc_nils (K := K) (vl_var rfl) (s1.seq hS) (by rw [List.length_map]; omega) fun q2 H2 r2 s2 n2' e2 l2' => ?_)
    rw [List.length_map] at l1' l2'
    have q12 : q1 ≠ q2 := fun z => by
      rw [← z, e1] at n2'
      cases n2'
    have nq2 : H q2 = none := Same.free s1 n2'
    generalize hT : (fun b => b = q1 ∨ b = q2) = T
    have T1 : T q1 := by rw [← hT]; exact .inl rfl
    have T2 : T q2 := by rw [← hT]; exact .inr rfl
    have nT : ∀ b, T b → H b = none := fun b hb => by
      rw [← hT] at hb
      rcases hb with rfl | rfl
      · exact n1'
      · exact nq2
    have two : ∀ {H' : Hp} {z1 z2 : List V}, H' q1 = some (.lst z1) → H' q2 = some (.lst z2) → ∀ b, T b → ∃ zs, H' b = some (.lst zs) := fun h1 h2 b hb => by
      rw [← hT] at hb
      rcases hb with rfl | rfl
      · exact ⟨_, h1⟩
      · exact ⟨_, h2⟩
    have noT : ∀ b, b ≠ q1 → b ≠ q2 → ¬ T b := fun b h1 h2 hb => by
      rw [← hT] at hb
      exact hb.elim h1 h2
    refine q_forRev (K := K) (j := 4) (n := os.length) ((vl_lenL (K := K) (vl_var rfl) ((s1.trans s2).seq hS)).is (by rw [List.length_map])) (by omega)
      (fun i σ H3 => ∃ y4 y5 y6 r1 r2, σ = [some (.ref p), some rv, some (.ref q1), some (.ref q2), y4, y5, y6, none] ∧ Same H (mask T H3) ∧ H3 q1 = some (.lst r1) ∧ H3 q2 = some (.lst r2) ∧ LabsP H (mask T H3) q1 N.n.toNat os (os.length - i) (labF (dstN N) N.n os) r1 ∧ LabsP H (mask T H3) q2 N.n.toNat os (os.length - i) (labF (fun x y => dstN N y x) N.n os) r2)
      ⟨_, _, _, r1, r2, rfl, same_mask (s1.trans s2) nT, s2 _ _ e1, e2, ⟨by omega, fun x hx hj => ?_⟩, ⟨by omega, fun x hx hj => ?_⟩⟩ (fun i σ H3 hi hP => ?_) (fun σ H3 hP => ?_)
    · have := pos_len hx
      omega
    · have := pos_len hx
      omega
    · obtain ⟨y4, y5, y6, r1, r2, rfl, sm, eq1, eq2, p1, p2⟩ := hP
      obtain ⟨r, er⟩ : ∃ r, os.length - 1 - i = r := ⟨_, rfl⟩
      have hr : r < os.length := by omega
      have e1r : os.length - i = r + 1 := by omega
      have e2r : os.length - (i + 1) = r := by omega
      rw [er]
      rw [e1r] at p1 p2
      rw [e2r]
      have hx : os[r]? = some os[r] := List.getElem?_eq_getElem hr
      generalize os[r] = pl at hx
      have pln := oo.mem.mp (List.mem_of_getElem? hx)
      obtain ⟨pn, epn⟩ := Int.eq_ofNat_of_zero_le pln.1
      have sH3 : Same H H3 := sm.trans mask_same
      refine q_asg (v := .int pl) (vl_ixL (K := K) (vl_var rfl) (vl_var rfl) (sH3.seq hS) (atI_nat (by rw [List.getElem?_map, hx]; rfl))) ?_
      refine q_asgE ⟨.ref p, rfl, .int (r : Int), rfl, (r : Int), rfl, p, os.map V.int, r, rfl, rfl, sH3.seq hS, by rw [List.length_map]; exact hr, fun hd nhd => ?_⟩
      have ehd : upd H3 hd (.lst ((os.map V.int).drop (r + 1)).reverse) hd = some (.lst (((os.drop (r + 1)).reverse).map V.int)) := by
        rw [upd_same, ← List.map_drop, ← List.map_reverse]
      have s4 : Same H3 (upd H3 hd (.lst ((os.map V.int).drop (r + 1)).reverse)) := same_upd nhd
      generalize upd H3 hd (.lst ((os.map V.int).drop (r + 1)).reverse) = H4 at ehd s4
      have sH4 := sH3.trans s4
      have hsl : ((os.drop (r + 1)).reverse).length ≤ 500 := by
        rw [List.length_reverse, List.length_drop]
        omega
      -- forward
      refine ⟨.int pl, rfl, .ref hd, rfl, .ref p, rfl, rv, rfl, .int pl, rfl, p, rv, pl, N.n, os, rows, rfl, sH4.seq hS, by omega, by omega, Dp.to hR sH4, hin, fun h => absurd pln h, fun _ H5 su ts s5 nsu esu hsu => ?_⟩
      have s35 := s4.trans s5
      refine ⟨.ref q2, rfl, pl, hd, su, q2, (os.drop (r + 1)).reverse, ts, r2, sumsF (·.up) pl rows, labF (fun x y => dstN N y x) N.n os, N.n.toNat, labF (dstN N) N.n os pl, rfl, .of (s5 _ _ ehd), .of esu, hsu, .of (s35 _ _ eq2), (p2.to (mask_same.trans s35)).cond oo n40, hsl, labF_sorted, lab_perm lf oo hx, fun H6 lf1 xs1 s6 nl1 el1 hT1 => ?_⟩
      have s36 := s35.trans s6
      have eq1' := s36 _ _ eq1
      have eq2' := s36 _ _ eq2
      have lq1 : lf1 ≠ q1 := fun z => by
        rw [z, s35 _ _ eq1] at nl1
        cases nl1
      have lq2 : lf1 ≠ q2 := fun z => by
        rw [z, s35 _ _ eq2] at nl1
        cases nl1
      refine ⟨.ref q1, rfl, .int pl, rfl, q1, r1, pl, pn, rfl, rfl, eq1', by rw [epn]; exact Evl.ixN_nat (by rw [p1.1]; omega), ?_⟩
      have pe : pl.toNat = pn := by omega
      have ms : Same (mask T H3) (mask T (upd H6 q1 (.lst (r1.set pn (.ref lf1))))) := by
        rw [mask_upd T1]
        exact mask_mono s36
      have P1 : LabsP H (mask T (upd H6 q1 (.lst (r1.set pn (.ref lf1))))) q1 N.n.toNat os r (labF (dstN N) N.n os) (r1.set pn (.ref lf1)) := by
        rw [← pe]
        refine LabsP.set oo (p1.to (by rw [pe]; exact ms)) hx (xs := xs1) (Same.free (sH3.trans s35) nl1) ?_ ?_
        · rw [mask_ne (noT _ lq1 lq2), upd_ne lq1]
          exact el1
        · rw [mask_upd T1]
          exact hT1.mask (two eq1' eq2')
      have P2 : LabsP H (mask T (upd H6 q1 (.lst (r1.set pn (.ref lf1))))) q2 N.n.toNat os (r + 1) (labF (fun x y => dstN N y x) N.n os) r2 := p2.to ms
      have g1 : upd H6 q1 (.lst (r1.set pn (.ref lf1))) q1 = some (.lst (r1.set pn (.ref lf1))) := upd_same
      have g2 : upd H6 q1 (.lst (r1.set pn (.ref lf1))) q2 = some (.lst r2) := by
        rw [upd_ne q12.symm]
        exact eq2'
      have ghd : upd H6 q1 (.lst (r1.set pn (.ref lf1))) hd = some (.lst (((os.drop (r + 1)).reverse).map V.int)) := by
        rw [upd_ne (fun z => by
          rw [z, eq1] at nhd
          cases nhd)]
        exact (s5.trans s6) _ _ ehd
      have sm7 : Same H (mask T (upd H6 q1 (.lst (r1.set pn (.ref lf1))))) := sm.trans ms
      generalize upd H6 q1 (.lst (r1.set pn (.ref lf1))) = H7 at P1 P2 g1 g2 ghd sm7
      generalize r1.set pn (.ref lf1) = r1' at P1 g1
      have sH7 : Same H H7 := sm7.trans mask_same
      -- backward
      refine ⟨.int pl, rfl, .ref hd, rfl, .ref p, rfl, rv, rfl, .int pl, rfl, p, rv, pl, N.n, os, rows, rfl, sH7.seq hS, by omega, by omega, Dp.to hR sH7, hin, fun h => absurd pln h, fun _ H8 sd ts2 s8 nsd esd hsd => ?_⟩
      have P1' : LabsP H H8 q1 N.n.toNat os (r + 1) (labF (dstN N) N.n os) r1' := ⟨P1.1, fun x hx hj => (P1.to (mask_same.trans s8)).2 x hx (by omega)⟩
      refine ⟨.ref q1, rfl, pl, hd, sd, q1, (os.drop (r + 1)).reverse, ts2, r1', sumsF (·.dn) pl rows, labF (dstN N) N.n os, N.n.toNat, labF (fun x y => dstN N y x) N.n os pl, rfl, .of (s8 _ _ ghd), .of esd, hsd, .of (s8 _ _ g1), P1'.cond oo n40, hsl, labF_sorted, lab_perm lb oo hx, fun H9 lf2 xs2 s9 nl2 el2 hT2 => ?_⟩
      have s79 := s8.trans s9
      have g1' := s79 _ _ g1
      have g2' := s79 _ _ g2
      have mq1 : lf2 ≠ q1 := fun z => by
        rw [z, s8 _ _ g1] at nl2
        cases nl2
      have mq2 : lf2 ≠ q2 := fun z => by
        rw [z, s8 _ _ g2] at nl2
        cases nl2
      refine ⟨.ref q2, rfl, .int pl, rfl, q2, r2, pl, pn, rfl, rfl, g2', by rw [epn]; exact Evl.ixN_nat (by rw [P2.1]; omega), ?_⟩
      have ms2 : Same (mask T H7) (mask T (upd H9 q2 (.lst (r2.set pn (.ref lf2))))) := by
        rw [mask_upd T2]
        exact mask_mono s79
      refine ⟨_, _, _, r1', r2.set pn (.ref lf2), rfl, sm7.trans ms2, ?_, upd_same, P1.to ms2, ?_⟩
      · rw [upd_ne q12]
        exact g1'
      · rw [← pe]
        refine LabsP.set oo (P2.to (by rw [pe]; exact ms2)) hx (xs := xs2) (Same.free (sH7.trans s8) nl2) ?_ ?_
        · rw [mask_ne (noT _ mq1 mq2), upd_ne mq2]
          exact el2
        · rw [mask_upd T2]
          exact hT2.mask (two g1' g2')
    · obtain ⟨y4, y5, y6, r1, r2, rfl, sm, eq1, eq2, p1, p2⟩ := hP
      rw [Nat.sub_self] at p1 p2
      have sH3 : Same H H3 := sm.trans mask_same
      have fin : ∀ {qq : Addr} {rr : List V} {Lb : Int → List (Int × Int)}, H qq = none → H3 qq = some (.lst rr) → LabsP H (mask T H3) qq N.n.toNat os 0 Lb rr → LabsAt H H3 qq N.n.toNat Lb := fun {qq rr Lb} h1 h2 h3 => ⟨rr, h1, h2, h3.1, fun k hk => by
        have hm : (k : Int) ∈ os := oo.mem.mpr (by omega)
        obtain ⟨b, xs, e1, e2, e3, e4⟩ := h3.2 (k : Int) hm (Nat.zero_le _)
        exact ⟨b, xs, e1, e2, mask_same _ _ e3, e4.to mask_same⟩⟩
      refine ⟨_, rfl, _, rfl, by show 2 ≤ sizeLine; decide, fun U nU => q _ U q1 q2 (sH3.trans (same_upd nU)) (Same.free sH3 nU) upd_same ((fin n1' eq1 p1).to (same_upd nU)) ((fin nq2 eq2 p2).to (same_upd nU))⟩
end
theorem vl_indexL {K : PySem.W.Frag} {σ : L2.St} {H : Hp} {a : Addr} {os : List Int} {x : Int} {ta tb : TE} {i : Nat} (h1 : Vl ta σ H (.ref a)) (h2 : Vl tb σ H (.int x)) (ha : SqL K H a (os.map V.int)) (nd : os.Nodup) (hi : os[i]? = some x) : Vl (tBM K "list" (rIndex K) ta (tCons tb tNil)) σ H (.int (i : Nat)) := fun Q q =>
  h1 _ ⟨.inl ⟨rfl, _, ha⟩, h2 _ ⟨a, os.map V.int, .int x, i, .int x, rfl, rfl, ha, rfl, flat_ints os, by rw [List.getElem?_map, hi]; rfl, beq_self_eq_true x, fun m z hm hz => by
    rw [List.getElem?_map] at hz
    cases hg : os[m]? with
    | none =>
      rw [hg] at hz
      cases hz
    | some y =>
      rw [hg] at hz
      cases hz
      show (y == x) = false
      refine beq_eq_false_iff_ne.mpr fun e => ?_
      subst e
      have h1 := (List.getElem?_eq_some_iff.mp hi).1
      have := (List.getElem?_inj h1 nd).mp (hi.trans hg.symm)
      omega, q⟩⟩
def lensL (n : Nat) (L : Int → List (Int × Int)) : List Int := (List.range n).map fun (k : Nat) => ((L (k : Int)).length : Int)
def lenSum (n : Nat) (L1 L2 : Int → List (Int × Int)) : Int := (lensL n L1 ++ lensL n L2).sum
theorem lens_at {G H : Hp} {q : Addr} {n : Nat} {L : Int → List (Int × Int)} (h : LabsAt G H q n L) : ∃ refs, H q = some (.lst refs) ∧ refs.length = n ∧ ∀ (i : Nat) x c, refs[i]? = some x → (lensL n L)[i]? = some c → ∃ b xs, x = .ref b ∧ H b = some (.lst xs) ∧ c = (xs.length : Int) := by
  obtain ⟨refs, _, e1, l1, p1⟩ := h.ex
  refine ⟨refs, e1, l1, fun i x c hx hc => ?_⟩
  have il := (List.getElem?_eq_some_iff.mp hx).1
  obtain ⟨b, xs, g1, _, g3, g4⟩ := p1 i (by omega)
  unfold lensL at hc
  rw [List.getElem?_map, List.getElem?_range (by omega)] at hc
  cases hx.symm.trans g1
  cases Option.some.inj hc
  exact ⟨b, xs, rfl, g3, by rw [g4.len]⟩
/-- sum([len(label) for label in forward + backward]) -/
theorem ve_lenSum {K : PySem.W.Frag} {σ : L2.St} {G G2 H : Hp} {ta tb : TE} {j n : Nat} {q1 q2 : Addr} {L1 L2 : Int → List (Int × Int)} (hj : j < σ.length) (hn : n ≤ 1000) (ha : Vl ta σ H (.ref q1)) (hb : Vl tb σ H (.ref q2)) (h1 : LabsAt G H q1 n L1) (h2 : LabsAt G2 H q2 n L2) :
    Ve (tCB (rSum K) (tCons (tLc (iList K (tOp rCat ta tb)) (gName j) tYes (tCB (fun xs H Q => ∃ p ys, xs = [V.ref p] ∧ (SqL K H p ys ∨ SqT K H p ys) ∧ Q (V.int ys.length) H) (tCons (tVar j) tNil)) [j]) tNil)) σ H (.int (lenSum n L1 L2)) := fun Q k => by
  obtain ⟨r1, e1, l1, p1⟩ := lens_at h1
  obtain ⟨r2, e2, l2, p2⟩ := lens_at h2
  have ll : ∀ L, (lensL n L).length = n := fun L => by
    unfold lensL
    rw [List.length_map, List.length_range]
  have vc : Vn (tOp rCat ta tb) σ H (r1 ++ r2) := fun Q q => ha _ (hb _ ⟨q1, q2, r1, r2, rfl, rfl, e1, e2, Nat.le_trans (m := 10000) (by omega) (by decide), fun p np => q p _ (same_upd np) np upd_same⟩)
  have vl := vn_lc (K := K) (j := j) (ys := (lensL n L1 ++ lensL n L2).map V.int) (te := tCB (fun xs H Q => ∃ p ys, xs = [V.ref p] ∧ (SqL K H p ys ∨ SqT K H p ys) ∧ Q (V.int ys.length) H) (tCons (tVar j) tNil)) (vx_new vc) (by rw [List.length_map, List.length_append, List.length_append, ll, ll, l1, l2]) (by rw [List.length_map, List.length_append, ll, ll]; omega) (fun i x y H' s' hx hy => by
    have hjl : ((σ.set j none).set j (some x))[j]? = some (some x) := List.getElem?_set_self (by rw [List.length_set]; exact hj)
    rw [List.getElem?_map] at hy
    obtain ⟨c, hc, rfl⟩ := Option.map_eq_some_iff.mp hy
    obtain ⟨b, xs, rfl, hb, rfl⟩ : ∃ b xs, x = .ref b ∧ H b = some (.lst xs) ∧ c = (xs.length : Int) := by
      by_cases ci : i < r1.length
      · rw [List.getElem?_append_left ci] at hx
        rw [List.getElem?_append_left (by rw [ll]; omega)] at hc
        exact p1 i x c hx hc
      · rw [List.getElem?_append_right (by omega)] at hx
        rw [List.getElem?_append_right (by rw [ll]; omega), ll] at hc
        rw [l1] at hx
        exact p2 _ x c hx hc
    exact ve_of (vl_lenL (K := K) (vl_var hjl) (.of (s' _ _ hb))))
  exact vl (fun v H' => rSum K [v] H' Q) fun p H' s' np hp => ⟨p, _, rfl, .of hp, k H' s'⟩
def spLabSize (K : PySem.W.Frag) : Sp := fun vs H Q _ => ∃ (T q1 q2 : Addr) (G : Hp) (n : Nat) (L1 L2 : Int → List (Int × Int)), vs = [.ref T] ∧ H T = some (.tup [.ref q1, .ref q2]) ∧ n ≤ 1000 ∧ LabsAt G H q1 n L1 ∧ LabsAt G H q2 n L2 ∧ ∀ H', Same H H' → Q (.int (lenSum n L1 L2)) H'
/-- no place higher than x lies on a least road from s to t -/
def topP (N : Net) (os : List Int) (s t x : Int) : Prop := ∀ y a b, 0 ≤ y → y < N.n → posOf x os < posOf y os → dstN N s y = some a → dstN N y t = some b → dstN N s t ≠ some (a + b)
def spHigh (K : PySem.W.Frag) : Sp := fun vs H Q _ => ∃ (D r : Addr) (s t x c : Int) (N : Net) (os : List Int), vs = [.ref D, .ref r, .int s, .int t, .int x] ∧ SumsAt H D N ∧ NetOk N ∧ OrdOk N.n os ∧ SqL K H r ((rng N.n).map fun z => .int (posOf z os : Nat)) ∧ (0 ≤ s ∧ s < N.n) ∧ (0 ≤ t ∧ t < N.n) ∧ (0 ≤ x ∧ x < N.n) ∧ dstN N s t = some c ∧
  ∀ b, (b = true ↔ topP N os s t x) → Q (.bl b) H
section
variable {P : Program} {w : World} {K : PySem.W.Frag} {mg : Str → Option Value} {base : Heap}
end
/-! the lists as they grow -/
theorem mem_ent_snoc {D : Int → Int → Option Int} {n : Int} {os : List Int} {v x : Int} {j : Nat} (hx : (rng n)[j]? = some x) : ((rng n).take (j + 1)).filterMap (ent D n os v) = ((rng n).take j).filterMap (ent D n os v) ++ (ent D n os v x).toList := by
  rw [take_snoc hx, List.filterMap_append, List.filterMap_cons, List.filterMap_nil]
  cases ent D n os v x <;> rfl
def SideI (T : Addr → Prop) (H : Hp) (bs : List Addr) (D : Int → Int → Option Int) (n : Int) (os : List Int) (cnt : Nat → Nat) : Prop := ∀ k : Nat, k < n.toNat → ∃ b xs, bs[k]? = some b ∧ H b = some (.lst xs) ∧ TupsAt (mask T H) xs (((rng n).take (cnt k)).filterMap (ent D n os (k : Int)))
section
variable {T : Addr → Prop} {H H' : Hp} {bs : List Addr} {D : Int → Int → Option Int} {n : Int} {os : List Int} {cnt : Nat → Nat}
theorem SideI.grow (h : SideI T H bs D n os cnt) (s : Same H H') : SideI T H' bs D n os cnt := fun k hk => let ⟨b, xs, e1, e2, e3⟩ := h k hk; ⟨b, xs, e1, s _ _ e2, e3.to (mask_mono s)⟩
theorem SideI.other (h : SideI T H bs D n os cnt) {c : Addr} {o : HO} (hc : T c) (hn : c ∉ bs) : SideI T (upd H c o) bs D n os cnt := fun k hk => let ⟨b, xs, e1, e2, e3⟩ := h k hk; ⟨b, xs, e1, by
  rw [upd_ne (fun z => hn (by rw [← z]; exact List.mem_of_getElem? e1))]
  exact e2, by
  rw [mask_upd hc]
  exact e3⟩
theorem SideI.skip (h : SideI T H bs D n os cnt) {k j : Nat} {x : Int} (hj : cnt k = j) (hx : (rng n)[j]? = some x) (he : ent D n os (k : Int) x = none) : SideI T H bs D n os (fun m => if m = k then j + 1 else cnt m) := fun m hm => by
  obtain ⟨b, xs, e1, e2, e3⟩ := h m hm
  refine ⟨b, xs, e1, e2, ?_⟩
  by_cases c : m = k
  · subst c
    dsimp only
    rw [if_pos rfl, mem_ent_snoc hx, he]
    rw [hj] at e3
    rw [show (none : Option (Int × Int)).toList = [] from rfl, List.append_nil]
    exact e3
  · dsimp only
    rw [if_neg c]
    exact e3
theorem SideI.app (h : SideI T H bs D n os cnt) (nd : bs.Nodup) {k j : Nat} {x d : Int} {b t : Addr} {xs : List V} (hk : k < n.toNat) (hb : bs[k]? = some b) (hT : T b) (hH : H b = some (.lst xs)) (hj : cnt k = j) (hx : (rng n)[j]? = some x) (he : ent D n os (k : Int) x = some (x, d)) (ht : H t = some (.tup [.int x, .int d])) (nt : ¬ T t) :
    SideI T (upd H b (.lst (xs ++ [.ref t]))) bs D n os (fun m => if m = k then j + 1 else cnt m) := fun m hm => by
  obtain ⟨b', xs', e1, e2, e3⟩ := h m hm
  by_cases c : m = k
  · subst c
    cases hb.symm.trans e1
    cases hH.symm.trans e2
    refine ⟨b, _, hb, upd_same, ?_⟩
    dsimp only
    rw [if_pos rfl, mem_ent_snoc hx, he, mask_upd hT]
    rw [hj] at e3
    exact e3.app (TupsAt.one (by rw [mask_ne nt]; exact ht))
  · have ne : b' ≠ b := fun z => by
      rw [z] at e1
      have h1 := (List.getElem?_eq_some_iff.mp e1).1
      exact c ((List.getElem?_inj h1 nd).mp (e1.trans hb.symm))
    refine ⟨b', xs', e1, by rw [upd_ne ne]; exact e2, ?_⟩
    dsimp only
    rw [if_neg c, mask_upd hT]
    exact e3
end
/-- [[] for place in range(n)] -/
theorem lc_nilsR {K : PySem.W.Frag} {σ : L2.St} {H : Hp} {tr : TA} {j : Nat} {n : Int} {Q : VK} (hl : Va tr σ H [.int n]) (h0 : 0 ≤ n) (hz : n ≤ 1000) (q : ∀ D H' (bs : List Addr), Same H H' → H D = none → H' D = some (.lst (bs.map V.ref)) → bs.length = n.toNat → bs.Nodup → (∀ b ∈ bs, H b = none ∧ b ≠ D ∧ H' b = some (.lst [])) → Q (.ref D) H') : tLc (iRng1 tr) (gName j) tYes (tLst tNil) [j] σ H Q := by
  refine hl _ ⟨n, rfl, by omega, by omega, fun D nD => lc_range (lo := 0) (n := n.toNat) (fun i H' => ∃ bs : List Addr, H' D = some (.lst (bs.map V.ref)) ∧ Same H H' ∧ bs.length = i ∧ bs.Nodup ∧ ∀ b ∈ bs, H b = none ∧ b ≠ D ∧ H' b = some (.lst [])) ⟨[], upd_same, same_upd nD, rfl, List.nodup_nil, fun _ h => nomatch h⟩ (fun i H' hi hP => ?_) (fun H' hP => ?_)⟩
  · obtain ⟨bs, hD, s2, hl, nd, hb⟩ := hP
    refine ⟨?_, yes_of (if_true_of rfl ⟨Nat.zero_le _, fun T nT => ?_⟩)⟩
    · show ((σ.set j none).set j _).set j none = σ.set j none
      rw [List.set_set, List.set_set]
    · have TD : T ≠ D := fun z => by
        rw [z, hD] at nT
        cases nT
      refine ⟨bs.map V.ref, same_upd nT _ _ hD, ?_, bs ++ [T], ?_, same_upd' (s2.trans (same_upd nT)) nD, ?_, ?_, fun b hm => ?_⟩
      · rw [List.length_map, hl]
        exact Nat.lt_of_le_of_lt (m := 1000) (by omega) (by decide)
      · rw [upd_same, List.map_append]
        rfl
      · rw [List.length_append, hl]
        rfl
      · refine List.nodup_append.mpr ⟨nd, List.nodup_cons.mpr ⟨List.not_mem_nil, List.nodup_nil⟩, fun a ha b hb' e => ?_⟩
        rw [List.mem_singleton.mp hb'] at e
        rw [e] at ha
        have := (hb T ha).2.2
        rw [nT] at this
        cases this
      · rcases List.mem_append.mp hm with hm | hm
        · obtain ⟨h1, h2, h3⟩ := hb b hm
          exact ⟨h1, h2, by rw [upd_ne h2]; exact same_upd nT _ _ h3⟩
        · rw [List.mem_singleton.mp hm]
          exact ⟨Same.free s2 nT, TD, by rw [upd_ne TD]; exact upd_same⟩
  · obtain ⟨bs, hD, s2, hl, nd, hb⟩ := hP
    exact q D H' bs s2 nD hD hl nd hb
open Classical in
theorem an_highest {K : PySem.W.Frag} {σ : L2.St} {H : Hp} {D r : Addr} {N : Net} {os : List Int} {s t x : Int} {ia ib ic : Nat} (h2 : σ[2]? = some (some (.ref D))) (h3 : σ[3]? = some (some (.ref r))) (ha : σ[ia]? = some (some (.int s))) (hb : σ[ib]? = some (some (.int t))) (hc : σ[ic]? = some (some (.int x)))
    (hS : SumsAt H D N) (ok : NetOk N) (oo : OrdOk N.n os) (hr : SqL K H r ((rng N.n).map fun z => .int (posOf z os : Nat))) (hs : 0 ≤ s ∧ s < N.n) (ht : 0 ≤ t ∧ t < N.n) (hx : 0 ≤ x ∧ x < N.n) :
    An (tAnd (tTest (tOp (fun x y H Q => y = V.non ∧ Q (V.bl (!decide (x = V.non))) H) (tOp (rIxL K) (tOp (rIxL K) (tVar 2) (tVar ia)) (tVar ib)) (tC .non))) (tB (tCall (spHigh K) [] E0 (tCons (tVar 2) (tCons (tVar 3) (tCons (tVar ia) (tCons (tVar ib) (tCons (tVar ic) tNil)))))))) σ H (decide (∃ c, dstN N s t = some c ∧ topP N os s t x)) := by
  have v1 := vl_sums2 (K := K) (vl_var h2) (vl_var ha) (vl_var hb) hS hs ht
  cases e : dstN N s t with
  | none =>
    rw [e] at v1
    have : decide (∃ c, (none : Option Int) = some c ∧ topP N os s t x) = false := decide_eq_false fun ⟨c, h, _⟩ => nomatch h
    rw [this]
    exact (an_and (k := false) (m := false) (an_test ((vl_notN v1).is rfl)) fun h => nomatch h).is rfl
  | some c =>
    rw [e] at v1
    refine (an_and (k := true) (m := decide (topP N os s t x)) (an_test ((vl_notN v1).is rfl)) fun _ => an_B fun Q k => ⟨_, h2, _, h3, _, ha, _, hb, _, hc, D, r, s, t, x, c, N, os, rfl, hS, ok, oo, hr, hs, ht, hx, e, fun b hb => ?_⟩).is ?_
    · rw [Bool.true_and, Bool.eq_iff_iff, decide_eq_true_eq, decide_eq_true_eq]
      exact ⟨fun h => ⟨c, rfl, h⟩, fun ⟨_, _, h⟩ => h⟩
    · have : b = decide (topP N os s t x) := by
        rw [Bool.eq_iff_iff, decide_eq_true_eq]
        exact hb
      rw [this]
      exact k
def cntI (n i j : Nat) : Nat → Nat := fun k => if k < i then n else if k = i then j else 0
theorem cnt_next {n i j : Nat} : (fun m => if m = i then j + 1 else cntI n i j m) = cntI n i (j + 1) := funext fun m => by
  unfold cntI
  by_cases c : m = i
  · subst c
    rw [if_pos rfl, if_neg (Nat.lt_irrefl _), if_pos rfl]
  · rw [if_neg c, if_neg c, if_neg c]
theorem cnt_end {n i : Nat} : cntI n i n = cntI n (i + 1) 0 := funext fun m => by
  unfold cntI
  by_cases c : m < i
  · rw [if_pos c, if_pos (by omega)]
  · rw [if_neg c]
    by_cases c2 : m = i
    · rw [if_pos c2, if_pos (by omega)]
    · rw [if_neg c2, if_neg (by omega), ite_self]
theorem cnt_all {n k : Nat} (h : k < n) : cntI n n 0 k = n := if_pos h
theorem cnt_none {n k : Nat} : cntI n 0 0 k = 0 := by
  unfold cntI
  rw [if_neg (Nat.not_lt_zero _), ite_self]
theorem cnt_at {n i j : Nat} : cntI n i j i = j := by
  unfold cntI
  rw [if_neg (Nat.lt_irrefl _), if_pos rfl]
def spLLabels (K : PySem.W.Frag) : Sp := fun vs H Q _ => ∃ (v : V) (p : Addr) (N : Net) (os : List Int), vs = [v, .ref p] ∧ Dp K H v (netD N) ∧ NetOk N ∧ SqL K H p (os.map V.int) ∧ OrdOk N.n os ∧
  ∀ H' T q1 q2, Same H H' → H T = none → H' T = some (.tup [.ref q1, .ref q2]) → LabsAt H H' q1 N.n.toNat (labF (dstN N) N.n os) → LabsAt H H' q2 N.n.toNat (labF (fun x y => dstN N y x) N.n os) → Q (.ref T) H'
theorem top_fwd {N : Net} {os : List Int} {v x : Int} : topP N os v x x ↔ hiP (dstN N) N.n os v x := Iff.rfl
theorem top_bwd {N : Net} {os : List Int} {v x : Int} : topP N os x v x ↔ hiP (fun x y => dstN N y x) N.n os v x := by
  constructor
  · intro h y a b h0 h1 hl ha hb e
    exact h y b a h0 h1 hl hb ha (by rw [Int.add_comm]; exact e)
  · intro h y a b h0 h1 hl ha hb e
    exact h y b a h0 h1 hl hb ha (by rw [Int.add_comm]; exact e)
section
variable {P : Program} {w : World} {K : PySem.W.Frag} {mg : Str → Option Value} {base : Heap}
end
/-! ### sums until nothing betters -/
theorem bf_in {N : Net} (ok : NetOk N) {s : Int} (hs : 0 ≤ s ∧ s < N.n) : ∀ (t : Nat) (z c : Int), bf yesB N.ls s t z = some c → 0 ≤ z ∧ z < N.n
  | 0, z, c, h => by
    unfold bf bf0 at h
    by_cases e : z = s
    · rw [e]
      exact hs
    · rw [if_neg e] at h
      cases h
  | t + 1, z, c, h => rnd_sound (ext := yesB) (P := fun z _ => 0 ≤ z ∧ z < N.n) N.ls (bf yesB N.ls s t) (fun z c h => bf_in ok hs t z c h) (fun l hl => by
      have lo := ok.ok l hl
      have a0 := lo.a0
      have ab := lo.ab
      have bn := lo.bn
      exact ⟨fun _ _ _ _ _ => ⟨by omega, by omega⟩, fun _ _ _ _ _ => ⟨by omega, by omega⟩⟩) z c h
theorem bf_fix {N : Net} (ok : NetOk N) {s : Int} (hs : 0 ≤ s ∧ s < N.n) {i : Nat} (h : ∀ z ∈ rng N.n, bf yesB N.ls s (i + 1) z = bf yesB N.ls s i z) : ∀ k, bf yesB N.ls s (i + k) = bf yesB N.ls s i := by
  have e : bf yesB N.ls s (i + 1) = bf yesB N.ls s i := funext fun z => by
    by_cases c : 0 ≤ z ∧ z < N.n
    · exact h z (mem_rng.mpr c)
    · have no : ∀ t, bf yesB N.ls s t z = none := fun t => by
        cases e : bf yesB N.ls s t z with
        | none => rfl
        | some d => exact absurd (bf_in ok hs t z d e) c
      rw [no, no]
  intro k
  induction k with
  | zero => rfl
  | succ k ih =>
    show rnd yesB N.ls (bf yesB N.ls s (i + k)) = _
    rw [ih]
    exact e
theorem eqv_oDs {f g : Int → Option Int} : ∀ xs : List Int, PyData.eqv (.list (xs.map fun x => oD (f x))) (.list (xs.map fun x => oD (g x))) = decide (∀ x ∈ xs, f x = g x)
  | [] => by
    rw [decide_eq_true (fun _ h => nomatch h)]
    rfl
  | x :: xs => by
    show (PyData.eqv (oD (f x)) (oD (g x)) && PyData.eqv (.list (xs.map fun x => oD (f x))) (.list (xs.map fun x => oD (g x)))) = _
    rw [eqv_o, eqv_oDs xs, Bool.eq_iff_iff, Bool.and_eq_true, decide_eq_true_eq, decide_eq_true_eq, decide_eq_true_eq]
    exact ⟨fun h z hz => (List.mem_cons.mp hz).elim (fun e => by rw [e]; exact h.1) (h.2 z), fun h => ⟨h x List.mem_cons_self, fun z hz => h z (List.mem_cons_of_mem _ hz)⟩⟩
def spSums34 (K : PySem.W.Frag) : Sp := fun vs H Q _ => ∃ (v : V) (N : Net) (s : Int), vs = [v, .int s] ∧ Dp K H v (netD N) ∧ NetOk N ∧ 0 ≤ s ∧ s < N.n ∧
  ∀ (H' : Hp) (q : Addr), Same H H' → H q = none → H' q = some (.lst ((rng N.n).map fun z => oV (dstN N s z))) → Q (.ref q) H'
abbrev sSums34 : Stmt := topS 40
theorem scSums34 : FnScope ["net", "start", "sums", "turn", "before", "a", "b", "there", "back", "x", "y", "price", "place"] ["net", "start"] (defScope sSums34) := ⟨rfl, rfl, rfl, by decide +kernel, rfl, by decide +kernel, by decide +kernel⟩
section
variable {P : Program} {w : World} {K : PySem.W.Frag} {mg : Str → Option Value} {base : Heap}
theorem ok_sums34 {f : Addr} {fd : FuncData} {k : Nat} (F : Fun K "_law_sums" "_law_sums" sSums34 f fd) (mr : mg "range" = none) (mL : mg "list" = none) : FnOk P w K mg base CX0 (k + 1) f fd ["net", "start"] (spSums34 K) := by
  refine F.ok scSums34 (fun vs H Q E h => ?_) (fun cdv A outer s H vs Q E hr h => ?_)
  · obtain ⟨v, N, s, rfl, _⟩ := h
    rfl
  · obtain ⟨v, N, s, rfl, hN, ok, hs0, hs1, q⟩ := h
    refine ⟨_, pss_cons (ps_setLc (i := 2) (own := [("place", 12)]) (g := gName 12) (tt := tYes) (te := (tC .non)) (by rfl) scSums34.nd rfl rfl (sw_true rfl rfl rfl (by decide +kernel)) (pi_range1 (by rfl) mr (pa_cons (pe_ix ix_tup (pv 0) pe_int (fun _ _ => rfl)) pa_nil)) (blkOk_by (own := [("place", 12)]) (N := ["net", "start", "sums", "turn", "before", "a", "b", "there", "back", "x", "y", "price", "place"]) (sc := defScope sSums34) (by decide +kernel)) (fun _ _ _ _ _ => pg_name (i := 12) scSums34.nd rfl (Or.inl rfl)) (fun _ _ _ _ _ => by exact pts_nil) (fun _ _ _ _ _ => by exact pe_non))
      (pss_cons (ps_asg pe_int (pg_sub (pv 2) (pv 1) set_list))
      (pss_cons (ps_for PassesOwn.never rfl (pi_range1 (by rfl) mr (pa_cons (pe_ix ix_tup (pv 0) pe_int (fun _ _ => rfl)) pa_nil)) (pg_name (i := 3) scSums34.nd rfl (.inl rfl))
      (pss_cons (ps_set (i := 4) scSums34.nd rfl (.inl rfl) (pe_callTy call_list_of (by rfl) mL (by decide +kernel) (pa_cons (pv 2) pa_nil)))
        (pss_cons (ps_for PassesOwn.never rfl (pi_list (pe_ix ix_tup (pv 0) pe_int (fun _ _ => rfl))) (pg_tup rfl (pgs_cons (pg_name (i := 5) scSums34.nd rfl (.inl rfl)) (pgs_cons (pg_name (i := 6) scSums34.nd rfl (.inl rfl)) (pgs_cons (pg_name (i := 7) scSums34.nd rfl (.inl rfl)) (pgs_cons (pg_name (i := 8) scSums34.nd rfl (.inl rfl)) pgs_nil)))))
        (pss_one (ps_for PassesOwn.never rfl (pi_list (pe_lst (pa_cons (pe_tup (pa_cons (pv 5) (pa_cons (pv 6) (pa_cons (pv 7) pa_nil)))) (pa_cons (pe_tup (pa_cons (pv 6) (pa_cons (pv 5) (pa_cons (pv 8) pa_nil)))) pa_nil)))) (pg_tup rfl (pgs_cons (pg_name (i := 9) scSums34.nd rfl (.inl rfl)) (pgs_cons (pg_name (i := 10) scSums34.nd rfl (.inl rfl)) (pgs_cons (pg_name (i := 11) scSums34.nd rfl (.inl rfl)) pgs_nil))))
          (pss_one (ps_if (PW.pt (pw_and (pt_cmpR op_notN (pv 11) pe_non (nomark _)) (pw_and1 (pt_cmpR op_notN (pe_ix ix_list (pv 2) (pv 9) (fun _ _ => rfl)) pe_non (nomark _)))))
            (pss_one (ps_if (PW.pt (pw_or (pt_cmpR op_isN (pe_ix ix_list (pv 2) (pv 10) (fun _ _ => rfl)) pe_non (nomark _)) (pw_or1 (pt_cmpR op_lt (pe_op op_add (pe_ix ix_list (pv 2) (pv 9) (fun _ _ => rfl)) (pv 11)) (pe_ix ix_list (pv 2) (pv 10) (fun _ _ => rfl)) (nomark _)))))
              (pss_one (ps_asg (pe_op op_add (pe_ix ix_list (pv 2) (pv 9) (fun _ _ => rfl)) (pv 11)) (pg_sub (pv 2) (pv 10) set_list)))
              pss_nil))
            pss_nil)))))
        (pss_one (ps_if (pt_cmpR (op_eqD hr.units) (pv 2) (pv 4) (nomark _))
        (pss_one (ps_ret (pv 2)))
        pss_nil)))))
      (pss_one (ps_ret (pv 2))))), ?_⟩
    obtain ⟨p, c, xs, rfl, hp, hc, hx⟩ := Dp.net_inv hN
    have n40 := ok.n40
    have n1 := ok.n1
    have e0 : (((List.range N.n.toNat).map fun (i : Nat) => (i : Int)).filter fun _ => true) = rng N.n := List.filter_eq_self.mpr fun _ _ => rfl
    refine q_asgN (xs := (rng N.n).map fun _ => V.non) ?_ fun o H1 s1 no ho => ?_
    · rw [← e0]
      exact vn_lcR (va_cons (vl_ixT (K := K) (vl_var rfl) vl_c hp (atI_nat (j := 0) rfl)) va_nil) (by omega) (by omega) (fun x _ _ H' s' => an_yes) (fun x _ _ H' s' => vl_c)
    obtain ⟨sn, rfl⟩ := Int.eq_ofNat_of_zero_le hs0
    refine q_setE (k := sn) (ve_of vl_c) (fun _ _ => vl_var rfl) (fun _ _ => vl_var rfl) ho (by rw [List.length_map, len_rng]; omega) fun H1' s1' => ?_
    have s01 : Same H (but (upd H1' o (.lst (((rng N.n).map fun _ => V.non).set sn (.int 0)))) o) := by
      rw [but_upd]
      exact same_but (s1.trans s1') no
    have ho1 : upd H1' o (.lst (((rng N.n).map fun _ => V.non).set sn (.int 0))) o = some (.lst ((rng N.n).map fun z => oV (bf0 (sn : Int) z))) := by
      rw [upd_same, rng_set]
      congr 3
      funext z
      unfold updF bf0
      split <;> rfl
    generalize upd H1' o (.lst (((rng N.n).map fun _ => V.non).set sn (.int 0))) = H2 at s01 ho1
    refine q_forR (n := N.n) (va_cons (vl_ixT (K := K) (vl_var rfl) vl_c (seqT (s01.trans but_same) hp) (atI_nat (j := 0) rfl)) va_nil) ⟨by omega, by omega⟩
      (fun i σ H3 => ∃ y3 y4 y5 y6 y7 y8 y9 y10 y11, σ = [some (.ref p), some (.int (sn : Int)), some (.ref o), y3, y4, y5, y6, y7, y8, y9, y10, y11, none] ∧ Same H (but H3 o) ∧ H3 o = some (.lst ((rng N.n).map fun z => oV (bf yesB N.ls sn i z))))
      ⟨_, _, _, _, _, _, _, _, _, rfl, s01, ho1⟩ (fun i σ H3 hi hP => ?_) (fun σ H3 hP => ?_)
    · obtain ⟨y3, y4, y5, y6, y7, y8, y9, y10, y11, rfl, s3, ho⟩ := hP
      refine q_asgN (vn_listOf (K := K) (vl_var rfl) (.of ho)) fun bf0_ H3' s3' nb eb => ?_
      have bo : bf0_ ≠ o := fun e => by
        rw [e, ho] at nb
        cases nb
      have ho := s3' _ _ ho
      have s3 : Same H (but H3' o) := s3.trans (but_mono s3')
      have eb0 : but H3' o bf0_ = some (.lst ((rng N.n).map fun z => oV (bf yesB N.ls sn i z))) := by
        rw [but_ne bo]
        exact eb
      refine q_forLnk (j1 := 5) (j2 := 6) (j3 := 7) (j4 := 8) (Hb := H) (vl_ixT (K := K) (vl_var rfl) vl_c (seqT (s3.trans but_same) hp) (atI_nat (j := 1) rfl)) hc hx (s3.trans but_same)
        (fun j σ H4 => ∃ y5 y6 y7 y8 y9 y10 y11, σ = [some (.ref p), some (.int (sn : Int)), some (.ref o), some (.int (i : Int)), some (.ref bf0_), y5, y6, y7, y8, y9, y10, y11, none] ∧ Same (but H3' o) (but H4 o) ∧ H4 o = some (.lst ((rng N.n).map fun z => oV ((N.ls.take j).foldl (rlxL yesB) (bf yesB N.ls sn i) z))))
        ⟨_, _, _, _, _, _, _, rfl, Same.refl _, ho⟩ (fun j σ H4 hP => ?_) (fun j l σ H4 hj hP => ?_) (fun σ H4 hP => ?_)
      · obtain ⟨_, _, _, _, _, _, _, _, s4, _⟩ := hP
        exact s3.trans (s4.trans but_same)
      · obtain ⟨y5, y6, y7, y8, y9, y10, y11, rfl, s4, ho⟩ := hP
        rw [fold_take hj]
        have lo := ok.ok l (List.mem_of_getElem? hj)
        have a0 := lo.a0
        have ab := lo.ab
        have bn := lo.bn
        generalize (N.ls.take j).foldl (rlxL yesB) (bf yesB N.ls sn i) = f0 at ho
        refine g_for3L (K := K) (d1 := (l.a, l.b, l.t)) (d2 := (l.b, l.a, l.k)) (vl_var rfl) (vl_var rfl) (vl_var rfl) (fun _ _ => vl_var rfl) (fun _ _ => vl_var rfl) (fun _ _ => vl_var rfl) fun L T1 T2 H5 s5 eL e1 e2 => ?_
        have oL : L ≠ o := fun e => by
          rw [e, s5 _ _ ho] at eL
          injection eL with eL
          injection eL with eL
          have := congrArg List.length eL
          rw [List.length_map, len_rng] at this
          have h0 : ((rng N.n).map fun z => oV (f0 z))[0]? = some (V.ref T1) := by
            rw [eL]
            rfl
          rw [List.getElem?_map, rngG (by omega)] at h0
          have h0 : some (oV (f0 (0 : Nat))) = some (V.ref T1) := h0
          cases e : f0 (0 : Nat) with
          | none => rw [e] at h0; cases h0
          | some z => rw [e] at h0; cases h0
        have oT1 : T1 ≠ o := fun e => by
          rw [e, s5 _ _ ho] at e1
          cases e1
        have oT2 : T2 ≠ o := fun e => by
          rw [e, s5 _ _ ho] at e2
          cases e2
        refine g_for3 (K := K) (Hb := but H5 o) (L := L) (T1 := T1) (T2 := T2) (d1 := (l.a, l.b, l.t)) (d2 := (l.b, l.a, l.k)) (by rw [but_ne oL]; exact eL) (by rw [but_ne oT1]; exact e1) (by rw [but_ne oT2]; exact e2)
          (fun m σ H6 => ∃ y9 y10 y11, σ = [some (.ref p), some (.int (sn : Int)), some (.ref o), some (.int (i : Int)), some (.ref bf0_), some (.int l.a), some (.int l.b), some (oV l.t), some (oV l.k), y9, y10, y11, none] ∧ Same (but H5 o) (but H6 o) ∧ H6 o = some (.lst ((rng N.n).map fun z => oV (([(l.a, l.b, l.t), (l.b, l.a, l.k)].take m).foldl (fun f d => rlx yesB f d.1 d.2.1 d.2.2) f0 z))))
          ⟨_, _, _, rfl, Same.refl _, s5 _ _ ho⟩ (fun m σ H6 hP => ?_) (fun m d σ H6 hm hP => ?_) (fun σ H6 hP => ?_)
        · obtain ⟨_, _, _, _, s6, _⟩ := hP
          exact s6.trans but_same
        · obtain ⟨y9, y10, y11, rfl, s6, ho⟩ := hP
          rw [fold_take hm]
          generalize ([(l.a, l.b, l.t), (l.b, l.a, l.k)].take m).foldl (fun f d => rlx yesB f d.1 d.2.1 d.2.2) f0 = g at ho
          have hd : (0 ≤ d.1 ∧ d.1 < N.n) ∧ (0 ≤ d.2.1 ∧ d.2.1 < N.n) := by
            have := List.mem_of_getElem? hm
            simp only [List.mem_cons, List.not_mem_nil, or_false] at this
            rcases this with e | e <;> rw [e] <;> dsimp only <;> omega
          obtain ⟨x, y, pr⟩ := d
          dsimp only at hd ⊢
          have gx : Vl (tOp (rIxL K) (tVar 2) (tVar 9)) [some (.ref p), some (.int (sn : Int)), some (.ref o), some (.int (i : Int)), some (.ref bf0_), some (.int l.a), some (.int l.b), some (oV l.t), some (oV l.k), some (.int x), some (.int y), some (oV pr), none] H6 (oV (g x)) := vl_ixL (vl_var rfl) (vl_var rfl) (.of ho) (rng_at (g := fun z => oV (g z)) hd.1)
          have gy : Vl (tOp (rIxL K) (tVar 2) (tVar 10)) [some (.ref p), some (.int (sn : Int)), some (.ref o), some (.int (i : Int)), some (.ref bf0_), some (.int l.a), some (.int l.b), some (oV l.t), some (oV l.k), some (.int x), some (.int y), some (oV pr), none] H6 (oV (g y)) := vl_ixL (vl_var rfl) (vl_var rfl) (.of ho) (rng_at (g := fun z => oV (g z)) hd.2)
          have same : rlx yesB g x y pr = g → ∃ y9 y10 y11, [some (V.ref p), some (.int (sn : Int)), some (.ref o), some (.int (i : Int)), some (.ref bf0_), some (.int l.a), some (.int l.b), some (oV l.t), some (oV l.k), some (.int x), some (.int y), some (oV pr), none] = [some (.ref p), some (.int (sn : Int)), some (.ref o), some (.int (i : Int)), some (.ref bf0_), some (.int l.a), some (.int l.b), some (oV l.t), some (oV l.k), y9, y10, y11, none] ∧ Same (but H5 o) (but H6 o) ∧ H6 o = some (.lst ((rng N.n).map fun z => oV (rlx yesB g x y pr z))) := fun e => ⟨_, _, _, rfl, s6, by rw [e]; exact ho⟩
          cases epr : pr with
          | none =>
            rw [epr] at same gx gy
            refine g_when (b := false) (an_and (k := false) (m := false) (an_test ((vl_notN (vl_var rfl)).is rfl)) fun h => by cases h) (fun h => by cases h) (fun _ => ?_)
            exact same rfl
          | some pv_ =>
            rw [epr] at same gx gy
            cases egx : g x with
            | none =>
              rw [egx] at gx
              refine g_when (b := false) ((an_and (k := true) (m := false) (an_test ((vl_notN (vl_var rfl)).is rfl)) fun _ => an_test ((vl_notN gx).is rfl)).is rfl) (fun h => by cases h) (fun _ => ?_)
              refine same ?_
              unfold rlx
              rw [egx]
            | some b =>
              rw [egx] at gx
              refine g_when (b := true) ((an_and (k := true) (m := true) (an_test ((vl_notN (vl_var rfl)).is rfl)) fun _ => an_test ((vl_notN gx).is rfl)).is rfl) (fun _ => ?_) (fun h => by cases h)
              have put : rlx yesB g x y (some pv_) = updF g y (some (b + pv_)) → tAsg (tOp (rI0 fun i j => .int (i + j)) (tOp (rIxL K) (tVar 2) (tVar 9)) (tVar 11)) (gSub (tVar 2) (tVar 10) rSetL) { nx := fun σ H7 => ∃ y9 y10 y11, σ = [some (.ref p), some (.int (sn : Int)), some (.ref o), some (.int (i : Int)), some (.ref bf0_), some (.int l.a), some (.int l.b), some (oV l.t), some (oV l.k), y9, y10, y11, none] ∧ Same (but H5 o) (but H7 o) ∧ H7 o = some (.lst ((rng N.n).map fun z => oV (rlx yesB g x y (some pv_) z))), rt := fun _ _ => True, bk := fun _ _ => True, ct := fun _ _ => True } [some (.ref p), some (.int (sn : Int)), some (.ref o), some (.int (i : Int)), some (.ref bf0_), some (.int l.a), some (.int l.b), some (oV l.t), some (oV l.k), some (.int x), some (.int y), some (.int pv_), none] H6 := fun e => by
                obtain ⟨yn, rfl⟩ := Int.eq_ofNat_of_zero_le hd.2.1
                refine g_setE (k := yn) (v := .int (b + pv_)) (ve_of (vl_I0 gx (vl_var rfl))) (fun _ _ => vl_var rfl) (fun _ _ => vl_var rfl) ho (by rw [List.length_map, len_rng]; omega) fun H7 s7 => ⟨_, _, _, rfl, ?_, ?_⟩
                · rw [but_upd]
                  exact s6.trans (but_mono s7)
                · rw [upd_same, rng_set, e]
                  congr 3
                  rw [map_updF]
                  rfl
              cases egy : g y with
              | none =>
                rw [egy] at gy
                refine g_when (b := true) (an_or (k := true) (m := true) (an_test ((vl_isN gy).is rfl)) fun h => by cases h) (fun _ => ?_) (fun h => by cases h)
                refine put ?_
                unfold rlx
                rw [egx, egy]
                rfl
              | some d2 =>
                rw [egy] at gy
                refine g_when (b := decide (b + pv_ < d2)) ((an_or (k := false) (m := decide (b + pv_ < d2)) (an_test ((vl_isN gy).is rfl)) fun _ => an_test (vl_I0 (g := fun i j => .bl (decide (i < j))) (vl_I0 gx (vl_var rfl)) gy)).is (Bool.false_or _)) (fun h => ?_) (fun h => ?_)
                · refine put ?_
                  unfold rlx
                  rw [egx, egy]
                  show (if b + pv_ < d2 then _ else _) = _
                  rw [if_pos (of_decide_eq_true h)]
                · refine same ?_
                  unfold rlx
                  rw [egx, egy]
                  show (if b + pv_ < d2 then _ else _) = _
                  rw [if_neg (of_decide_eq_false h)]
        · obtain ⟨y9, y10, y11, rfl, s6, ho⟩ := hP
          exact ⟨_, _, _, _, _, _, _, rfl, s4.trans ((but_mono s5).trans s6), ho⟩
      · obtain ⟨y5, y6, y7, y8, y9, y10, y11, rfl, s4, ho⟩ := hP
        rw [List.take_length] at ho
        have ho : H4 o = some (.lst ((rng N.n).map fun z => oV (bf yesB N.ls sn (i + 1) z))) := ho
        have eb4 := but_same _ _ (s4 _ _ eb0)
        have s04 : Same H (but H4 o) := s3.trans s4
        have tst : An (tTest (tOp (rEqD K) (tVar 2) (tVar 4))) [some (.ref p), some (.int (sn : Int)), some (.ref o), some (.int (i : Int)), some (.ref bf0_), y5, y6, y7, y8, y9, y10, y11, none] H4 (decide (∀ z ∈ rng N.n, bf yesB N.ls sn (i + 1) z = bf yesB N.ls sn i z)) := by
          refine an_test (vl_op (vl_var rfl) (vl_var rfl) fun Q k => ⟨.list ((rng N.n).map fun z => oD (bf yesB N.ls sn (i + 1) z)), .list ((rng N.n).map fun z => oD (bf yesB N.ls sn i z)), .lst (.of ho) (DpAll.oDs _ _), .lst (.of eb4) (DpAll.oDs _ _), shaped_oDs _ _, shaped_oDs _ _, ?_⟩)
          rw [eqv_oDs]
          exact k
        refine g_when tst (fun h => ?_) (fun _ => ⟨_, _, _, _, _, _, _, _, _, rfl, s04, ho⟩)
        have fx := bf_fix ok (s := (sn : Int)) ⟨hs0, hs1⟩ (of_decide_eq_true h) (N.n.toNat - i)
        rw [show i + (N.n.toNat - i) = N.n.toNat by omega] at fx
        refine g_ret (vl_var rfl) (q H4 o (s04.trans but_same) no ?_)
        rw [ho]
        congr 2
        refine List.map_congr_left fun z hz => ?_
        rw [of_decide_eq_true h z hz]
        unfold dstN
        rw [fx]
    · obtain ⟨y3, y4, y5, y6, y7, y8, y9, y10, y11, rfl, s3, ho⟩ := hP
      exact g_ret (vl_var rfl) (q H3 o (s3.trans but_same) no ho)
end
/-! ### the greedy order is an order -/
def spGreedy (K : PySem.W.Frag) : Sp := fun vs H Q _ => ∃ (v : V) (N : Net), vs = [v] ∧ Dp K H v (netD N) ∧ NetOk N ∧ ∀ H' p, Same H H' → H p = none → H' p = some (.lst ((greedyOf N).map V.int)) → Q (.ref p) H'
theorem gr_perm : ∀ (k : Nat) (L : List Int) (adj : Int → Int → Bool), L.length = k → (gr k L adj).Perm L
  | 0, L, adj, h => by
    rw [List.eq_nil_of_length_eq_zero h]
    exact List.Perm.refl _
  | k + 1, [], adj, h => by cases h
  | k + 1, p :: r, adj, h => by
    show (pick (deg (p :: r) adj) p (p :: r) :: gr k ((p :: r).erase (pick (deg (p :: r) adj) p (p :: r))) (joinB adj (pick (deg (p :: r) adj) p (p :: r)))).Perm (p :: r)
    have hm : pick (deg (p :: r) adj) p (p :: r) ∈ p :: r := pick_mem
    generalize pick (deg (p :: r) adj) p (p :: r) = b at hm
    have hl : ((p :: r).erase b).length = k := by
      rw [List.length_erase_of_mem hm, h]
      rfl
    exact ((gr_perm k _ _ hl).cons b).trans (List.perm_cons_erase hm).symm
theorem greedy_ord {N : Net} (ok : NetOk N) : OrdOk N.n (greedyOf N) := gr_perm _ _ _ (by
  have := ok.n1
  have := len_rng (n := N.n)
  omega)
theorem rng_ord {n : Int} : OrdOk n (rng n) := List.Perm.refl _
theorem OrdOk.rev {n : Int} {os : List Int} (h : OrdOk n os) : OrdOk n os.reverse := (List.reverse_perm os).trans h
end Ovc
namespace L2
open PySem PySem.Spec PyProof.Rows
/-! ### min of a list of pairs of ints -/
def prDI (x : Int × Int) : PyData := .tuple [.int x.1, .int x.2]
def prLt (x y : Int × Int) : Bool := decide (x.1 < y.1) || (decide (x.1 = y.1) && decide (x.2 < y.2))
theorem lt_prDI (x y : Int × Int) : PySem.W.dataLt (prDI x) (prDI y) = prLt x y := by
  obtain ⟨a, b⟩ := x
  obtain ⟨c, d⟩ := y
  have e : PySem.W.dataLt (prDI (a, b)) (prDI (c, d)) = (decide ((1 : Int) < 1) || (!decide ((1 : Int) < 1) && (decide (a < c) || (!decide (c < a) && (decide ((1 : Int) < 1) || (!decide ((1 : Int) < 1) && (decide (b < d) || (!decide (d < b) && (decide ((0 : Int) < 0) || (!decide ((0 : Int) < 0) && false)))))))))) := by rfl
  rw [e]
  unfold prLt
  simp only [Int.lt_irrefl, decide_false, Bool.false_or, Bool.not_false, Bool.true_and, Bool.and_false, Bool.or_false]
  by_cases h1 : a < c
  · rw [decide_eq_true h1, Bool.true_or, Bool.true_or]
  · rw [decide_eq_false h1, Bool.false_or, Bool.false_or]
    by_cases h2 : c < a
    · rw [decide_eq_true h2, decide_eq_false (show ¬ a = c by omega)]
      rfl
    · rw [decide_eq_false h2, decide_eq_true (show a = c by omega)]
      rfl
def minPr (x : Int × Int) (xs : List (Int × Int)) : Int × Int := xs.foldl (fun a y => if prLt y a then y else a) x
theorem minD_prDI (x : Int × Int) (xs : List (Int × Int)) : PySem.W.minD (prDI x) (xs.map prDI) = prDI (minPr x xs) := by
  unfold PySem.W.minD minPr
  induction xs generalizing x with
  | nil => rfl
  | cons y ys ih =>
    rw [List.map_cons, List.foldl_cons, List.foldl_cons, lt_prDI]
    cases prLt y x with
    | true => exact ih y
    | false => exact ih x
theorem minPr_spec : ∀ (xs : List (Int × Int)) (x : Int × Int), minPr x xs ∈ x :: xs ∧ ∀ y ∈ x :: xs, prLt y (minPr x xs) = false
  | [], x => ⟨List.mem_cons_self, fun y hy => by
    rw [List.mem_singleton.mp hy]
    show (decide (x.1 < x.1) || (decide (x.1 = x.1) && decide (x.2 < x.2))) = false
    simp⟩
  | z :: xs, x => by
    have e : minPr x (z :: xs) = minPr (if prLt z x then z else x) xs := rfl
    rw [e]
    cases h : prLt z x with
    | true =>
      obtain ⟨h1, h2⟩ := minPr_spec xs z
      refine ⟨List.mem_cons_of_mem _ h1, fun y hy => ?_⟩
      rcases List.mem_cons.mp hy with e | e
      · have h3 := h2 z List.mem_cons_self
        rw [e]
        show prLt x (minPr z xs) = false
        generalize minPr z xs = m at h3
        unfold prLt at h h3 ⊢
        simp only [Bool.or_eq_true, Bool.and_eq_true, decide_eq_true_eq, Bool.or_eq_false_iff, Bool.and_eq_false_iff, decide_eq_false_iff_not] at h h3 ⊢
        omega
      · exact h2 y e
    | false =>
      obtain ⟨h1, h2⟩ := minPr_spec xs x
      refine ⟨?_, fun y hy => ?_⟩
      · rcases List.mem_cons.mp h1 with e | e
        · rw [show (if false = true then z else x) = x from rfl, e]
          exact List.mem_cons_self
        · exact List.mem_cons_of_mem _ (List.mem_cons_of_mem _ e)
      · rcases List.mem_cons.mp hy with e | e
        · rw [e]
          exact h2 x List.mem_cons_self
        · rcases List.mem_cons.mp e with e | e
          · have h3 := h2 x List.mem_cons_self
            rw [e]
            show prLt z (minPr x xs) = false
            generalize minPr x xs = m at h3
            unfold prLt at h h3 ⊢
            simp only [Bool.or_eq_true, Bool.and_eq_true, decide_eq_true_eq, Bool.or_eq_false_iff, Bool.and_eq_false_iff, decide_eq_false_iff_not] at h h3 ⊢
            omega
          · exact h2 y (List.mem_cons_of_mem _ e)
theorem depth_prs : ∀ L : List (Int × Int), PyData.depthAll (L.map prDI) ≤ 1
  | [] => Nat.zero_le _
  | x :: L => by
    have := depth_prs L
    show max (max 0 (max 0 0) + 1) (PyData.depthAll (L.map prDI)) ≤ 1
    omega
def rMinPr (K : PySem.W.Frag) : List V → Hp → VK → Prop := fun vs H Q => ∃ (a : Addr) (xs : List V) (L : List (Int × Int)), vs = [V.ref a] ∧ SqL K H a xs ∧ L ≠ [] ∧ DpAll K H xs (L.map prDI) ∧
  ∀ (i : Nat) v m, xs[i]? = some v → L[i]? = some m → (∀ y ∈ L, prLt y m = false) → Q v H
theorem call_minPr {X : Cx} (hc : X.calm = true) (hu : X.A.units + 64 < cLine) : CallR X (.builtin "min") (rMinPr X.K) := by
  intro pins s σ H vs us Q I r h
  obtain ⟨a, xs, L, rfl, hs, hne, hd, q⟩ := h
  obtain ⟨its, rv, hl, _⟩ := I.list hs
  rw [Vals.ref1 r]
  obtain ⟨as, rd⟩ := Dp.readsAll I (L.map prDI) xs its hd rv
  cases L with
  | nil => exact absurd rfl hne
  | cons p ps =>
    have hx : rv.length = rv.length := rfl
    refine PySem.W.min_list_data (x := prDI p) (xs := ps.map prDI) (as := as) (I.ok.hd hc) hl.isList (by simpa using rd) ⟨fun x hx y hy => ?_, fun x hx => ?_⟩ ?_ fun i v h' tk bs hi hr hk => ?_
    · obtain ⟨⟨a1, b1⟩, _, rfl⟩ := List.mem_map.mp (show x ∈ (p :: ps).map prDI from hx)
      obtain ⟨⟨a2, b2⟩, _, rfl⟩ := List.mem_map.mp (show y ∈ (p :: ps).map prDI from hy)
      rfl
    · obtain ⟨⟨a1, b1⟩, _, rfl⟩ := List.mem_map.mp (show x ∈ (p :: ps).map prDI from hx)
      exact fun z => (nomatch z)
    · have := depth_prs (p :: ps)
      show X.A.units + 1 + PyData.depthAll ((p :: ps).map prDI) < cLine
      omega
    · have hi2 : its[i]? = some v := by simpa using hi
      obtain ⟨bs2, r2, hlt, _, _⟩ := PySem.W.readsAll_at rd i v hi2
      rw [List.length_map] at hlt
      have eL : (p :: ps)[i]? = some (p :: ps)[i] := List.getElem?_eq_getElem hlt
      have eD : ((p :: ps).map prDI).getD i .none = prDI (p :: ps)[i] := by
        rw [List.getD_eq_getElem?_getD, List.getElem?_map, eL]
        rfl
      rw [eD] at r2
      rw [minD_prDI] at hr
      have e := (PyProof.Rows.reads_det (fun b o z _ => hk b o z) r2 hr).1
      have e2 : minPr p ps = (p :: ps)[i] := by
        unfold prDI at e
        injection e with e
        injection e with e3 e4
        injection e3 with e3
        injection e4 with e4
        injection e4 with e4
        exact Prod.ext e3 e4
      have hsp := (minPr_spec ps p).2
      rw [e2] at hsp
      have hxl : i < xs.length := by
        have := rv.length
        have := (List.getElem?_eq_some_iff.mp hi2).1
        omega
      have ex : xs[i]? = some xs[i] := List.getElem?_eq_getElem hxl
      obtain ⟨u, hu2, ru⟩ := rv.get ex
      cases hi2.symm.trans hu2
      exact ⟨xs[i], H, I.kept hk, ru, q i _ _ ex eL hsp⟩
end L2
namespace Ovc
open PySem PySem.Spec PyProof.Rows L2
/-! ### the least place of the fewest neighbours -/
theorem pick_least {f : Int → Nat} : ∀ {xs : List Int} {b : Int}, (b :: xs).Pairwise (· < ·) → pick f b xs ∈ b :: xs ∧ ∀ y ∈ b :: xs, f (pick f b xs) < f y ∨ (f (pick f b xs) = f y ∧ pick f b xs ≤ y)
  | [], b, _ => ⟨List.mem_cons_self, fun y hy => by
    rw [List.mem_singleton.mp hy]
    exact .inr ⟨rfl, Int.le_refl _⟩⟩
  | x :: xs, b, h => by
    have h1 := List.pairwise_cons.mp h
    have h2 := List.pairwise_cons.mp h1.2
    have hbx := h1.1 x List.mem_cons_self
    show pick f (if f x < f b then x else b) xs ∈ b :: x :: xs ∧ _
    show pick f (if f x < f b then x else b) xs ∈ b :: x :: xs ∧ ∀ y ∈ b :: x :: xs, f (pick f (if f x < f b then x else b) xs) < f y ∨ (f (pick f (if f x < f b then x else b) xs) = f y ∧ pick f (if f x < f b then x else b) xs ≤ y)
    by_cases c : f x < f b
    · rw [if_pos c]
      obtain ⟨i1, i2⟩ := pick_least (f := f) h1.2
      refine ⟨List.mem_cons_of_mem _ i1, fun y hy => ?_⟩
      rcases List.mem_cons.mp hy with e | e
      · have := i2 x List.mem_cons_self
        rw [e]
        omega
      · exact i2 y e
    · rw [if_neg c]
      obtain ⟨i1, i2⟩ := pick_least (f := f) (xs := xs) (b := b) (List.pairwise_cons.mpr ⟨fun y hy => h1.1 y (List.mem_cons_of_mem _ hy), h2.2⟩)
      refine ⟨?_, fun y hy => ?_⟩
      · rcases List.mem_cons.mp i1 with e | e
        · rw [e]
          exact List.mem_cons_self
        · exact List.mem_cons_of_mem _ (List.mem_cons_of_mem _ e)
      · rcases List.mem_cons.mp hy with e | e
        · rw [e]
          exact i2 b List.mem_cons_self
        · rcases List.mem_cons.mp e with e | e
          · have := i2 b List.mem_cons_self
            rw [e]
            omega
          · exact i2 y (List.mem_cons_of_mem _ e)
theorem pick_self {f : Int → Nat} {p : Int} {r : List Int} : pick f p (p :: r) = pick f p r := by
  show pick f (if f p < f p then p else p) r = pick f p r
  rw [if_neg (Nat.lt_irrefl _)]
theorem pick_is {f : Int → Nat} {p m : Int} {r : List Int} (h : (p :: r).Pairwise (· < ·)) (hm : m ∈ p :: r) (hl : ∀ y ∈ p :: r, prLt ((f y : Nat), y) ((f m : Nat), m) = false) : pick f p (p :: r) = m := by
  rw [pick_self]
  obtain ⟨h1, h2⟩ := pick_least (f := f) h
  have h3 := hl _ h1
  have h4 := h2 m hm
  generalize pick f p r = k at h1 h2 h3 h4
  unfold prLt at h3
  simp only [Bool.or_eq_false_iff, Bool.and_eq_false_iff, decide_eq_false_iff_not] at h3
  omega
/-! ### neighbours of the program -/
abbrev sNear : Stmt := topS 6
theorem scNear : FnScope ["net", "a", "n", "links", "found", "link"] ["net", "a"] (defScope sNear) := ⟨rfl, rfl, rfl, by decide +kernel, rfl, by decide +kernel, by decide +kernel⟩
def spNb (K : PySem.W.Frag) (CP : Addr) : Sp := fun vs H Q E => ∃ (v : V) (a : Int) (N : Net), vs = [v, .int a] ∧ Dp K H v (netD N) ∧ N.ls.length ≤ 1700 ∧
  (¬ (0 ≤ a ∧ a < N.n) → RaiseTo E H CP a) ∧ (0 ≤ a ∧ a < N.n → ∀ H' p, Same H H' → H p = none → H' p = some (.lst ((nearOf a N.ls).map V.int)) → Q (.ref p) H')
section
variable {P : Program} {w : World} {K : PySem.W.Frag} {mg : Str → Option Value} {base : Heap} {CP fI : Addr}
theorem ok_near {f : Addr} {fd : FuncData} (F : Fun K "neighbours" "neighbours" sNear f fd) (cCp : KalX P w K mg base 2 "check_places" ["n", "places"] (spChkPl K CP)) : FnOk P w K mg base (L2.CX P w) 3 f fd ["net", "a"] (spNb K CP) := by
  refine F.okX scNear (fun vs H Q E h => ?_) (fun cdv A outer s H vs Q E hr h => ?_)
  · obtain ⟨v, a, N, rfl, _⟩ := h
    rfl
  · obtain ⟨v, a, N, rfl, hN, hlen, q1, q2⟩ := h
    refine ⟨_, pss_cons (ps_asg (pv 0) (pg_tup rfl (pgs_cons (pg_name (i := 2) scNear.nd rfl (.inl rfl)) (pgs_cons (pg_name (i := 3) scNear.nd rfl (.inl rfl)) pgs_nil))))
      (pss_cons (ps_expr (pe_kx (E := E) cCp hr (by decide) (by rfl) (takes_of rfl rfl rfl rfl) (pa_cons (pv 2) (pa_cons (pe_lst (pa_cons (pv 1) pa_nil)) pa_nil))))
      (pss_cons (ps_set (i := 4) scNear.nd rfl (.inl rfl) (pe_lst pa_nil))
      (pss_cons (ps_for (passes_of rfl) rfl (pi_list (pv 3)) (pg_name (i := 5) scNear.nd rfl (.inl rfl))
        (pss_one (ps_if (pt_cmpR op_eq (pe_ix ix_tup (pv 5) pe_int (fun _ _ => rfl)) (pv 1) (nomark _))
          (pss_one (ps_expr (pe_bm PySem.F.plainAttrs_list PySem.F.slot_list_append PySem.F.type_list_append mt_append (pv 4) (pa_cons (pe_ix ix_tup (pv 5) pe_int (fun _ _ => rfl)) pa_nil))))
          (pss_one (ps_if (pt_cmpR op_eq (pe_ix ix_tup (pv 5) pe_int (fun _ _ => rfl)) (pv 1) (nomark _))
            (pss_one (ps_expr (pe_bm PySem.F.plainAttrs_list PySem.F.slot_list_append PySem.F.type_list_append mt_append (pv 4) (pa_cons (pe_ix ix_tup (pv 5) pe_int (fun _ _ => rfl)) pa_nil)))) pss_nil)))))
      (pss_one (ps_ret (pv 4)))))), ?_⟩
    obtain ⟨p, c, xs, rfl, hp, hc, hx⟩ := Dp.net_inv hN
    refine q_asgT2 (vl_var rfl) hp ?_
    refine q_chk1 (n := N.n) (a := a) (vl_var rfl) (vl_var rfl) (fun h => ?_) (fun h H0 s0 => ?_)
    · exact q1 h
    · have q := q2 h
      replace hp := seqT s0 hp
      replace hc := s0.seq hc
      replace hx := DpAll.to hx s0
      refine q_lnew fun o no => ?_
      refine q_forLk (j := 5) (Hb := H0) (vl_var rfl) hc hx (same_upd no)
        (fun i σ H3 => ∃ y5, σ = [some (.ref p), some (.int a), some (.int N.n), some (.ref c), some (.ref o), y5] ∧ Same H0 H3 ∧ H3 o = some (.lst ((nearOf a (N.ls.take i)).map V.int)))
        ⟨none, rfl, same_upd no, upd_same⟩ (fun i σ H3 hP => ?_) (fun i l t σ H3 hl ht hP => ?_) (fun σ H3 hP => ?_)
      · obtain ⟨_, _, s3, _⟩ := hP
        exact s3
      · obtain ⟨y5, rfl, s3, ho⟩ := hP
        have hi := (List.getElem?_eq_some_iff.mp hl).1
        have hsz : ((nearOf a (N.ls.take i)).map V.int).length < sizeLine := by
          rw [List.length_map]
          refine Nat.lt_of_le_of_lt (List.length_filterMap_le _ _) (Nat.lt_of_le_of_lt (m := 10000) ?_ (by decide))
          rw [List.length_take]
          omega
        have en : nearOf a (N.ls.take (i + 1)) = nearOf a (N.ls.take i) ++ (nearF a l).toList := by
          unfold nearOf
          rw [take_snoc hl, List.filterMap_append]
          cases e : nearF a l <;> simp [e]
        have e0 : Vl (tOp (rIxT K) (tVar 5) (tC (.int 0))) [some (.ref p), some (.int a), some (.int N.n), some (.ref c), some (.ref o), some (.ref t)] H3 (.int l.a) := vl_ixT (vl_var rfl) vl_c (seqT s3 ht) (atI_nat (j := 0) rfl)
        have e1 : Vl (tOp (rIxT K) (tVar 5) (tC (.int 1))) [some (.ref p), some (.int a), some (.int N.n), some (.ref c), some (.ref o), some (.ref t)] H3 (.int l.b) := vl_ixT (vl_var rfl) vl_c (seqT s3 ht) (atI_nat (j := 1) rfl)
        refine g_if (b := decide (V.int l.a = V.int a)) ?_ (fun h => ?_) (fun h => ?_)
        · exact an_test (vl_eq e0 (vl_var rfl) rfl)
        · have z := V.int.inj (of_decide_eq_true h)
          have ef : nearF a l = some l.b := if_pos z
          refine g_app (vl_var rfl) ho e1 hsz ⟨_, rfl, same_upd' s3 no, ?_⟩
          rw [upd_same, en, ef, List.map_append]
          rfl
        · have z : ¬ l.a = a := fun y => of_decide_eq_false h (congrArg V.int y)
          refine g_when (b := decide (V.int l.b = V.int a)) ?_ (fun h2 => ?_) (fun h2 => ?_)
          · exact an_test (vl_eq e1 (vl_var rfl) rfl)
          · have z2 := V.int.inj (of_decide_eq_true h2)
            have ef : nearF a l = some l.a := by
              unfold nearF
              rw [if_neg z, if_pos z2]
            refine g_app (vl_var rfl) ho e0 hsz ⟨_, rfl, same_upd' s3 no, ?_⟩
            rw [upd_same, en, ef, List.map_append]
            rfl
          · have ef : nearF a l = none := by
              unfold nearF
              rw [if_neg z, if_neg (fun y => of_decide_eq_false h2 (congrArg V.int y))]
            refine ⟨_, rfl, s3, ?_⟩
            rw [ho, en, ef]
            simp
      · obtain ⟨y5, rfl, s3, ho⟩ := hP
        rw [List.take_length] at ho
        exact g_ret (vl_var rfl) (q H3 o (s0.trans s3) (Same.free s0 no) ho)
end
/-! ### comprehensions that make things -/
section
variable {K : PySem.W.Frag} {σ : L2.St} {H : Hp} {te tl t1 t2 : TE} {tr : TA} {D : Ends}
theorem g_retN {xs : List V} (h : Vn te σ H xs) (k : ∀ p H', Same H H' → H p = none → H' p = some (.lst xs) → D.rt (.ref p) H') : tRet te D σ H := h _ k
theorem lc_rowsR {j : Nat} {n : Int} {f : Int → List V} {Q : VK} (hl : Va tr σ H [.int n]) (h0 : 0 ≤ n) (hz : n ≤ 1000)
    (he : ∀ x : Int, 0 ≤ x → x < n → ∀ H', Same H H' → Vn te ((σ.set j none).set j (some (.int x))) H' (f x))
    (q : ∀ D H' (rw : List Addr), Same H H' → H D = none → H' D = some (.lst (rw.map V.ref)) → rw.length = n.toNat → D ∉ rw → (∀ (i : Nat) a, rw[i]? = some a → H a = none ∧ H' a = some (.lst (f (i : Nat)))) → Q (.ref D) H') : tLc (iRng1 tr) (gName j) tYes te [j] σ H Q := by
  refine hl _ ⟨n, rfl, by omega, by omega, fun D nD => lc_range (lo := 0) (n := n.toNat) (fun i H' => ∃ rw : List Addr, H' D = some (.lst (rw.map V.ref)) ∧ Same H H' ∧ rw.length = i ∧ D ∉ rw ∧ ∀ (i : Nat) a, rw[i]? = some a → H a = none ∧ H' a = some (.lst (f (i : Nat))))
    ⟨[], upd_same, same_upd nD, rfl, List.not_mem_nil, fun _ _ h => by simp at h⟩ (fun i H2 hi hP => ?_) (fun H2 hP => ?_)⟩
  · obtain ⟨rw_, hD, s2, hlen, hDn, hr⟩ := hP
    rw [Int.zero_add]
    refine ⟨?_, ?_⟩
    · show ((σ.set j none).set j (some (V.int i))).set j none = σ.set j none
      rw [List.set_set, List.set_set]
    · refine iteT (B := ∃ rw : List Addr, H2 D = some (.lst (rw.map V.ref)) ∧ Same H H2 ∧ rw.length = i + 1 ∧ D ∉ rw ∧ ∀ (i : Nat) a, rw[i]? = some a → H a = none ∧ H2 a = some (.lst (f (i : Nat)))) (he i (by omega) (by omega) H2 s2 _ fun p H3 s3 np hp => ⟨_, s3 _ _ hD, ?_, rw_ ++ [p], ?_, ?_, ?_, ?_, fun b a hb => ?_⟩)
      · rw [List.length_map]
        exact Nat.lt_of_le_of_lt (m := 1000000) (by omega) (by decide)
      · rw [upd_same, List.map_append]
        rfl
      · exact same_upd' (s2.trans s3) nD
      · rw [List.length_append, hlen]
        rfl
      · intro h
        rcases List.mem_append.mp h with h | h
        · exact hDn h
        · have e := List.mem_singleton.mp h
          rw [e, np] at hD
          cases hD
      · by_cases hbi : b < rw_.length
        · rw [List.getElem?_append_left hbi] at hb
          have := hr b a hb
          exact ⟨this.1, by
            rw [upd_ne (fun e => hDn (by rw [← e]; exact List.mem_of_getElem? hb))]
            exact s3 _ _ this.2⟩
        · rw [List.getElem?_append_right (by omega)] at hb
          have e0 : b - rw_.length = 0 := by
            have := (List.getElem?_eq_some_iff.mp hb).1
            simp at this
            exact this
          rw [e0] at hb
          cases hb
          have eb : b = i := by omega
          refine ⟨Same.free s2 np, ?_⟩
          rw [upd_ne (fun z => by rw [← z, np] at hD; cases hD), eb]
          exact hp
  · obtain ⟨rw_, hD, s2, hlen, hDn, hr⟩ := hP
    exact q D H2 rw_ s2 nD hD hlen hDn hr
theorem lc_tupI {j : Nat} {ns : List Int} {f g : Int → Int} {Q : VK} (hl : ∀ Q : VK, (∀ a H1, Same H H1 → SqL K H1 a (ns.map V.int) → Q (.ref a) H1) → tl σ H Q) (hz : ns.length ≤ 1000)
    (h1 : ∀ x ∈ ns, ∀ H', Same H H' → Vl t1 ((σ.set j none).set j (some (.int x))) H' (.int (f x))) (h2 : ∀ x ∈ ns, ∀ H', Same H H' → Vl t2 ((σ.set j none).set j (some (.int x))) H' (.int (g x)))
    (q : ∀ D H' ts, Same H H' → H D = none → H' D = some (.lst ts) → ts.length = ns.length → (∀ (i : Nat) x, ns[i]? = some x → ∃ t, ts[i]? = some (.ref t) ∧ H' t = some (.tup [.int (f x), .int (g x)])) → Q (.ref D) H') :
    tLc (iList K tl) (gName j) tYes (tTup (tCons t1 (tCons t2 tNil))) [j] σ H Q := by
  refine hl _ fun a H1 s1 hx => ⟨a, rfl, ⟨_, hx⟩, fun D nD => lc_list (xs := ns.map V.int) (fun i H' => ∃ ts, H' D = some (.lst ts) ∧ Same H1 H' ∧ ts.length = i ∧ ∀ (k : Nat) x, k < i → ns[k]? = some x → ∃ t, ts[k]? = some (.ref t) ∧ H' t = some (.tup [.int (f x), .int (g x)]))
    ⟨[], upd_same, same_upd nD, rfl, fun _ _ h => absurd h (Nat.not_lt_zero _)⟩ (fun i H' _ hP => hP.choose_spec.2.1.seq hx) (fun i x H2 hi hP => ?_) (fun H2 hP => ?_)⟩
  · obtain ⟨ts, hD, s2, hlen, hts⟩ := hP
    have hi2 : i < ns.length := by
      have := (List.getElem?_eq_some_iff.mp hi).1
      rw [List.length_map] at this
      exact this
    have hg : ns[i]? = some ns[i] := List.getElem?_eq_getElem hi2
    rw [List.getElem?_map, hg] at hi
    generalize ns[i] = n at hg hi
    cases hi
    have hm := List.mem_of_getElem? hg
    refine ⟨?_, ?_⟩
    · show ((σ.set j none).set j (some (V.int n))).set j none = σ.set j none
      rw [List.set_set, List.set_set]
    · refine iteT (B := ∃ ts, H2 D = some (.lst ts) ∧ Same H1 H2 ∧ ts.length = i + 1 ∧ ∀ (k : Nat) x, k < i + 1 → ns[k]? = some x → ∃ t, ts[k]? = some (.ref t) ∧ H2 t = some (.tup [.int (f x), .int (g x)]))
        (h1 n hm H2 (s1.trans s2) _ (h2 n hm H2 (s1.trans s2) _ ⟨by show 2 ≤ sizeLine; decide, fun T nT => ⟨ts, same_upd nT _ _ hD, ?_, ts ++ [.ref T], upd_same, same_upd' (s2.trans (same_upd nT)) nD, by rw [List.length_append, hlen] <;> rfl, fun k x hk hx => ?_⟩⟩))
      · rw [hlen]
        exact Nat.lt_of_le_of_lt (m := 1000000) (by omega) (by decide)
      · have hTD : ∀ t, upd H2 T (.tup [.int (f n), .int (g n)]) t = some (.tup [.int (f x), .int (g x)]) → upd (upd H2 T (.tup [.int (f n), .int (g n)])) D (.lst (ts ++ [.ref T])) t = some (.tup [.int (f x), .int (g x)]) := fun t ht => by
          rw [upd_ne (fun z => by
            rw [z, same_upd nT _ _ hD] at ht
            cases ht)]
          exact ht
        by_cases e : k < i
        · obtain ⟨t, e1, e2⟩ := hts k x e hx
          refine ⟨t, ?_, hTD t (same_upd nT _ _ e2)⟩
          rw [List.getElem?_append_left (by omega)]
          exact e1
        · have ek : k = i := by omega
          subst ek
          cases hg.symm.trans hx
          refine ⟨T, ?_, hTD T upd_same⟩
          rw [List.getElem?_append_right (by omega), hlen, Nat.sub_self]
          rfl
  · obtain ⟨ts, hD, s2, hlen, hts⟩ := hP
    rw [List.length_map] at hlen hts
    exact q D H2 ts (s1.trans s2) (Same.free s1 nD) hD hlen fun i x hx => hts i x (List.getElem?_eq_some_iff.mp hx).1 hx
end
theorem q_asg1 {r : List V → Hp → VK → Prop} {t : TE} {g : TG} {D : Ends} {tw : TS} {σ : L2.St} {H : Hp} (h : t σ H fun x H1 => r [x] H1 fun v H2 => g v σ H2 fun σ2 H3 => tw D σ2 H3) : tSeq (tAsg (tCB r (tCons t tNil)) g) tw D σ H := h
theorem g_asgCall {sp : Sp} {tr : TA} {g : TG} {D : Ends} {σ : L2.St} {H : Hp} {vs : List V} (h : Va tr σ H vs) (k : sp vs H (fun v H1 => g v σ H1 D.nx) E0) : tAsg (tCall sp [] E0 tr) g D σ H := h _ (by
  show sp (vs ++ []) H _ E0
  rw [List.append_nil]
  exact k)
theorem dInt {a b : Int} : decide (V.int a = V.int b) = decide (a = b) := by
  rw [Bool.eq_iff_iff, decide_eq_true_eq, decide_eq_true_eq]
  exact ⟨fun z => V.int.inj z, fun z => by rw [z]⟩
/-! ### the greedy order of the program -/
def joinTo (ns ms : List Int) (b p : Int) : List Int := ns.filter (fun o => !decide (o = b)) ++ ms.filter fun o => !decide (o = p) && !decide (o ∈ ns)
def spJoined (K : PySem.W.Frag) : Sp := fun vs H Q _ => ∃ (na ar : Addr) (ns ms : List Int) (b p : Int), vs = [.ref na, .ref ar, .int b, .int p] ∧ SqL K H na (ns.map V.int) ∧ SqL K H ar (ms.map V.int) ∧ ns.length ≤ 1000 ∧ ms.length ≤ 1000 ∧
  ∀ H' q, Same H H' → H q = none → H' q = some (.lst ((joinTo ns ms b p).map V.int)) → Q (.ref q) H'
abbrev sJoinedG : Stmt := topS 23
theorem scJoinedG : FnScope ["near", "around", "taken", "place", "kept", "other"] ["near", "around", "taken", "place"] (defScope sJoinedG) := ⟨rfl, rfl, rfl, by decide +kernel, rfl, by decide +kernel, by decide +kernel⟩
abbrev sGreedy : Stmt := topS 22
theorem scGreedy : FnScope ["net", "place", "near", "left", "order", "other", "_", "around"] ["net"] (defScope sGreedy) := ⟨rfl, rfl, rfl, by decide +kernel, rfl, by decide +kernel, by decide +kernel⟩
section
variable {P : Program} {w : World} {K : PySem.W.Frag} {mg : Str → Option Value} {base : Heap} {CP fI : Addr}
theorem ok_joined {f : Addr} {fd : FuncData} {k : Nat} (F : Fun K "_joined" "_joined" sJoinedG f fd) : FnOk P w K mg base CX0 (k + 1) f fd ["near", "around", "taken", "place"] (spJoined K) := by
  refine F.ok scJoinedG (fun vs H Q E h => ?_) (fun cdv A outer s H vs Q E hr h => ?_)
  · obtain ⟨na, ar, ns, ms, b, p, rfl, _⟩ := h
    rfl
  · obtain ⟨na, ar, ns, ms, b, p, rfl, hS1, hS2, l1, l2, q⟩ := h
    refine ⟨_, pss_cons (ps_setLc (i := 4) (own := [("other", 5)]) (g := gName 5) (tt := (tTest (tOp rNe (tVar 5) (tVar 2)))) (te := (tVar 5)) (by rfl) scJoinedG.nd rfl rfl (sw_true rfl rfl rfl (by decide +kernel)) (pi_list (pv 0)) (blkOk_by (own := [("other", 5)]) (N := ["near", "around", "taken", "place", "kept", "other"]) (sc := defScope sJoinedG) (by decide +kernel)) (fun _ _ _ _ _ => pg_name (i := 5) scJoinedG.nd rfl (Or.inl rfl)) (fun _ _ _ _ _ => by exact (pts_one (pt_cmpR op_ne (pv 5) (pv 2) (nomark _)))) (fun _ _ _ _ _ => by exact (pv 5)))
      (pss_one (ps_ret (pe_op op_cat (pv 4) (pe_lc (own := [("other", 5)]) (g := gName 5) (tt := (tAnd (tTest (tOp rNe (tVar 5) (tVar 3))) (tTest (tOp (rIn K true) (tVar 5) (tVar 0))))) (te := (tVar 5)) (by rfl) scJoinedG.nd (pi_list (pv 1)) (blkOk_by (own := [("other", 5)]) (N := ["near", "around", "taken", "place", "kept", "other"]) (sc := defScope sJoinedG) (by decide +kernel)) (fun _ _ _ _ _ => pg_name (i := 5) scJoinedG.nd rfl (Or.inl rfl)) (fun _ _ _ _ _ => by exact (pts_one (PW.pt (pw_and (pt_cmpR op_ne (pv 5) (pv 3) (nomark _)) (pw_and1 (pt_cmpR op_notIn_seq (pv 5) (pv 0) (by rfl))))))) (fun _ _ _ _ _ => by exact (pv 5)))))), ?_⟩
    refine q_asgN (xs := (ns.filter fun o => !decide (o = b)).map V.int) (vn_lcI (vx_list (vl_var rfl) hS1) (by omega) (fun x hx H' s' => (an_test (vl_ne (vl_var rfl) (vl_var rfl) rfl)).is (by rw [dInt])) (fun x hx H' s' => vl_var rfl)) fun kp H1 s1 nk ek => ?_
    refine g_retN (xs := (joinTo ns ms b p).map V.int) (vn_catL (vl_var rfl) ek (ns := ms.filter fun o => !decide (o = p) && !decide (o ∈ ns)) (vn_lcI (vx_list (vl_var rfl) (s1.seq hS2)) (by omega) (fun x hx H' s' => an_and ((an_test (vl_ne (vl_var rfl) (vl_var rfl) rfl)).is (by rw [dInt])) fun _ => an_test (vl_notInI (vl_var rfl) (vl_var rfl) ((s1.trans s').seq hS1))) (fun x hx H' s' => vl_var rfl)) ?_) fun r H2 s2 nr er => q H2 r (s1.trans s2) (Same.free s1 nr) er
    have h1 := List.length_filter_le (fun o => !decide (o = b)) ns
    have h2 := List.length_filter_le (fun o => !decide (o = p) && !decide (o ∈ ns)) ms
    omega
theorem ok_greedy {f : Addr} {fd : FuncData} {k k2 : Nat} (hk : k2 ≤ k) (F : Fun K "greedy_order" "greedy_order" sGreedy f fd) (c_neighbours : KalX P w K mg base k "neighbours" ["net", "a"] (spNb K CP)) (c_joined : Kal P w K mg base k2 "_joined" ["near", "around", "taken", "place"] (spJoined K))
    (ml : mg "len" = none) (mr : mg "range" = none) (mL : mg "list" = none) (mm : mg "min" = none) : FnOk P w K mg base CX0 (k + 1) f fd ["net"] (spGreedy K) := by
  refine F.ok scGreedy (fun vs H Q E h => ?_) (fun cdv A outer s H vs Q E hr h => ?_)
  · obtain ⟨v, N, rfl, _⟩ := h
    rfl
  · obtain ⟨v, N, rfl, hN, okN, q⟩ := h
    have hu := hu_of hr
    refine ⟨_, pss_cons (ps_set (i := 2) scGreedy.nd rfl (.inr rfl) (pe_lc (own := [("place", 1)]) (g := gName 1) (tt := tYes) (te := (tCall (spNb K CP) [] (fun _ _ _ => False) (tCons (tVar 0) (tCons (tVar 1) tNil)))) (by rfl) scGreedy.nd (pi_range1 (by rfl) mr (pa_cons (pe_ix ix_tup (pv 0) pe_int (fun _ _ => rfl)) pa_nil)) (blkOk_by (own := [("place", 1)]) (N := ["net", "place", "near", "left", "order", "other", "_", "around"]) (sc := defScope sGreedy) (by decide +kernel)) (fun _ _ _ _ _ => pg_name (i := 1) scGreedy.nd rfl (Or.inl rfl)) (fun _ _ _ _ _ => by exact pts_nil) (fun _ _ _ _ _ => by exact (pe_kx (E := fun _ _ _ => False) c_neighbours hr (by first | decide | omega) (by rfl) takes0 (pa_cons (pv 0) (pa_cons (pv 1) pa_nil))))))
      (pss_cons (ps_set (i := 3) scGreedy.nd rfl (.inl rfl) (pe_listRg rfl (by rfl) mL (prg_1 (by rfl) mr (pe_ix ix_tup (pv 0) pe_int (fun _ _ => rfl)))))
      (pss_cons (ps_set (i := 4) scGreedy.nd rfl (.inl rfl) (pe_lst pa_nil))
      (pss_cons (ps_while PassesOwn.never (pt_truth (pv 3) (by intro _; rfl))
      (pss_cons (ps_asg (pe_callB (call_minPr rfl hr.units) (by rfl) mm (by decide +kernel) (pa_cons (pe_lc (own := [("other", 5)]) (g := gName 5) (tt := tYes) (te := (tTup (tCons (tCB (fun xs H Q => ∃ p ys, xs = [V.ref p] ∧ (SqL K H p ys ∨ SqT K H p ys) ∧ Q (V.int ys.length) H) (tCons (tOp (rIxL K) (tVar 2) (tVar 5)) tNil)) (tCons (tVar 5) tNil)))) (by rfl) scGreedy.nd (pi_list (pv 3)) (blkOk_by (own := [("other", 5)]) (N := ["net", "place", "near", "left", "order", "other", "_", "around"]) (sc := defScope sGreedy) (by decide +kernel)) (fun _ _ _ _ _ => pg_name (i := 5) scGreedy.nd rfl (Or.inl rfl)) (fun _ _ _ _ _ => by exact pts_nil) (fun _ _ _ _ _ => by exact (pe_tup (pa_cons (pe_callB call_len_seq (by rfl) ml PySem.boot_len (pa_cons (pe_ix ix_list (pv 2) (pv 5) (fun _ _ => rfl)) pa_nil)) (pa_cons (pv 5) pa_nil))))) pa_nil)) (pg_tup rfl (pgs_cons (pg_name (i := 6) scGreedy.nd rfl (.inl rfl)) (pgs_cons (pg_name (i := 1) scGreedy.nd rfl (.inl rfl)) pgs_nil))))
        (pss_cons (ps_expr (pe_bm PySem.F.plainAttrs_list PySem.F.slot_list_append PySem.F.type_list_append mt_append (pv 4) (pa_cons (pv 1) pa_nil)))
        (pss_cons (ps_expr (pe_remX rfl takes0 (pv 3) (pv 1)))
        (pss_cons (ps_set (i := 7) scGreedy.nd rfl (.inl rfl) (pe_ix ix_list (pv 2) (pv 1) (fun _ _ => rfl)))
        (pss_one (ps_for PassesOwn.never rfl (pi_list (pv 7)) (pg_name (i := 5) scGreedy.nd rfl (.inl rfl))
        (pss_one (ps_asg (pe_k c_joined hr (by first | decide | omega) (by rfl) (pa_cons (pe_ix ix_list (pv 2) (pv 5) (fun _ _ => rfl)) (pa_cons (pv 7) (pa_cons (pv 1) (pa_cons (pv 5) pa_nil))))) (pg_sub (pv 2) (pv 5) set_list))))))))))
      (pss_one (ps_ret (pv 4)))))), ?_⟩
    obtain ⟨p0, c, xs, rfl, hp0, hc, hx⟩ := Dp.net_inv hN
    have n40 := okN.n40
    have n1 := okN.n1
    have l16 := okN.len
    refine q_asgE (lc_rowsR (n := N.n) (f := fun x => (nearOf x N.ls).map V.int) (va_cons (vl_ixT (K := K) (vl_var rfl) vl_c hp0 (atI_nat (j := 0) rfl)) va_nil) (by omega) (by omega) (fun x h0 h1 H' s' Q q => ⟨_, rfl, .int x, rfl, _, x, N, rfl, Dp.to hN s', by omega, fun h => absurd ⟨h0, h1⟩ h, fun _ H2 p s2 np ep => q p H2 s2 np ep⟩) fun nl H1 rw_ s1 nnl enl rl rnn rr => ?_)
    refine q_asgN (xs := (rng N.n).map V.int) (vn_lstRg (vl_ixT (K := K) (vl_var rfl) vl_c (seqT s1 hp0) (atI_nat (j := 0) rfl)) (by omega) (by omega)) fun lf H2 s2 nlf elf => ?_
    refine q_lnew fun od nod => ?_
    have s3 : Same H2 (upd H2 od (.lst [])) := same_upd nod
    have s13 := s2.trans s3
    have sH := s1.trans s13
    have nflf : lf ≠ nl := fun z => by
      rw [z, enl] at nlf
      cases nlf
    have nodl : od ≠ nl := fun z => by
      rw [z, s2 _ _ enl] at nod
      cases nod
    have nodf : od ≠ lf := fun z => by
      rw [z, elf] at nod
      cases nod
    have nlfH := Same.free s1 nlf
    have nodH := Same.free (s1.trans s2) nod
    have hNk : NearOk (rng N.n) (adj0 N.ls) (fun p => nearOf p N.ls) := ⟨fun p _ => near_nodup okN p, fun p hp o => by
      rw [near_mem okN, mem_rng]
      exact ⟨fun h => ⟨(adj0_in okN h).2.1, h⟩, fun h => h.2⟩⟩
    have hasc : (rng N.n).Pairwise (· < ·) := by
      unfold rng
      rw [List.pairwise_map]
      exact List.Pairwise.imp (fun h => by omega) List.pairwise_lt_range
    refine ⟨fun m σ H3 => ∃ y1 y5 y6 y7 acc L adj nr fs, σ = [some (.ref p0), y1, some (.ref nl), some (.ref lf), some (.ref od), y5, y6, y7] ∧ Same H H3 ∧ H3 od = some (.lst (acc.map V.int)) ∧ H3 lf = some (.lst (L.map V.int)) ∧ H3 nl = some (.lst fs) ∧ fs.length = N.n.toNat ∧
      (∀ p : Int, 0 ≤ p → p < N.n → ∃ a, fs[p.toNat]? = some (.ref a) ∧ a ≠ nl ∧ a ≠ lf ∧ a ≠ od ∧ H3 a = some (.lst ((nr p).map V.int))) ∧ L.Pairwise (· < ·) ∧ (∀ x ∈ L, 0 ≤ x ∧ x < N.n) ∧ AdjOk adj ∧ NearOk L adj nr ∧ greedyOf N = acc ++ gr L.length L adj ∧ m = L.length ∧ acc.length + L.length ≤ 40,
      ⟨_, none, none, none, none, [], rng N.n, adj0 N.ls, fun p => nearOf p N.ls, rw_.map V.ref, rfl, sH, upd_same, s3 _ _ elf, s13 _ _ enl, by rw [List.length_map, rl], fun p h0 h1 => ?_, hasc, fun x h => mem_rng.mp h, adj0_ok okN, hNk, ?_, rfl, by rw [len_rng]; show 0 + _ ≤ 40; omega⟩, fun m σ H3 hW => ?_⟩
    · have hpl : p.toNat < rw_.length := by omega
      have e := List.getElem?_eq_getElem hpl
      have h2 := rr _ _ e
      rw [show ((p.toNat : Nat) : Int) = p by omega] at h2
      refine ⟨rw_[p.toNat], by rw [List.getElem?_map, e] <;> rfl, fun z => rnn (by rw [← z]; exact List.mem_of_getElem? e), fun z => ?_, fun z => ?_, s13 _ _ h2.2⟩
      · rw [← z, h2.2] at nlf
        cases nlf
      · rw [← z, s2 _ _ h2.2] at nod
        cases nod
    · rw [len_rng]
      rfl
    · obtain ⟨y1, y5, y6, y7, acc, L, adj, nr, fs, rfl, s4, eod, elf4, enl4, fl, hfs, hA, hin, hadj, hnk, hgr, rfl, hlen⟩ := hW
      refine ⟨.ref lf, rfl, _, .inl ⟨_, .of elf4, rfl⟩, ?_⟩
      cases L with
      | nil =>
        refine if_false_of (by rfl) ?_
        refine g_ret (vl_var rfl) (q H3 od s4 nodH ?_)
        rw [hgr]
        show H3 od = some (.lst ((acc ++ []).map V.int))
        rw [List.append_nil]
        exact eod
      | cons p r =>
        have hLn : (p :: r).Nodup := hA.imp fun h z => by omega
        refine if_true_of (by rfl) ⟨fun σ H3 => ∃ y1 y5 y6 y7 acc L adj nr fs, σ = [some (.ref p0), y1, some (.ref nl), some (.ref lf), some (.ref od), y5, y6, y7] ∧ Same H H3 ∧ H3 od = some (.lst (acc.map V.int)) ∧ H3 lf = some (.lst (L.map V.int)) ∧ H3 nl = some (.lst fs) ∧ fs.length = N.n.toNat ∧
          (∀ p : Int, 0 ≤ p → p < N.n → ∃ a, fs[p.toNat]? = some (.ref a) ∧ a ≠ nl ∧ a ≠ lf ∧ a ≠ od ∧ H3 a = some (.lst ((nr p).map V.int))) ∧ L.Pairwise (· < ·) ∧ (∀ x ∈ L, 0 ≤ x ∧ x < N.n) ∧ AdjOk adj ∧ NearOk L adj nr ∧ greedyOf N = acc ++ gr L.length L adj ∧ r.length = L.length ∧ acc.length + L.length ≤ 40,
          fun σ' H' h => ⟨r.length, by rw [List.length_cons]; omega, h⟩, ?_⟩
        -- the least
        refine q_asg1 (lc_tupI (f := fun x => ((nr x).length : Int)) (g := fun x => x) (vx_list (vl_var (i := 3) rfl) (.of elf4)) (by omega) (fun x hx' H' s' => ?_) (fun x hx' H' s' => vl_var (i := 5) rfl) fun D H5 ts s5 nD eD htl hts => ?_)
        · obtain ⟨a, e1, _, _, _, e5⟩ := hfs x (hin x hx').1 (hin x hx').2
          have g1 := atI_nat e1
          rw [show ((x.toNat : Nat) : Int) = x by have := hin x hx'; omega] at g1
          exact vl_lenI (K := K) (vl_ixL (K := K) (vl_var (i := 2) rfl) (vl_var (i := 5) rfl) (.of (s' _ _ enl4)) g1) (.of (s' _ _ e5))
        have hdeg : ∀ x ∈ p :: r, ((nr x).length : Nat) = deg (p :: r) adj x := fun x hx' => hnk.deg hLn hx'
        refine ⟨D, ts, (p :: r).map fun x => (((nr x).length : Int), x), rfl, .of eD, by simp, ?_, fun i v m hi hm hl => ?_⟩
        · refine (fun gen => gen (p :: r) ts htl hts : (∀ (L : List Int) (ts : List V), ts.length = L.length → (∀ (i : Nat) (x : Int), L[i]? = some x → ∃ t, ts[i]? = some (V.ref t) ∧ H5 t = some (HO.tup [V.int ((nr x).length : Int), V.int x])) → DpAll K H5 ts ((L.map fun x => (((nr x).length : Int), x)).map prDI)) → _) ?_
          intro L
          induction L with
          | nil =>
            intro ts h1 _
            rw [List.eq_nil_of_length_eq_zero h1]
            exact .nil
          | cons x L ih =>
            intro ts h1 h2
            cases ts with
            | nil => exact absurd h1 (by simp)
            | cons y ts =>
              obtain ⟨t, e1, e2⟩ := h2 0 x rfl
              cases Option.some.inj e1
              exact .cons (.tup (.of e2) (.cons (.int _) (.cons (.int _) .nil))) (ih ts (Nat.succ.inj h1) fun i z hz => h2 (i + 1) z hz)
        · rw [List.getElem?_map] at hm
          cases hx' : (p :: r)[i]? with
          | none =>
            rw [hx'] at hm
            cases hm
          | some b =>
            rw [hx'] at hm
            cases hm
            obtain ⟨t, e1, e2⟩ := hts i b hx'
            cases hi.symm.trans e1
            have hb := List.mem_of_getElem? hx'
            have hbr := hin b hb
            have hpk : pick (deg (p :: r) adj) p (p :: r) = b := by
              refine pick_is hA hb fun y hy => ?_
              have := hl _ (List.mem_map.mpr ⟨y, hy, rfl⟩)
              rw [← hdeg y hy, ← hdeg b hb]
              exact this
            refine ⟨t, _, rfl, .of e2, rfl, _, _, rfl, _, _, rfl, rfl, ?_⟩
            have eod5 := s5 _ _ eod
            have elf5 := s5 _ _ elf4
            have enl5 := s5 _ _ enl4
            have s45 := s4.trans s5
            -- order, left
            refine q_app (v := .int b) (vl_var rfl) eod5 (vl_var rfl) (by
              rw [List.length_map]
              exact Nat.lt_of_le_of_lt (m := 1000000) (by omega) (by decide)) ?_
            have elf6 : upd H5 od (.lst (acc.map V.int ++ [V.int b])) lf = some (.lst ((p :: r).map V.int)) := by
              rw [upd_ne (fun z => nodf z.symm)]
              exact elf5
            refine ⟨.ref lf, rfl, .inl ⟨rfl, _, .inl (.inl elf6)⟩, .int b, rfl, lf, p :: r, b, rfl, rfl, elf6, fun _ => ?_, fun h => absurd hb h⟩
            have s7 : Same H (upd (upd H5 od (.lst (acc.map V.int ++ [V.int b]))) lf (.lst (((p :: r).erase b).map V.int))) := same_upd' (same_upd' s45 nodH) nlfH
            have eod7 : upd (upd H5 od (.lst (acc.map V.int ++ [V.int b]))) lf (.lst (((p :: r).erase b).map V.int)) od = some (.lst ((acc ++ [b]).map V.int)) := by
              rw [upd_ne nodf, upd_same, List.map_append]
              rfl
            have elf7 : upd (upd H5 od (.lst (acc.map V.int ++ [V.int b]))) lf (.lst (((p :: r).erase b).map V.int)) lf = some (.lst (((p :: r).erase b).map V.int)) := upd_same
            have enl7 : upd (upd H5 od (.lst (acc.map V.int ++ [V.int b]))) lf (.lst (((p :: r).erase b).map V.int)) nl = some (.lst fs) := by
              rw [upd_ne (fun z => nflf z.symm), upd_ne (fun z => nodl z.symm)]
              exact enl5
            have hfs7 : ∀ p1 : Int, 0 ≤ p1 → p1 < N.n → ∃ a, fs[p1.toNat]? = some (.ref a) ∧ a ≠ nl ∧ a ≠ lf ∧ a ≠ od ∧ upd (upd H5 od (.lst (acc.map V.int ++ [V.int b]))) lf (.lst (((p :: r).erase b).map V.int)) a = some (.lst ((nr p1).map V.int)) := fun p1 h0 h1 => by
              obtain ⟨a, z1, z2, z3, z4, z5⟩ := hfs p1 h0 h1
              refine ⟨a, z1, z2, z3, z4, ?_⟩
              rw [upd_ne z3, upd_ne z4]
              exact s5 _ _ z5
            generalize upd (upd H5 od (.lst (acc.map V.int ++ [V.int b]))) lf (.lst (((p :: r).erase b).map V.int)) = H7 at s7 eod7 elf7 enl7 hfs7 ⊢
            -- around
            obtain ⟨ab, z1, z2, z3, z4, z5⟩ := hfs7 b hbr.1 hbr.2
            have g1 := atI_nat z1
            rw [show ((b.toNat : Nat) : Int) = b by omega] at g1
            refine q_asg (vl_ixL (K := K) (vl_var rfl) (vl_var rfl) (.of enl7) g1) ?_
            have hnlen : ∀ x ∈ p :: r, (nr x).length ≤ 40 := fun x hx2 => by
              have := sub_len (hnk.nd x hx2) fun o ho => ((hnk.mem x hx2 o).mp ho).1
              omega
            have hbn := hnk.nd b hb
            have hbirr : b ∉ nr b := fun h => by
              have := ((hnk.mem b hb b).mp h).2
              rw [hadj.irr] at this
              cases this
            refine g_forL (K := K) (j := 5) (xs := (nr b).map V.int) (vl_var rfl) (.of z5)
              (fun i σ H8 => ∃ y5 fs, σ = [some (.ref p0), some (.int b), some (.ref nl), some (.ref lf), some (.ref od), y5, some (.int ((nr b).length : Int)), some (.ref ab)] ∧ Same H H8 ∧ H8 od = some (.lst ((acc ++ [b]).map V.int)) ∧ H8 lf = some (.lst (((p :: r).erase b).map V.int)) ∧ H8 nl = some (.lst fs) ∧ fs.length = N.n.toNat ∧ H8 ab = some (.lst ((nr b).map V.int)) ∧
                (∀ p1 : Int, 0 ≤ p1 → p1 < N.n → ∃ a, fs[p1.toNat]? = some (.ref a) ∧ a ≠ nl ∧ a ≠ lf ∧ a ≠ od ∧ H8 a = some (.lst ((if p1 ∈ (nr b).take i then nearTo nr b p1 else nr p1).map V.int))))
              ⟨_, fs, rfl, s7, eod7, elf7, enl7, fl, z5, fun p1 h0 h1 => by
                rw [List.take_zero, if_neg List.not_mem_nil]
                exact hfs7 p1 h0 h1⟩ (fun i σ H8 hP => .of hP.choose_spec.choose_spec.2.2.2.2.2.2.1) (fun i x σ H8 hi2 hP => ?_) (fun σ H8 hP => ?_)
            · obtain ⟨y5', fs8, rfl, s8, eod8, elf8, enl8, fl8, eab8, hfs8⟩ := hP
              rw [List.getElem?_map] at hi2
              cases ho : (nr b)[i]? with
              | none =>
                rw [ho] at hi2
                cases hi2
              | some o =>
                rw [ho] at hi2
                cases hi2
                have hob := List.mem_of_getElem? ho
                have hoL := ((hnk.mem b hb o).mp hob).1
                have hor := hin o hoL
                have hnt : o ∉ (nr b).take i := fun h => by
                  obtain ⟨k', hk'⟩ := List.mem_iff_getElem?.mp h
                  have hlt := (List.getElem?_eq_some_iff.mp hk').1
                  rw [List.length_take] at hlt
                  rw [List.getElem?_take, if_pos (by omega), ← ho] at hk'
                  have := (List.getElem?_inj (by omega) hbn).mp hk'
                  omega
                obtain ⟨ao, w1, w2, w3, w4, w5⟩ := hfs8 o hor.1 hor.2
                rw [if_neg hnt] at w5
                have g2 := atI_nat w1
                rw [show ((o.toNat : Nat) : Int) = o by omega] at g2
                refine g_asgCall (va_cons (vl_ixL (K := K) (vl_var (i := 2) rfl) (vl_var (i := 5) rfl) (.of enl8) g2) (va_cons (vl_var (i := 7) rfl) (va_cons (vl_var (i := 1) rfl) (va_cons (vl_var (i := 5) rfl) va_nil)))) ?_
                refine ⟨ao, ab, nr o, nr b, b, o, rfl, .of w5, .of eab8, by have := hnlen o hoL; omega, by have := hnlen b hb; omega, fun H9 rq s9 nrq erq => ?_⟩
                have hrn : rq ≠ nl := fun z => by
                  rw [z, enl8] at nrq
                  cases nrq
                have hrl : rq ≠ lf := fun z => by
                  rw [z, elf8] at nrq
                  cases nrq
                have hro : rq ≠ od := fun z => by
                  rw [z, eod8] at nrq
                  cases nrq
                refine ⟨.ref nl, rfl, .int o, rfl, nl, fs8, o, o.toNat, rfl, rfl, s9 _ _ enl8, ?_, ?_⟩
                · unfold ixN
                  rw [if_pos hor.1, if_pos (by omega)]
                · refine ⟨_, _, rfl, same_upd' (s8.trans s9) nnl, ?_, ?_, upd_same, by rw [List.length_set]; exact fl8, ?_, fun p1 h0 h1 => ?_⟩
                  · rw [upd_ne nodl]
                    exact s9 _ _ eod8
                  · rw [upd_ne nflf]
                    exact s9 _ _ elf8
                  · rw [upd_ne z2]
                    exact s9 _ _ eab8
                  · rw [take_snoc ho]
                    by_cases e : p1 = o
                    · rw [e, if_pos (List.mem_append.mpr (.inr (List.mem_singleton.mpr rfl)))]
                      refine ⟨rq, ?_, hrn, hrl, hro, ?_⟩
                      · rw [List.getElem?_set_self (by omega)]
                      · rw [upd_ne hrn]
                        exact erq
                    · obtain ⟨a, x1, x2, x3, x4, x5⟩ := hfs8 p1 h0 h1
                      refine ⟨a, ?_, x2, x3, x4, ?_⟩
                      · rw [List.getElem?_set_ne (by omega)]
                        exact x1
                      · rw [upd_ne x2]
                        have e2 : (p1 ∈ (nr b).take i ++ [o]) ↔ p1 ∈ (nr b).take i := by
                          rw [List.mem_append, List.mem_singleton]
                          exact ⟨fun h => h.resolve_right e, .inl⟩
                        rw [show (if p1 ∈ (nr b).take i ++ [o] then nearTo nr b p1 else nr p1) = (if p1 ∈ (nr b).take i then nearTo nr b p1 else nr p1) from by
                          by_cases c : p1 ∈ (nr b).take i
                          · rw [if_pos c, if_pos (e2.mpr c)]
                          · rw [if_neg c, if_neg (fun z => c (e2.mp z))]]
                        exact s9 _ _ x5
            · obtain ⟨y5', fs8, rfl, s8, eod8, elf8, enl8, fl8, eab8, hfs8⟩ := hP
              rw [List.length_map] at hfs8
              rw [List.take_length] at hfs8
              have hel := List.length_erase_of_mem hb
              rw [List.length_cons, Nat.add_sub_cancel] at hel
              refine ⟨_, _, _, _, acc ++ [b], (p :: r).erase b, joinB adj b, fun p1 => if p1 ∈ nr b then nearTo nr b p1 else nr p1, fs8, rfl, s8, eod8, elf8, enl8, fl8, hfs8, hA.sublist List.erase_sublist, fun x hx2 => hin x (List.mem_of_mem_erase hx2), hadj.join b, hnk.step hadj hLn hb, ?_, hel.symm, ?_⟩
              · rw [hgr, List.append_assoc, hel]
                show acc ++ (pick (deg (p :: r) adj) p (p :: r) :: gr r.length ((p :: r).erase (pick (deg (p :: r) adj) p (p :: r))) (joinB adj (pick (deg (p :: r) adj) p (p :: r)))) = _
                rw [hpk]
                rfl
              · rw [hel, List.length_append]
                rw [List.length_cons] at hlen
                show _ + 1 + _ ≤ 40
                omega
end
/-! ### tests of which something is told -/
def Ap (t : TT) (σ : L2.St) (H : Hp) (P : Bool → Prop) : Prop := ∀ Q : Bool → Hp → Prop, (∀ b H', Same H H' → P b → Q b H') → t σ H Q
section
variable {K : PySem.W.Frag} {σ : L2.St} {H : Hp} {t u : TT} {D : Ends} {tz tw : TS} {P P1 P2 : Bool → Prop}
theorem ap_of {b : Bool} (h : Ax t σ H b) (hp : P b) : Ap t σ H P := fun Q q => h _ fun H' s => q b H' s hp
theorem ap_and (h1 : Ap t σ H P1) (h2 : P1 true → ∀ H', Same H H' → Ap u σ H' P2) : Ap (tAnd t u) σ H (fun b => b = true → P1 true ∧ P2 true) := fun Q q => h1 _ fun b H1 s1 hb => by
  cases b with
  | true => exact iteT (h2 hb H1 s1 _ fun c H2 s2 hc => q c H2 (s1.trans s2) fun e => ⟨hb, e ▸ hc⟩)
  | false => exact iteF (q false H1 s1 fun e => by cases e)
theorem ap_any (h : Ab t σ H) : Ap t σ H (fun _ => True) := fun Q q => h _ fun b => q b H (Same.refl H) trivial
theorem g_whenP (h : Ap t σ H P) (h1 : P true → ∀ H', Same H H' → tz D σ H') (h2 : ∀ H', Same H H' → D.nx σ H') : tIfS t tz tNext D σ H := h _ fun b H' s hb => by
  cases b with
  | true => exact iteT (h1 hb H' s)
  | false => exact iteF (h2 H' s)
end
theorem lnk_eqv {l : Lnk} {a b : Int} : PyData.eqv (.tuple [.int l.a, .int l.b]) (.tuple [.int a, .int b]) = decide (l.a = a ∧ l.b = b) := by
  show (l.a == a && (l.b == b && true)) = _
  rw [Bool.and_true, Bool.eq_iff_iff]
  simp
theorem eqv_nil {ds : List PyData} : PyData.eqv (.list ds) (.list []) = decide (ds = []) := by
  cases ds with
  | nil => rfl
  | cons d ds =>
    rw [decide_eq_false (fun h => by cases h)]
    rfl
/-- all links before (i, c), or the last is (i, c) -/
theorem LsAt.below {n i c : Int} {ls : List Lnk} (h : LsAt n i (c + 1) ls) (hl : ∀ l, ls.getLast? = some l → ¬ (l.a = i ∧ l.b = c)) : LsAt n i c ls := by
  rcases List.eq_nil_or_concat ls with rfl | ⟨L, b, rfl⟩
  · exact .nil
  · rw [List.concat_eq_append] at h hl ⊢
    have hb := hl b (by rw [List.getLast?_concat])
    have tb := h.to b (List.mem_append.mpr (.inr List.mem_cons_self))
    refine ⟨h.ok, fun l hm => ?_, h.lt⟩
    rcases List.mem_append.mp hm with g | g
    · have := (List.pairwise_append.mp h.lt).2.2 l g b List.mem_cons_self
      unfold LnkLt at this
      omega
    · rw [List.mem_singleton.mp g]
      omega
theorem at_last34 {xs : List V} {x : V} (h : xs[xs.length - 1]? = some x) (hl : 1 ≤ xs.length) : atI xs (-1) = some x := by
  have e : ixN xs.length (-1) = some (xs.length - 1) := by
    unfold ixN
    rw [if_neg (by omega), if_pos (by omega)]
    congr 1
    omega
  unfold atI
  rw [e]
  exact h
theorem te_sortedN {K : PySem.W.Frag} {σ : L2.St} {H : Hp} {ta : TA} {ns : List Int} {Q : VK} (hv : Va ta σ H (ns.map V.int)) (hl : ns.length < 64) (q : ∀ (cs : List Int) (p : Addr) (H' : Hp), cs.Perm ns → cs.Pairwise (· ≤ ·) → Same H H' → H p = none → H' p = some (.lst (cs.map V.int)) → Q (.ref p) H') : tCB (rSorted K) (tCons (tLst ta) tNil) σ H Q :=
  hv _ ⟨by rw [List.length_map]; exact Nat.le_trans (Nat.le_of_lt hl) (by decide), fun l nl => ⟨l, ns, rfl, .of upd_same, hl, fun cs p pm srt np => q cs p _ pm srt ((same_upd nl).trans (same_upd np)) (Same.free (same_upd nl) np) upd_same⟩⟩
def spNet4 (K : PySem.W.Frag) : Sp := fun vs H Q _ => ∃ (a : Addr) (ds : List Int) (k : Int), vs = [.ref a, .int k] ∧ SqL K H a (ds.map V.int) ∧ 0 ≤ k ∧
  ∀ (H' : Hp) (v : V) (N : Net), Same H H' → NetAt K H' v N → NetOk N → Q v H'
abbrev sSparse : Stmt := topS 39
theorem scSparse : FnScope ["draws", "k", "count", "wide", "links", "a", "b", "at", "back"] ["draws", "k"] (defScope sSparse) := ⟨rfl, rfl, rfl, by decide +kernel, rfl, by decide +kernel, by decide +kernel⟩
section
variable {P : Program} {w : World} {K : PySem.W.Frag} {mg : Str → Option Value} {base : Heap}
theorem ok_sparse {f : Addr} {fd : FuncData} {k : Nat} (F : Fun K "_law_sparse" "_law_sparse" sSparse f fd) (c_law_mix : Kal P w K mg base k "_law_mix" ["draws", "k", "many"] (spAt K)) (mr : mg "range" = none) (mi : mg "int" = none) (mo : mg "sorted" = none) : FnOk P w K mg base CX0 (k + 1) f fd ["draws", "k"] (spNet4 K) := by
  refine F.ok scSparse (fun vs H Q E h => ?_) (fun cdv A outer s H vs Q E hr h => ?_)
  · obtain ⟨a, ds, k, rfl, _⟩ := h
    rfl
  · obtain ⟨a, ds, k, rfl, hS, hk, q⟩ := h
    refine ⟨_, pss_cons (ps_set (i := 2) scSparse.nd rfl (.inl rfl) (pe_op op_add pe_int (pe_k c_law_mix hr (by first | decide | omega) (by rfl) (pa_cons (pv 0) (pa_cons (pv 1) (pa_cons pe_int pa_nil))))))
      (pss_cons (ps_set (i := 3) scSparse.nd rfl (.inl rfl) (pe_ix ix_list (pe_lst (pa_cons pe_int (pa_cons pe_int (pa_cons pe_int (pa_cons pe_int (pa_cons pe_int pa_nil)))))) (pe_k c_law_mix hr (by first | decide | omega) (by rfl) (pa_cons (pv 0) (pa_cons (pe_op op_add (pv 1) pe_int) (pa_cons pe_int pa_nil)))) (fun _ _ => rfl)))
      (pss_cons (ps_set (i := 4) scSparse.nd rfl (.inl rfl) (pe_lst pa_nil))
      (pss_cons (ps_for PassesOwn.never rfl (pi_range1 (by rfl) mr (pa_cons (pv 2) pa_nil)) (pg_name (i := 5) scSparse.nd rfl (.inl rfl))
      (pss_one (ps_for PassesOwn.never rfl (pi_list (pe_callB cr_sorted (by rfl) mo (by decide +kernel) (pa_cons (pe_lst (pa_cons (pe_op op_add (pv 5) pe_int) (pa_cons (pe_op op_add (pv 5) (pv 3)) pa_nil))) pa_nil))) (pg_name (i := 6) scSparse.nd rfl (.inl rfl))
        (pss_cons (ps_set (i := 7) scSparse.nd rfl (.inl rfl) (pe_op op_sub (pe_op op_add (pe_op op_add (pe_op op_add (pv 1) pe_int) (pe_op op_mul pe_int (pv 5))) (pv 6)) (pv 5)))
          (pss_one (ps_if (PW.pt (pw_and (pt_chain op_lt op_lt (pv 5) (pv 6) (pv 2)) (pw_and (PW.pt (pw_or (pt_cmpR (op_eqD hr.units) (pv 4) (pe_lst pa_nil) (nomark _)) (pw_or1 (pt_cmpR (op_neD hr.units) (pe_slice sl_tup (pe_ix ix_list (pv 4) (pe_un un_neg pe_int) (fun _ _ => rfl)) po_none (po_some pe_int)) (pe_tup (pa_cons (pv 5) (pa_cons (pv 6) pa_nil))) (nomark _))))) (pw_and1 (pt_cmpR op_gt (pe_k c_law_mix hr (by first | decide | omega) (by rfl) (pa_cons (pv 0) (pa_cons (pv 7) (pa_cons pe_int pa_nil)))) pe_int (nomark _))))))
          (pss_cons (ps_set (i := 8) scSparse.nd rfl (.inl rfl) (pe_ix ix_list (pe_lst (pa_cons pe_non (pa_cons (pe_op op_add pe_int (pe_k c_law_mix hr (by first | decide | omega) (by rfl) (pa_cons (pv 0) (pa_cons (pe_op op_add (pv 7) pe_int) (pa_cons pe_int pa_nil))))) pa_nil))) (pe_callTy call_int1 (by rfl) mi (by decide +kernel) (pa_cons (pe_cmpR op_gt (pe_k c_law_mix hr (by first | decide | omega) (by rfl) (pa_cons (pv 0) (pa_cons (pe_op op_add (pv 7) pe_int) (pa_cons pe_int pa_nil)))) pe_int (nomark _)) pa_nil)) (fun _ _ => rfl)))
            (pss_one (ps_expr (pe_bm PySem.F.plainAttrs_list PySem.F.slot_list_append PySem.F.type_list_append mt_append (pv 4) (pa_cons (pe_tup (pa_cons (pv 5) (pa_cons (pv 6) (pa_cons (pe_op op_add pe_int (pe_k c_law_mix hr (by first | decide | omega) (by rfl) (pa_cons (pv 0) (pa_cons (pe_op op_add (pv 7) pe_int) (pa_cons pe_int pa_nil))))) (pa_cons (pv 8) pa_nil))))) pa_nil)))))
          pss_nil))))))
      (pss_one (ps_ret (pe_tup (pa_cons (pv 2) (pa_cons (pv 4) pa_nil)))))))), ?_⟩
    refine q_asgI (P := fun r => 14 ≤ r ∧ r ≤ 40) (vi_I0 (g := fun i j => i + j) (vi_of vl_c) (vi_at (ds := ds) (vl_var rfl) (vl_var rfl) vl_c hS hk (by decide)) (fun p q hp hq => by omega)) (fun n hn => ?_)
    refine q_asgJ (P := fun r => r ∈ [1, 1, 3, 4, 6]) (vj_pick (xs := [1, 1, 3, 4, 6]) (by decide) (va_cons vl_c (va_cons vl_c (va_cons vl_c (va_cons vl_c (va_cons vl_c va_nil))))) fun H' s' => vi_at (vl_var rfl) (vl_I0 (vl_var rfl) vl_c) vl_c (s'.seq hS) (by omega) (by decide)) (fun wd H3 s3 hwd => ?_)
    have hwd1 : 1 ≤ wd := by
      simp only [List.mem_cons, List.not_mem_nil, or_false] at hwd
      omega
    replace hS := s3.seq hS
    refine q_lnew fun o no => ?_
    refine q_forR (n := n) (va_cons (vl_var rfl) va_nil) ⟨by omega, by omega⟩
      (fun i σ H4 => ∃ y5 y6 y7 y8 xs ls, σ = [some (.ref a), some (.int k), some (.int n), some (.int wd), some (.ref o), y5, y6, y7, y8] ∧ H4 o = some (.lst xs) ∧ Same H3 (but H4 o) ∧ DpAll K (but H4 o) xs (ls.map lnkD) ∧ LsAt n i 0 ls ∧ ls.length ≤ 2 * i)
      ⟨_, _, _, _, [], [], rfl, upd_same, same_but (same_upd no) no, .nil, .nil, by simp⟩ (fun i σ H4 hi hP => ?_) (fun σ H4 hP => ?_)
    · obtain ⟨y5, y6, y7, y8, xs, ls, rfl, ho, sm, hx, hl, hlen⟩ := hP
      refine g_forE ?_
      have hv : Va (tCons (tOp (rI0 fun i j => .int (i + j)) (tVar 5) (tC (.int 1))) (tCons (tOp (rI0 fun i j => .int (i + j)) (tVar 5) (tVar 3)) tNil)) [some (.ref a), some (.int k), some (.int n), some (.int wd), some (.ref o), some (.int (i : Int)), y6, y7, y8] H4 [.int ((i : Int) + 1), .int ((i : Int) + wd)] := va_cons (vl_I0 (vl_var rfl) vl_c) (va_cons (vl_I0 (vl_var rfl) (vl_var rfl)) va_nil)
      refine te_sortedN (K := K) (ns := [(i : Int) + 1, (i : Int) + wd]) hv (by show 2 < 64; decide) fun cs p H5 pm srt s5 np ep => ?_
      have po : p ≠ o := fun z => by
        rw [z, ho] at np
        cases np
      have hcl : cs.length = 2 := pm.length_eq
      have hc1 : ∀ m ∈ cs, (i : Int) + 1 ≤ m := fun m hm => by
        have := pm.mem_iff.mp hm
        simp only [List.mem_cons, List.not_mem_nil, or_false] at this
        omega
      refine g_forL (K := K) (j := 6) (a := p) (xs := cs.map V.int) (fun Q k => k) (.of ep)
        (fun j σ H6 => ∃ y6 y7 y8 xs ls c, σ = [some (.ref a), some (.int k), some (.int n), some (.int wd), some (.ref o), some (.int (i : Int)), y6, y7, y8] ∧ H6 o = some (.lst xs) ∧ Same (but H5 o) (but H6 o) ∧ DpAll K (but H6 o) xs (ls.map lnkD) ∧ LsAt n i c ls ∧ (∀ m, cs[j]? = some m → c ≤ m + 1) ∧ ls.length ≤ 2 * i + j)
        ⟨_, _, _, xs, ls, 0, rfl, s5 _ _ ho, Same.refl _, DpAll.to hx (but_mono s5), hl, fun m hm => by
          have := hc1 m (List.mem_of_getElem? hm)
          omega, by omega⟩ (fun j σ H6 hP => ?_) (fun j z σ H6 hj hP => ?_) (fun σ H6 hP => ?_)
      · obtain ⟨_, _, _, _, _, _, _, _, s6, _⟩ := hP
        exact .of (but_same _ _ (s6 _ _ (by rw [but_ne po]; exact ep)))
      · obtain ⟨y6, y7, y8, xs, ls, c, rfl, ho, s6, hx, hl, hc, hlen⟩ := hP
        rw [List.getElem?_map] at hj
        obtain ⟨b, hb, rfl⟩ := Option.map_eq_some_iff.mp hj
        have j2 : j < 2 := by
          have := (List.getElem?_eq_some_iff.mp hb).1
          omega
        have hcb := hc b hb
        have hib := hc1 b (List.mem_of_getElem? hb)
        have hl1 : LsAt n i (b + 1) ls := hl.mono (.inr ⟨rfl, hcb⟩)
        have nxt : ∀ m, cs[j + 1]? = some m → b + 1 ≤ m + 1 := fun m hm => by
          have g1 := (List.getElem?_eq_some_iff.mp hb)
          have g2 := (List.getElem?_eq_some_iff.mp hm)
          have := List.pairwise_iff_getElem.mp srt j (j + 1) g1.1 g2.1 (Nat.lt_succ_self _)
          rw [g1.2, g2.2] at this
          omega
        have s36 : Same H3 (but H6 o) := sm.trans ((but_mono s5).trans s6)
        have hS6 := (s36.trans but_same).seq hS
        have elen := DpAll.len hx
        rw [List.length_map] at elen
        refine q_asg (v := .int (k + 3 + 4 * (i : Int) + b - (i : Int))) (vl_I0 (g := fun i j => .int (i - j)) (vl_I0 (g := fun i j => .int (i + j)) (vl_I0 (g := fun i j => .int (i + j)) (vl_I0 (vl_var rfl) vl_c) (vl_I vl_c (vl_var rfl) (.inl ⟨by decide, by decide⟩))) (vl_var rfl)) (vl_var rfl)) ?_
        generalize hat : k + 3 + 4 * (i : Int) + b - (i : Int) = at_
        have hat0 : 0 ≤ at_ := by omega
        have fin : ∀ {y7 y8 : Option V} {H7 : Hp}, Same H6 H7 → ∃ y6' y7' y8' xs ls c, [some (V.ref a), some (.int k), some (.int n), some (.int wd), some (.ref o), some (.int (i : Int)), some (V.int b), y7, y8] = [some (.ref a), some (.int k), some (.int n), some (.int wd), some (.ref o), some (.int (i : Int)), y6', y7', y8'] ∧ H7 o = some (.lst xs) ∧ Same (but H5 o) (but H7 o) ∧ DpAll K (but H7 o) xs (ls.map lnkD) ∧ LsAt n i c ls ∧ (∀ m, cs[j + 1]? = some m → c ≤ m + 1) ∧ ls.length ≤ 2 * i + (j + 1) := fun {y7 y8 H7} s7 => ⟨_, _, _, xs, ls, b + 1, rfl, s7 _ _ ho, s6.trans (but_mono s7), DpAll.to hx (but_mono s7), hl1, nxt, by omega⟩
        have shL : SeqAt.shaped (.list (ls.map lnkD)) = true := by
          have ly := lay_lnks ls
          show (PyData.canLayAll0 (ls.map lnkD) && decide (PyData.depthAll (ls.map lnkD) + 1 ≤ 64)) = true
          rw [ly.1, decide_eq_true (by have := ly.2; omega)]
          rfl
        have dL : ∀ {H' : Hp}, Same H6 H' → Dp K H' (.ref o) (.list (ls.map lnkD)) := fun s => Dp.to (.lst (.of ho) (DpAll.to hx but_same)) s
        refine g_whenP (ap_and (P1 := fun e => e = true → (i : Int) < b ∧ b < n) (ap_of (ax_of (an_test (vl_chainI (g := fun i j => decide (i < j)) (g' := fun i j => decide (i < j)) (vl_var rfl) (vl_var rfl) (vl_var rfl)))) (fun e => by
            have := Bool.and_eq_true_iff.mp e
            exact ⟨of_decide_eq_true this.1, of_decide_eq_true this.2⟩)) fun _ H7 s7 => ap_and (P1 := fun e => e = true → LsAt n i b ls) (P2 := fun _ => True) ?_ fun _ H8 s8 => ap_any (ab_I0 (vi_at (vl_var rfl) (vl_var rfl) vl_c ((s7.trans s8).seq hS6) hat0 (by decide)) vl_c)) (fun hb1 H7 s7 => ?_) (fun H7 s7 => fin s7)
        · rcases List.eq_nil_or_concat ls with e | ⟨L, l, e⟩
          · refine ap_of (b := true) (ax_or (k := true) (m := true) (fun Q k => ⟨_, rfl, Nat.zero_le _, fun U nU => ⟨.list (ls.map lnkD), .list [], dL (s7.trans (same_upd nU)), .lst (.of upd_same) .nil, shL, by rfl, _, rfl, ?_⟩⟩) fun h => by cases h) fun _ => ?_
            · rw [eqv_nil, e]
              exact k _ (same_upd nU)
            · rw [e]
              exact .nil
          · rw [List.concat_eq_append] at e
            have hxl : xs[xs.length - 1]? = some (xs[xs.length - 1]'(by rw [elen, e, List.length_append]; simp)) := List.getElem?_eq_getElem _
            have l1 : 1 ≤ xs.length := by rw [elen, e, List.length_append]; simp
            generalize xs[xs.length - 1]'(by rw [elen, e, List.length_append]; simp) = z at hxl
            obtain ⟨v', hv', dv⟩ := DpAll.get (i := xs.length - 1) (d := lnkD l) hx (by
              rw [elen, e, List.map_append, List.length_append]
              show ((L.map lnkD) ++ [lnkD l])[L.length + 1 - 1]? = _
              rw [Nat.add_sub_cancel, List.getElem?_append_right (by rw [List.length_map]; exact Nat.le_refl _), List.length_map, Nat.sub_self]
              rfl)
            cases hxl.symm.trans hv'
            obtain ⟨t, rfl, ht⟩ := Dp.lnk_inv dv
            have ht6 : SqT K H6 t (lnkV l) := seqT but_same ht
            refine ap_of (b := !decide (l.a = (i : Int) ∧ l.b = b)) (Ax.is (ax_or (k := false) (m := !decide (l.a = (i : Int) ∧ l.b = b)) (fun Q k => ⟨_, rfl, Nat.zero_le _, fun U nU => ⟨.list (ls.map lnkD), .list [], dL (s7.trans (same_upd nU)), .lst (.of upd_same) .nil, shL, by rfl, _, rfl, ?_⟩⟩) fun _ H8 s8 Q k => ?_) (Bool.false_or _)) fun hne => hl1.below fun l' hl' => ?_
            · rw [eqv_nil, decide_eq_false (by rw [e]; simp)]
              exact k _ (same_upd nU)
            · refine (vl_ixL (K := K) (vl_var rfl) (vl_neg (p := 1) vl_c) (.of ((s7.trans s8) _ _ ho)) (at_last34 hxl l1)) _ ⟨2, rfl, t, lnkV l, rfl, seqT (s7.trans s8) ht6, fun z => ?_, fun T nT => ?_⟩
              · have := z.2
                rw [show HT.sIx (lnkV l).length (lnkV l).length (some 2) = min 2 4 from HT.sIx_nat 4 4 2] at this
                exact absurd (show (2 : Nat) = 4 from this) (by decide)
              · rw [show cutV (lnkV l) none (some 2) = [.int l.a, .int l.b] from cut_to (xs := lnkV l) (n := 2) (by show 2 ≤ 4; decide)]
                refine ⟨_, rfl, _, rfl, by show 2 ≤ sizeLine; decide, fun U nU => ⟨.tuple [.int l.a, .int l.b], .tuple [.int (i : Int), .int b], .tup (.of (same_upd nU _ _ upd_same)) (.cons (.int _) (.cons (.int _) .nil)), .tup (.of upd_same) (.cons (.int _) (.cons (.int _) .nil)), by rfl, by rfl, _, rfl, ?_⟩⟩
                rw [lnk_eqv]
                exact k _ ((same_upd nT).trans (same_upd nU))
            · rw [e, List.getLast?_concat] at hl'
              cases hl'
              rw [Bool.not_eq_true', decide_eq_false_iff_not] at hne
              exact hne
        · obtain ⟨h1, h2⟩ := hb1 rfl
          obtain ⟨hib2, hbn⟩ := h1 rfl
          have hlb := (h2 rfl).1 rfl
          have hS7 := s7.seq hS6
          -- back
          refine q_asgE ((vi_I0 (P := fun r => 1 ≤ r ∧ r ≤ 1000000) (g := fun i j => i + j) (vi_of vl_c) (vi_at (ds := ds) (m := 9) (k := at_ + 2) (vl_var rfl) (vl_I0 (vl_var rfl) vl_c) vl_c hS7 (by omega) (by decide)) (fun p q hp hq => by omega)) _ fun r1 hr1 => ⟨by show 2 ≤ sizeLine; decide, fun ll nll => ?_⟩)
          have s8 := same_upd (o := .lst [.non, .int r1]) nll
          refine (vi_at (ds := ds) (m := 8) (k := at_ + 3) (vl_var rfl) (vl_I0 (vl_var rfl) vl_c) vl_c (s8.seq hS7) (by omega) (by decide)) _ fun r2 hr2 => ⟨r2, 0, rfl, rfl, .inr ⟨decide (0 < r2), rfl, ?_⟩⟩
          obtain ⟨bk, hbk, hbo⟩ : ∃ bk : Option Int, atI [V.non, V.int r1] (if decide (0 < r2) = true then 1 else 0) = some (oV bk) ∧ PriceOk bk := by
            by_cases c2 : 0 < r2
            · rw [if_pos (decide_eq_true c2)]
              exact ⟨some r1, rfl, fun x hx => by cases hx; exact hr1⟩
            · rw [if_neg (by rw [decide_eq_false c2]; exact Bool.false_ne_true)]
              exact ⟨none, rfl, fun x hx => by cases hx⟩
          refine ⟨ll, _, _, _, rfl, rfl, .of upd_same, hbk, ?_⟩
          have s68 : Same H6 (upd H7 ll (.lst [.non, .int r1])) := s7.trans s8
          generalize upd H7 ll (.lst [.non, .int r1]) = H8 at s8 s68
          have ho8 := s68 _ _ ho
          refine ⟨.ref o, rfl, .inl ⟨rfl, _, .inl (.inl ho8)⟩, .int (i : Int), rfl, .int b, rfl, ?_⟩
          refine (vi_I0 (P := fun r => 1 ≤ r ∧ r ≤ 1000000) (g := fun i j => i + j) (vi_of vl_c) (vi_at (ds := ds) (m := 9) (k := at_ + 1) (vl_var rfl) (vl_I0 (vl_var rfl) vl_c) vl_c (s68.seq hS6) (by omega) (by decide)) (fun p q hp hq => by omega)) _ fun r3 hr3 => ⟨_, rfl, by show 4 ≤ sizeLine; decide, fun T nT => ?_⟩
          have s9 : Same H8 (upd H8 T (.tup [.int (i : Int), .int b, .int r3, oV bk])) := same_upd nT
          have nTo : o ≠ T := ne_of_none ho8 nT
          refine ⟨o, xs, .ref T, rfl, rfl, s9 _ _ ho8, Nat.lt_of_le_of_lt (show xs.length ≤ 10000 by omega) (by decide), ?_⟩
          have sb : Same (but H6 o) (but (upd (upd H8 T (.tup [.int (i : Int), .int b, .int r3, oV bk])) o (.lst (xs ++ [.ref T]))) o) := by
            rw [but_upd]
            exact but_mono (s68.trans s9)
          refine ⟨_, _, _, xs ++ [.ref T], ls ++ [⟨i, b, some r3, bk⟩], b + 1, rfl, upd_same, s6.trans sb, ?_, hlb.app (by omega) hib2 hbn (fun x hx => by cases hx; exact hr3) hbo, nxt, ?_⟩
          · rw [List.map_append]
            refine DpAll.app (DpAll.to hx sb) (DpAll.one (Dp.lnk (l := ⟨i, b, some r3, bk⟩) (.of ?_)))
            rw [but_upd, but_ne nTo.symm, upd_same]
            rfl
          · rw [List.length_append]
            show ls.length + 1 ≤ 2 * i + (j + 1)
            omega
      · obtain ⟨y6, y7, y8, xs, ls, c, rfl, ho, s6, hx, hl, hc, hlen⟩ := hP
        rw [List.length_map, hcl] at hlen
        exact ⟨_, _, _, _, xs, ls, rfl, ho, sm.trans ((but_mono s5).trans s6), hx, hl.mono (.inl (by omega)), by omega⟩
    · obtain ⟨y5, y6, y7, y8, xs, ls, rfl, ho, sm, hx, hl, hlen⟩ := hP
      refine ⟨.int n, rfl, .ref o, rfl, by show 2 ≤ sizeLine; decide, fun T nT => ?_⟩
      have s4 : Same H4 (upd H4 T (.tup [.int n, .ref o])) := same_upd nT
      exact q _ _ ⟨n, ls⟩ (s3.trans ((sm.trans but_same).trans s4)) ⟨T, o, xs, rfl, upd_same, s4 _ _ ho, DpAll.to hx (but_same.trans s4)⟩ ⟨by show 1 ≤ n; omega, by show n ≤ 40; omega, hl.ok, hl.lt, by show ls.length ≤ 1600; omega⟩
end
/-! ### each entry of a label is right, and needed -/
structure LabsR (H : Hp) (q : Addr) (n : Nat) (Lb : Int → List (Int × Int)) : Prop where
  ex : ∃ refs, H q = some (.lst refs) ∧ refs.length = n ∧ ∀ k : Nat, k < n → ∃ b xs, refs[k]? = some (.ref b) ∧ H b = some (.lst xs) ∧ TupsAt H xs (Lb (k : Int))
theorem LabsR.to {H H' : Hp} {q : Addr} {n : Nat} {Lb : Int → List (Int × Int)} (h : LabsR H q n Lb) (s : Same H H') : LabsR H' q n Lb := by
  obtain ⟨refs, h2, h3, h4⟩ := h.ex
  exact ⟨refs, s _ _ h2, h3, fun k hk => let ⟨b, xs, e1, e3, e4⟩ := h4 k hk; ⟨b, xs, e1, s _ _ e3, e4.to s⟩⟩
theorem LabsAt.rd {G H : Hp} {q : Addr} {n : Nat} {Lb : Int → List (Int × Int)} (h : LabsAt G H q n Lb) : LabsR H q n Lb := by
  obtain ⟨refs, _, h2, h3, h4⟩ := h.ex
  exact ⟨refs, h2, h3, fun k hk => let ⟨b, xs, e1, _, e3, e4⟩ := h4 k hk; ⟨b, xs, e1, e3, e4⟩⟩
theorem vl_labR {K : PySem.W.Frag} {H : Hp} {q : Addr} {n : Int} {Lb : Int → List (Int × Int)} {x : Int} (h : LabsR H q n.toNat Lb) (hx : 0 ≤ x ∧ x < n) : ∃ b xs, H b = some (.lst xs) ∧ TupsAt H xs (Lb x) ∧ ∀ (σ : L2.St) (t0 t1 : TE) H', Same H H' → Vl t0 σ H' (.ref q) → Vl t1 σ H' (.int x) → Vl (tOp (rIxL K) t0 t1) σ H' (.ref b) := by
  obtain ⟨refs, h2, h3, h4⟩ := h.ex
  obtain ⟨k, rfl⟩ := Int.eq_ofNat_of_zero_le hx.1
  obtain ⟨b, xs, e1, e2, e3⟩ := h4 k (by omega)
  exact ⟨b, xs, e2, e3, fun σ t0 t1 H' s v0 v1 => vl_ixL v0 v1 (.of (s _ _ h2)) (atI_nat e1)⟩
/-- for x, y in [(..), (..)] -/
theorem q_forTT {K : PySem.W.Frag} {σ : L2.St} {H : Hp} {D : Ends} {tz tw : TS} {j1 j2 : Nat} {Hb : Hp} {L T1 T2 : Addr} {d1 d2 : V × V} (eL : Hb L = some (.lst [.ref T1, .ref T2])) (e1 : Hb T1 = some (.tup [d1.1, d1.2])) (e2 : Hb T2 = some (.tup [d2.1, d2.2])) (Pv : Nat → L2.St → Hp → Prop) (h0 : Pv 0 σ H)
    (hl : ∀ i σ' H', Pv i σ' H' → Same Hb H') (hs : ∀ (i : Nat) d σ H, [d1, d2][i]? = some d → Pv i σ H → tz { D with nx := Pv (i + 1), ct := Pv (i + 1), bk := tw D } ((σ.set j1 (some d.1)).set j2 (some d.2)) H) (hd : ∀ σ H, Pv 2 σ H → tw D σ H) :
    tSeq (tFor (iList K fun _ H' Q => Q (.ref L) H') (gTup K 2 (gCons (gName j1) (gCons (gName j2) gNil))) tz) tw D σ H := ⟨L, rfl, ⟨_, .of (hl _ _ _ h0 _ _ eL)⟩, for_list (D := { D with nx := tw D }) (xs := [.ref T1, .ref T2]) Pv h0 (fun i σ H _ p => .of (hl i σ H p _ _ eL)) (fun i x σ H hi p => by
      match i, hi, p with
      | 0, hi, p =>
        cases hi
        exact ⟨T1, _, rfl, .of (hl _ _ _ p _ _ e1), rfl, _, _, rfl, _, _, rfl, rfl, hs 0 d1 σ H rfl p⟩
      | 1, hi, p =>
        cases hi
        exact ⟨T2, _, rfl, .of (hl _ _ _ p _ _ e2), rfl, _, _, rfl, _, _, rfl, rfl, hs 1 d2 σ H rfl p⟩
      | n + 2, hi, p => simp at hi) hd⟩
theorem scal_oI {o : Option Int} {d : Int} : scal (oV o) (.int d) = true := by
  cases o <;> rfl
theorem vl_lenT34 {K : PySem.W.Frag} {σ : L2.St} {H : Hp} {ta : TE} {a : Addr} {xs : List V} (ha : Vl ta σ H (.ref a)) (h : SqT K H a xs) : Vl (tCB (fun xs H Q => ∃ p ys, xs = [V.ref p] ∧ (SqL K H p ys ∨ SqT K H p ys) ∧ Q (V.int ys.length) H) (tCons ta tNil)) σ H (.int xs.length) :=
  vl_cb (va_cons ha va_nil) fun _ k => ⟨a, xs, rfl, .inr h, k⟩
theorem vl_isI34 {σ : L2.St} {H : Hp} {te : TE} {x : Int} (h : Vl te σ H (.int x)) : Vl (tCall spIsI [] E0 (tCons te tNil)) σ H (.bl true) := fun Q k => h (fun v H' => spIsI ([v] ++ []) H' Q E0) ⟨x, rfl, k⟩
abbrev sEntryR : Stmt := topS 41
abbrev sNeeded : Stmt := topS 42
theorem scEntryR : FnScope ["entry", "rank", "v", "due", "x", "price"] ["entry", "rank", "v", "due"] (defScope sEntryR) := ⟨rfl, rfl, rfl, by decide +kernel, rfl, by decide +kernel, by decide +kernel⟩
theorem scNeeded : FnScope ["forward", "backward", "rank", "sums", "v", "back", "due", "label", "entry", "k", "x", "place"] ["forward", "backward", "rank", "sums", "v"] (defScope sNeeded) := ⟨rfl, rfl, rfl, by decide +kernel, rfl, by decide +kernel, by decide +kernel⟩
def spEntryR (K : PySem.W.Frag) : Sp := fun vs H Q _ => ∃ (t r du : Addr) (v x d n : Int) (os : List Int) (us : List V), vs = [.ref t, .ref r, .int v, .ref du] ∧ H t = some (.tup [.int x, .int d]) ∧ SqL K H r ((rng n).map fun z => .int (posOf z os : Nat)) ∧ (0 ≤ v ∧ v < n) ∧ (0 ≤ x ∧ x < n) ∧ posOf v os ≤ posOf x os ∧ SqL K H du us ∧ atI us x = some (.int d) ∧ Q (.bl true) H
section
variable {P : Program} {w : World} {K : PySem.W.Frag} {mg : Str → Option Value} {base : Heap}
theorem ok_entryR {f : Addr} {fd : FuncData} {k : Nat} (F : Fun K "_law_entry_right" "_law_entry_right" sEntryR f fd) (c_law_is_integer : Kal P w K mg base k "_law_is_integer" ["actual"] spIsI) (ml : mg "len" = none) (ms : mg "isinstance" = none) (mt : mg "tuple" = none) : FnOk P w K mg base CX0 (k + 1) f fd ["entry", "rank", "v", "due"] (spEntryR K) := by
  refine F.ok scEntryR (fun vs H Q E h => ?_) (fun cdv A outer s H vs Q E hr h => ?_)
  · obtain ⟨t, r, du, v, x, d, n, os, us, rfl, _⟩ := h
    rfl
  · obtain ⟨t, r, du, v, x, d, n, os, us, rfl, et, hr0, hv, hx, hp, hdu, hd, q⟩ := h
    refine ⟨_, pss_cons (ps_if (PW.pt (pw_or (pt_not (pt_val (pe_callB call_isi (by rfl) ms (by decide +kernel) (pa_cons (pv 0) (pa_cons (pe_bltn (v := .ty "tuple") (by rfl) mt (by decide +kernel) rfl) pa_nil))))) (pw_or1 (pt_cmpR op_ne (pe_callB call_len_seq (by rfl) ml PySem.boot_len (pa_cons (pv 0) pa_nil)) pe_int (nomark _)))))
      (pss_one (ps_ret pe_bl))
      pss_nil)
      (pss_cons (ps_asg (pv 0) (pg_tup rfl (pgs_cons (pg_name (i := 4) scEntryR.nd rfl (.inl rfl)) (pgs_cons (pg_name (i := 5) scEntryR.nd rfl (.inl rfl)) pgs_nil))))
      (pss_cons (ps_if (PW.pt (pw_or (pt_not (pt_val (pe_k c_law_is_integer hr (by first | decide | omega) (by rfl) (pa_cons (pv 4) pa_nil)))) (pw_or (pt_not (pt_chain op_le op_lt pe_int (pv 4) (pe_callB call_len_seq (by rfl) ml PySem.boot_len (pa_cons (pv 1) pa_nil)))) (pw_or1 (pt_cmpR op_lt (pe_ix ix_list (pv 1) (pv 4) (fun _ _ => rfl)) (pe_ix ix_list (pv 1) (pv 2) (fun _ _ => rfl)) (nomark _))))))
      (pss_one (ps_ret pe_bl))
      pss_nil)
      (pss_one (ps_ret (pe_and (pe_k c_law_is_integer hr (by first | decide | omega) (by rfl) (pa_cons (pv 5) pa_nil)) (pe_one (pe_cmpR op_eq (pv 5) (pe_ix ix_list (pv 3) (pv 4) (fun _ _ => rfl)) (nomark _)))))))), ?_⟩
    refine q_when (b := false) ((an_or (k := false) (m := false) (An.is (an_not (an_B (b := true) (vl_cb (vs := [.ref t, .ty "tuple"]) (va_cons (vl_var rfl) (va_cons vl_c va_nil)) fun _ k => ⟨.ref t, .ty "tuple", .type "tuple", .type "tuple", true, rfl, .ty _, .base (.tup et), kit_ty (by decide +kernel), k⟩))) rfl) fun _ => an_test ((vl_ne (vl_lenT34 (vl_var rfl) (.of et)) vl_c rfl).is rfl)).is rfl) (fun z => nomatch z) (fun _ => ?_)
    refine q_asgT2 (vl_var rfl) (.of et) ?_
    have rk : ∀ {σ : L2.St} {i : Nat} {z : Int}, σ[1]? = some (some (.ref r)) → σ[i]? = some (some (.int z)) → 0 ≤ z → z < n → Vl (tOp (rIxL K) (tVar 1) (tVar i)) σ H (.int (posOf z os : Nat)) := fun h1 hi h0 hn => vl_ixL (K := K) (vl_var h1) (vl_var hi) hr0 (rng_at (g := fun z => V.int (posOf z os : Nat)) ⟨h0, hn⟩)
    refine q_when (b := false) (((an_or (k := false) (m := false) (An.is (an_not (b := true) (an_B (vl_isI34 (x := x) (vl_var rfl)))) rfl) fun _ => an_or (k := false) (m := false) (An.is (an_not (b := true) ((an_test (vl_chainI (g := fun i j => decide (i ≤ j)) (g' := fun i j => decide (i < j)) vl_c (vl_var rfl) ((vl_lenL (vl_var rfl) hr0).is (by rw [List.length_map, len_rng])))).is (by rw [decide_eq_true hx.1, decide_eq_true (show x < ((n.toNat : Nat) : Int) by omega)]; rfl))) rfl) fun _ => An.is (an_test (vl_I0 (g := fun i j => .bl (decide (i < j))) (rk rfl rfl hx.1 hx.2) (rk rfl rfl hv.1 hv.2))) (decide_eq_false (by omega)))).is rfl) (fun z => nomatch z) (fun _ => ?_)
    refine (vl_isI34 (x := d) (vl_var rfl)) _ ⟨true, rfl, iteT ?_⟩
    exact ((vl_eq (vl_var rfl) (vl_ixL (K := K) (vl_var rfl) (vl_var rfl) hdu hd) rfl).is (by rw [decide_eq_true rfl])) _ q
end
section
variable {K : PySem.W.Frag} {σ : L2.St} {H : Hp}
/-- [entry[0] for entry in label] -/
theorem vn_firsts {tl : TE} {j : Nat} {b : Addr} {xs : List V} {L : List (Int × Int)} (hj : j < σ.length) (hl : Vl tl σ H (.ref b)) (hb : H b = some (.lst xs)) (hT : TupsAt H xs L) (hz : L.length ≤ 1000) : Vn (tLc (iList K tl) (gName j) tYes (tOp (rIxT K) (tVar j) (tC (.int 0))) [j]) σ H ((L.map Prod.fst).map V.int) :=
  vn_lc (K := K) (vx_list hl (.of hb)) (by rw [hT.len, List.length_map, List.length_map]) (by rw [List.length_map, List.length_map]; omega) fun i x y H' s' hx hy => by
    have il := (List.getElem?_eq_some_iff.mp hx).1
    rw [hT.len] at il
    obtain ⟨t, h1, h2⟩ := hT.at_ i L[i].1 L[i].2 (List.getElem?_eq_getElem il)
    cases hx.symm.trans h1
    rw [List.getElem?_map, List.getElem?_map, List.getElem?_eq_getElem il] at hy
    cases hy
    have hjl : ((σ.set j none).set j (some (V.ref t)))[j]? = some (some (V.ref t)) := List.getElem?_set_self (by rw [List.length_set]; exact hj)
    exact ve_of (vl_ixT (K := K) (vl_var hjl) vl_c (.of (s' _ _ h2)) (atI_nat (j := 0) rfl))
theorem firsts_sorted {cs : List Int} {L : List (Int × Int)} (hL : L.Pairwise fun p q => p.1 < q.1) (pm : cs.Perm (L.map Prod.fst)) (srt : cs.Pairwise (· ≤ ·)) : cs = L.map Prod.fst :=
  List.Perm.eq_of_pairwise (le := (· ≤ ·)) (fun a b _ _ h1 h2 => by omega) srt (by
    rw [List.pairwise_map]
    exact hL.imp fun h => by omega) pm
/-- a label without its entry k -/
theorem vn_cutK {tl tk tl2 tk2 : TE} {b : Addr} {xs : List V} {k : Nat} (hl : Vl tl σ H (.ref b)) (hk : Vl tk σ H (.int (k : Int))) (hl2 : ∀ H', Same H H' → Vl tl2 σ H' (.ref b)) (hk2 : ∀ H', Same H H' → Vl tk2 σ H' (.int (((k + 1 : Nat)) : Int))) (hb : H b = some (.lst xs)) (kx : k < xs.length) (hz : xs.length ≤ 1000) : Vn (tOp rCat (tSl (rSlL K) tl tNoPart (tPart tk)) (tSl (rSlL K) tl2 (tPart tk2) tNoPart)) σ H (xs.take k ++ xs.drop (k + 1)) := by
  refine vn_cat ?_ (fun H' s' => ?_) (Nat.le_trans (m := 10000) (by rw [List.length_take, List.length_drop]; omega) (by decide))
  · rw [← cut_to (Nat.le_of_lt kx)]
    exact vn_slice hl (fun _ q => q) (fun _ q => hk _ ⟨_, rfl, q⟩) (.of hb)
  · rw [← cut_from (n := k + 1) kx]
    exact vn_slice (hl2 H' s') (fun _ q => (hk2 H' s') _ ⟨_, rfl, q⟩) (fun _ q => q) (.of (s' _ _ hb))
end
theorem comS_symm {F B : List (Int × Int)} {s : Int} (h : s ∈ comS F B) : s ∈ comS B F := by
  obtain ⟨x, a, b, h1, h2, rfl⟩ := mem_comS.mp h
  exact mem_comS.mpr ⟨x, b, a, h2, h1, by omega⟩
theorem nodup_cut {L : List (Int × Int)} {k : Nat} (h : (L.map Prod.fst).Nodup) : ((L.take k ++ L.drop (k + 1)).map Prod.fst).Nodup := by
  refine List.Nodup.sublist ?_ h
  refine List.Sublist.map _ ?_
  conv => rhs; rw [← List.take_append_drop k L]
  refine List.Sublist.append (List.Sublist.refl _) ?_
  exact List.drop_sublist_drop_left L (Nat.le_succ k)
def spNeeded (K : PySem.W.Frag) : Sp := fun vs H Q _ => ∃ (q1 q2 r D : Addr) (v : Int) (N : Net) (os : List Int) (rows : List Row), vs = [.ref q1, .ref q2, .ref r, .ref D, .int v] ∧ NetOk N ∧ OrdOk N.n os ∧ FillOk N os rows ∧ LabsR H q1 N.n.toNat (labF (dstN N) N.n os) ∧ LabsR H q2 N.n.toNat (labF (fun x y => dstN N y x) N.n os) ∧
  SqL K H r ((rng N.n).map fun z => .int (posOf z os : Nat)) ∧ SumsAt H D N ∧ (0 ≤ v ∧ v < N.n) ∧ ∀ H', Same H H' → Q (.bl true) H'
section
variable {P : Program} {w : World} {K : PySem.W.Frag} {mg : Str → Option Value} {base : Heap}
theorem ok_needed {f : Addr} {fd : FuncData} {k k1 k2 : Nat} (l1 : k1 ≤ k) (l2 : k2 ≤ k) (F : Fun K "_law_needed" "_law_needed" sNeeded f fd) (c_label_answer : Kal P w K mg base k1 "label_answer" ["forward", "backward"] (spLabAns K)) (c_law_entry_right : Kal P w K mg base k2 "_law_entry_right" ["entry", "rank", "v", "due"] (spEntryR K)) (ml : mg "len" = none) (mr : mg "range" = none) (mo : mg "sorted" = none) : FnOk P w K mg base CX0 (k + 1) f fd ["forward", "backward", "rank", "sums", "v"] (spNeeded K) := by
  refine F.ok scNeeded (fun vs H Q E h => ?_) (fun cdv A outer s H vs Q E hr h => ?_)
  · obtain ⟨q1, q2, r, D, v, N, os, rows, rfl, _⟩ := h
    rfl
  · obtain ⟨q1, q2, r, D, v, N, os, rows, rfl, ok, oo, hF, hA, hB, hr0, hS, hv, q⟩ := h
    refine ⟨_, pss_cons (ps_setLc (i := 5) (own := [("place", 11)]) (g := gName 11) (tt := tYes) (te := (tOp (rIxL K) (tOp (rIxL K) (tVar 3) (tVar 11)) (tVar 4))) (by rfl) scNeeded.nd rfl rfl (sw_true rfl rfl rfl (by decide +kernel)) (pi_range1 (by rfl) mr (pa_cons (pe_callB call_len_seq (by rfl) ml PySem.boot_len (pa_cons (pv 2) pa_nil)) pa_nil)) (blkOk_by (own := [("place", 11)]) (N := ["forward", "backward", "rank", "sums", "v", "back", "due", "label", "entry", "k", "x", "place"]) (sc := defScope sNeeded) (by decide +kernel)) (fun _ _ _ _ _ => pg_name (i := 11) scNeeded.nd rfl (Or.inl rfl)) (fun _ _ _ _ _ => by exact pts_nil) (fun _ _ _ _ _ => by exact (pe_ix ix_list (pe_ix ix_list (pv 3) (pv 11) (fun _ _ => rfl)) (pv 4) (fun _ _ => rfl))))
      (pss_cons (ps_for PassesOwn.never rfl (pi_list (pe_lst (pa_cons (pe_tup (pa_cons (pe_ix ix_list (pv 3) (pv 4) (fun _ _ => rfl)) (pa_cons (pe_ix ix_list (pv 0) (pv 4) (fun _ _ => rfl)) pa_nil))) (pa_cons (pe_tup (pa_cons (pv 5) (pa_cons (pe_ix ix_list (pv 1) (pv 4) (fun _ _ => rfl)) pa_nil))) pa_nil)))) (pg_tup rfl (pgs_cons (pg_name (i := 6) scNeeded.nd rfl (.inl rfl)) (pgs_cons (pg_name (i := 7) scNeeded.nd rfl (.inl rfl)) pgs_nil)))
      (pss_cons (ps_if (pt_cmpR (op_neD hr.units) (pe_lc (own := [("entry", 8)]) (g := gName 8) (tt := tYes) (te := (tOp (rIxT K) (tVar 8) (tC (.int 0)))) (by rfl) scNeeded.nd (pi_list (pv 7)) (blkOk_by (own := [("entry", 8)]) (N := ["forward", "backward", "rank", "sums", "v", "back", "due", "label", "entry", "k", "x", "place"]) (sc := defScope sNeeded) (by decide +kernel)) (fun _ _ _ _ _ => pg_name (i := 8) scNeeded.nd rfl (Or.inl rfl)) (fun _ _ _ _ _ => by exact pts_nil) (fun _ _ _ _ _ => by exact (pe_ix ix_tup (pv 8) pe_int (fun _ _ => rfl)))) (pe_callB cr_sorted (by rfl) mo (by decide +kernel) (pa_cons (pe_lc (own := [("entry", 8)]) (g := gName 8) (tt := tYes) (te := (tOp (rIxT K) (tVar 8) (tC (.int 0)))) (by rfl) scNeeded.nd (pi_list (pv 7)) (blkOk_by (own := [("entry", 8)]) (N := ["forward", "backward", "rank", "sums", "v", "back", "due", "label", "entry", "k", "x", "place"]) (sc := defScope sNeeded) (by decide +kernel)) (fun _ _ _ _ _ => pg_name (i := 8) scNeeded.nd rfl (Or.inl rfl)) (fun _ _ _ _ _ => by exact pts_nil) (fun _ _ _ _ _ => by exact (pe_ix ix_tup (pv 8) pe_int (fun _ _ => rfl)))) pa_nil)) (nomark _))
        (pss_one (ps_ret pe_bl))
        pss_nil)
        (pss_one (ps_for PassesOwn.never rfl (pi_list (pv 7)) (pg_name (i := 8) scNeeded.nd rfl (.inl rfl))
        (pss_one (ps_if (pt_not (pt_val (pe_k c_law_entry_right hr (by first | decide | omega) (by rfl) (pa_cons (pv 8) (pa_cons (pv 2) (pa_cons (pv 4) (pa_cons (pv 6) pa_nil)))))))
          (pss_one (ps_ret pe_bl))
          pss_nil))))))
      (pss_cons (ps_for PassesOwn.never rfl (pi_range1 (by rfl) mr (pa_cons (pe_callB call_len_seq (by rfl) ml PySem.boot_len (pa_cons (pe_ix ix_list (pv 0) (pv 4) (fun _ _ => rfl)) pa_nil)) pa_nil)) (pg_name (i := 9) scNeeded.nd rfl (.inl rfl))
      (pss_cons (ps_set (i := 10) scNeeded.nd rfl (.inl rfl) (pe_ix ix_tup (pe_ix ix_list (pe_ix ix_list (pv 0) (pv 4) (fun _ _ => rfl)) (pv 9) (fun _ _ => rfl)) pe_int (fun _ _ => rfl)))
        (pss_one (ps_if (pt_cmpR op_eq (pe_k c_label_answer hr (by first | decide | omega) (by rfl) (pa_cons (pe_op op_cat (pe_slice sl_list (pe_ix ix_list (pv 0) (pv 4) (fun _ _ => rfl)) po_none (po_some (pv 9))) (pe_slice sl_list (pe_ix ix_list (pv 0) (pv 4) (fun _ _ => rfl)) (po_some (pe_op op_add (pv 9) pe_int)) po_none)) (pa_cons (pe_ix ix_list (pv 1) (pv 10) (fun _ _ => rfl)) pa_nil))) (pe_ix ix_list (pe_ix ix_list (pv 3) (pv 4) (fun _ _ => rfl)) (pv 10) (fun _ _ => rfl)) (nomark _))
        (pss_one (ps_ret pe_bl))
        pss_nil))))
      (pss_cons (ps_for PassesOwn.never rfl (pi_range1 (by rfl) mr (pa_cons (pe_callB call_len_seq (by rfl) ml PySem.boot_len (pa_cons (pe_ix ix_list (pv 1) (pv 4) (fun _ _ => rfl)) pa_nil)) pa_nil)) (pg_name (i := 9) scNeeded.nd rfl (.inl rfl))
      (pss_cons (ps_set (i := 10) scNeeded.nd rfl (.inl rfl) (pe_ix ix_tup (pe_ix ix_list (pe_ix ix_list (pv 1) (pv 4) (fun _ _ => rfl)) (pv 9) (fun _ _ => rfl)) pe_int (fun _ _ => rfl)))
        (pss_one (ps_if (pt_cmpR op_eq (pe_k c_label_answer hr (by first | decide | omega) (by rfl) (pa_cons (pe_ix ix_list (pv 0) (pv 10) (fun _ _ => rfl)) (pa_cons (pe_op op_cat (pe_slice sl_list (pe_ix ix_list (pv 1) (pv 4) (fun _ _ => rfl)) po_none (po_some (pv 9))) (pe_slice sl_list (pe_ix ix_list (pv 1) (pv 4) (fun _ _ => rfl)) (po_some (pe_op op_add (pv 9) pe_int)) po_none)) pa_nil))) (pe_ix ix_list (pe_ix ix_list (pv 3) (pv 10) (fun _ _ => rfl)) (pv 4) (fun _ _ => rfl)) (nomark _))
        (pss_one (ps_ret pe_bl))
        pss_nil))))
      (pss_one (ps_ret pe_bl))))), ?_⟩
    have n1 := ok.n1
    have n40 := ok.n40
    have lf := labOk_fwd ok oo hF
    have lb := labOk_bwd ok oo hF
    -- back
    refine q_asgN (vn_lcRV (f := fun z => oV (dstN N z v)) (n := N.n) (va_cons ((vl_lenL (vl_var rfl) hr0).is (by rw [List.length_map, len_rng]; congr 1; omega)) va_nil) (by omega) (by omega) (fun x h0 h1 H' s' => ve_of (vl_sums2 (K := K) (vl_var rfl) (vl_var rfl) (vl_var rfl) (hS.to s') ⟨h0, h1⟩ hv))) fun bk H1 s1 nbk ebk => ?_
    obtain ⟨b1, xs1, eb1, hT1, vb1⟩ := vl_labR (K := K) (hA.to s1) hv
    obtain ⟨b2, xs2, eb2, hT2, vb2⟩ := vl_labR (K := K) (hB.to s1) hv
    obtain ⟨sv, vsv, esv⟩ := vl_sums1 (K := K) (σ := [some (.ref q1), some (.ref q2), some (.ref r), some (.ref D), some (.int v), some (.ref bk), none, none, none, none, none, none]) (H := H1) (t0 := tVar 3) (t1 := tVar 4) (vl_var rfl) (vl_var rfl) (hS.to s1) hv
    have ll1 : xs1.length ≤ 40 := by
      rw [hT1.len]
      have := labF_len (D := dstN N) (n := N.n) (os := os) (v := v)
      omega
    have ll2 : xs2.length ≤ 40 := by
      rw [hT2.len]
      have := labF_len (D := fun x y => dstN N y x) (n := N.n) (os := os) (v := v)
      omega
    refine q_forE (vsv _ ((vb1 _ _ _ _ (Same.refl _) (vl_var rfl) (vl_var rfl)) _ ⟨by show 2 ≤ sizeLine; decide, fun T1 n1' => ⟨.ref bk, rfl, (vb2 _ _ _ _ (same_upd n1') (vl_var rfl) (vl_var rfl)) _ ⟨by show 2 ≤ sizeLine; decide, fun T2 n2' => ⟨by show 2 ≤ sizeLine; decide, fun L nL => ?_⟩⟩⟩⟩))
    have t1 : Same H1 (upd H1 T1 (.tup [.ref sv, .ref b1])) := same_upd n1'
    have e1 : upd H1 T1 (.tup [.ref sv, .ref b1]) T1 = some (.tup [.ref sv, .ref b1]) := upd_same
    generalize upd H1 T1 (.tup [.ref sv, .ref b1]) = H2 at t1 e1 n2' nL
    have t2 : Same H2 (upd H2 T2 (.tup [.ref bk, .ref b2])) := same_upd n2'
    have e2 : upd H2 T2 (.tup [.ref bk, .ref b2]) T2 = some (.tup [.ref bk, .ref b2]) := upd_same
    generalize upd H2 T2 (.tup [.ref bk, .ref b2]) = H3 at t2 e2 nL
    have t3 : Same H3 (upd H3 L (.lst [.ref T1, .ref T2])) := same_upd nL
    have e3 : upd H3 L (.lst [.ref T1, .ref T2]) L = some (.lst [.ref T1, .ref T2]) := upd_same
    generalize upd H3 L (.lst [.ref T1, .ref T2]) = H4 at t3 e3
    have s14 : Same H1 H4 := (t1.trans t2).trans t3
    refine q_forTT (K := K) (Hb := H4) (d1 := (.ref sv, .ref b1)) (d2 := (.ref bk, .ref b2)) e3 (t3 _ _ (t2 _ _ e1)) (t3 _ _ e2)
      (fun i σ H5 => ∃ y6 y7 y8, σ = [some (.ref q1), some (.ref q2), some (.ref r), some (.ref D), some (.int v), some (.ref bk), y6, y7, y8, none, none, none] ∧ Same H4 H5)
      ⟨_, _, _, rfl, Same.refl _⟩ (fun i σ H5 hP => ?_) (fun i d σ H5 hi hP => ?_) (fun σ H5 hP => ?_)
    · obtain ⟨_, _, _, _, s5⟩ := hP
      exact s5
    · obtain ⟨y6, y7, y8, rfl, s5⟩ := hP
      have s15 := s14.trans s5
      obtain ⟨du, b, xs, Lx, us, rfl, edu, eb, hT, hlx, hsx, hen⟩ : ∃ du b xs Lx us, d = (V.ref du, V.ref b) ∧ H1 du = some (.lst us) ∧ H1 b = some (.lst xs) ∧ TupsAt H1 xs Lx ∧ xs.length ≤ 40 ∧ Lx.Pairwise (fun p q => p.1 < q.1) ∧ ∀ x c, (x, c) ∈ Lx → (0 ≤ x ∧ x < N.n) ∧ posOf v os ≤ posOf x os ∧ atI us x = some (.int c) := by
        match i, hi with
        | 0, hi =>
          cases hi
          refine ⟨sv, b1, xs1, _, _, rfl, esv, eb1, hT1, ll1, labF_sorted, fun x c hm => ?_⟩
          obtain ⟨g1, g2, _⟩ := mem_labF.mp hm
          refine ⟨g1, lab_pos lf hv hm, ?_⟩
          rw [rng_at (g := fun z => oV (dstN N v z)) g1, g2]
          rfl
        | 1, hi =>
          cases hi
          refine ⟨bk, b2, xs2, _, _, rfl, ebk, eb2, hT2, ll2, labF_sorted, fun x c hm => ?_⟩
          obtain ⟨g1, g2, _⟩ := mem_labF.mp hm
          refine ⟨g1, lab_pos lb hv hm, ?_⟩
          rw [rng_at (g := fun z => oV (dstN N z v)) g1, g2]
          rfl
        | n + 2, hi => simp at hi
      have hl2 : Lx.length ≤ 40 := by rw [← hT.len]; exact hlx
      refine q_whenx (b := false) (ax_ne (d := .list ((Lx.map Prod.fst).map PyData.int)) (shaped_ints _) (fun Q k => (vn_firsts (K := K) (by show 8 < 12; decide) (vl_var rfl) (s15 _ _ eb) (hT.to s15) (by omega)) _ fun p H' s' np hp => k _ H' s' (Dp.ints (.of hp)))
        (fun H' s' Q k => (vn_firsts (K := K) (by show 8 < 12; decide) (vl_var rfl) ((s15.trans s') _ _ eb) (hT.to (s15.trans s')) (by omega)) (fun x H'' => rSorted K [x] H'' Q) fun p H'' s'' np hp => ⟨p, Lx.map Prod.fst, rfl, .of hp, by rw [List.length_map]; omega, fun cs p2 pm srt np2 => by
          have e := firsts_sorted hsx pm srt
          rw [e]
          exact k _ _ (s''.trans (same_upd np2)) (Dp.ints (.of upd_same))⟩)) (fun z => nomatch z) (fun _ H6 s6 => ?_)
      have s16 := s15.trans s6
      refine g_forL (K := K) (j := 8) (a := b) (xs := xs) (vl_var rfl) (.of (s16 _ _ eb))
        (fun m σ H7 => ∃ y8, σ = [some (.ref q1), some (.ref q2), some (.ref r), some (.ref D), some (.int v), some (.ref bk), some (.ref du), some (.ref b), y8, none, none, none] ∧ H7 = H6)
        ⟨_, rfl, rfl⟩ (fun m σ H7 hP => ?_) (fun m u σ H7 hm hP => ?_) (fun σ H7 hP => ?_)
      · obtain ⟨_, _, rfl⟩ := hP
        exact .of (s16 _ _ eb)
      · obtain ⟨y8, rfl, rfl⟩ := hP
        have il := (List.getElem?_eq_some_iff.mp hm).1
        rw [hT.len] at il
        obtain ⟨x, c, hxc⟩ : ∃ x c, Lx[m]? = some (x, c) := ⟨_, _, List.getElem?_eq_getElem il⟩
        obtain ⟨t, g1, g2⟩ := hT.at_ m x c hxc
        cases hm.symm.trans g1
        obtain ⟨h1, h2, h3⟩ := hen x c (List.mem_of_getElem? hxc)
        exact g_when (b := false) (An.is (an_not (b := true) (an_B fun Q k => ⟨.ref t, rfl, .ref r, rfl, .int v, rfl, .ref du, rfl, t, r, du, v, x, c, N.n, os, us, rfl, s16 _ _ g2, (s1.trans s16).seq hr0, hv, h1, h2, .of (s16 _ _ edu), h3, k⟩)) rfl) (fun z => nomatch z) (fun _ => ⟨_, rfl, rfl⟩)
      · obtain ⟨y8, rfl, rfl⟩ := hP
        exact ⟨_, _, _, rfl, s5.trans s6⟩
    obtain ⟨y6, y7, y8, rfl, s5⟩ := hP
    have s15 := s14.trans s5
    -- forward
    refine q_forR (n := (xs1.length : Int)) (va_cons (vl_lenL (vb1 _ _ _ _ s15 (vl_var rfl) (vl_var rfl)) (.of (s15 _ _ eb1))) va_nil) ⟨by omega, by omega⟩
      (fun i σ H6 => ∃ y9 y10, σ = [some (.ref q1), some (.ref q2), some (.ref r), some (.ref D), some (.int v), some (.ref bk), y6, y7, y8, y9, y10, none] ∧ Same H5 H6)
      ⟨_, _, rfl, Same.refl _⟩ (fun i σ H6 hi hP => ?_) (fun σ H6 hP => ?_)
    · obtain ⟨y9, y10, rfl, s6⟩ := hP
      have s16 := s15.trans s6
      have ix : i < xs1.length := by omega
      obtain ⟨x, c, hxc⟩ : ∃ x c, (labF (dstN N) N.n os v)[i]? = some (x, c) := ⟨_, _, List.getElem?_eq_getElem (by rw [← hT1.len]; exact ix)⟩
      obtain ⟨t, g1, g2⟩ := hT1.at_ i x c hxc
      obtain ⟨hx, hc, _⟩ := mem_labF.mp (List.mem_of_getElem? hxc)
      refine q_asg (v := .int x) (vl_ixT (K := K) (vl_ixL (K := K) (vb1 _ _ _ _ s16 (vl_var rfl) (vl_var rfl)) (vl_var rfl) (.of (s16 _ _ eb1)) (atI_nat g1)) vl_c (.of (s16 _ _ g2)) (atI_nat (j := 0) rfl)) ?_
      obtain ⟨bx, xsx, ebx, hTx, vbx⟩ := vl_labR (K := K) (hB.to s1) hx
      have lx := labF_len (D := fun x y => dstN N y x) (n := N.n) (os := os) (v := x)
      have l1 := labF_len (D := dstN N) (n := N.n) (os := os) (v := v)
      refine g_whenx (b := false) (fun Q k => (vn_cutK (K := K) (b := b1) (xs := xs1) (k := i) (vb1 _ _ _ _ s16 (vl_var rfl) (vl_var rfl)) (vl_var rfl) (fun H' s' => vb1 _ _ _ _ (s16.trans s') (vl_var rfl) (vl_var rfl)) (fun H' s' => (vl_I0 (g := fun i j => .int (i + j)) (p := (i : Int)) (q := 1) (vl_var rfl) vl_c).is (congrArg V.int (by omega))) (s16 _ _ eb1) ix (by omega)) _ fun p H7 s7 np hp => ?_) (fun z => nomatch z) (fun _ H7 s7 => ⟨_, _, rfl, s6.trans s7⟩)
      have s17 := s16.trans s7
      have hd := (hT1.to s17).dp (K := K)
      have hd2 : DpAll K H7 (xs1.take i ++ xs1.drop (i + 1)) (((labF (dstN N) N.n os v).take i ++ (labF (dstN N) N.n os v).drop (i + 1)).map ppD) := by
        rw [List.map_append, List.map_take, List.map_drop]
        exact DpAll.app (DpAll.take i hd) (DpAll.drop (i + 1) hd)
      refine (vbx _ _ _ _ s17 (vl_var rfl) (vl_var rfl)) _ ⟨.ref p, .ref bx, _, _, rfl, .lst (.of hp) hd2, .lst (.of (s17 _ _ ebx)) (hTx.to s17).dp, by rw [List.length_append, List.length_take, List.length_drop]; omega, by omega, labF_nodup, fun H8 s8 => ?_⟩
      have v2 := vl_sums2 (K := K) (H := H8) (σ := [some (.ref q1), some (.ref q2), some (.ref r), some (.ref D), some (.int v), some (.ref bk), y6, y7, y8, some (.int (i : Int)), some (.int x), none]) (t0 := tVar 3) (t1 := tVar 4) (t2 := tVar 10) (vl_var rfl) (vl_var rfl) (vl_var rfl) (hS.to (s1.trans (s17.trans s8))) hv hx
      rw [hc] at v2
      refine v2 _ ⟨scal_oI, _, rfl, ?_⟩
      have := labMin_ne (lab_need lf lb oo hv hxc)
      show _
      rw [show decide (oV (labMin ((labF (dstN N) N.n os v).take i ++ (labF (dstN N) N.n os v).drop (i + 1)) (labF (fun x y => dstN N y x) N.n os x)) = oV (some c)) = false from this]
      exact k _ (s7.trans s8)
    obtain ⟨y9, y10, rfl, s6⟩ := hP
    have s16 := s15.trans s6
    -- backward
    refine q_forR (n := (xs2.length : Int)) (va_cons (vl_lenL (vb2 _ _ _ _ s16 (vl_var rfl) (vl_var rfl)) (.of (s16 _ _ eb2))) va_nil) ⟨by omega, by omega⟩
      (fun i σ H7 => ∃ y9 y10, σ = [some (.ref q1), some (.ref q2), some (.ref r), some (.ref D), some (.int v), some (.ref bk), y6, y7, y8, y9, y10, none] ∧ Same H6 H7)
      ⟨_, _, rfl, Same.refl _⟩ (fun i σ H7 hi hP => ?_) (fun σ H7 hP => ?_)
    · obtain ⟨y9, y10, rfl, s7⟩ := hP
      have s17 := s16.trans s7
      have ix : i < xs2.length := by omega
      obtain ⟨x, c, hxc⟩ : ∃ x c, (labF (fun x y => dstN N y x) N.n os v)[i]? = some (x, c) := ⟨_, _, List.getElem?_eq_getElem (by rw [← hT2.len]; exact ix)⟩
      obtain ⟨t, g1, g2⟩ := hT2.at_ i x c hxc
      obtain ⟨hx, hc, _⟩ := mem_labF.mp (List.mem_of_getElem? hxc)
      refine q_asg (v := .int x) (vl_ixT (K := K) (vl_ixL (K := K) (vb2 _ _ _ _ s17 (vl_var rfl) (vl_var rfl)) (vl_var rfl) (.of (s17 _ _ eb2)) (atI_nat g1)) vl_c (.of (s17 _ _ g2)) (atI_nat (j := 0) rfl)) ?_
      obtain ⟨bx, xsx, ebx, hTx, vbx⟩ := vl_labR (K := K) (hA.to s1) hx
      have lx := labF_len (D := dstN N) (n := N.n) (os := os) (v := x)
      have l1 := labF_len (D := fun x y => dstN N y x) (n := N.n) (os := os) (v := v)
      refine g_whenx (b := false) (fun Q k => (vbx _ _ _ _ s17 (vl_var rfl) (vl_var rfl)) _ ((vn_cutK (K := K) (b := b2) (xs := xs2) (k := i) (vb2 _ _ _ _ s17 (vl_var rfl) (vl_var rfl)) (vl_var rfl) (fun H' s' => vb2 _ _ _ _ (s17.trans s') (vl_var rfl) (vl_var rfl)) (fun H' s' => (vl_I0 (g := fun i j => .int (i + j)) (p := (i : Int)) (q := 1) (vl_var rfl) vl_c).is (congrArg V.int (by omega))) (s17 _ _ eb2) ix (by omega)) _ fun p H8 s8 np hp => ?_)) (fun z => nomatch z) (fun _ H8 s8 => ⟨_, _, rfl, s7.trans s8⟩)
      have s18 := s17.trans s8
      have hd := (hT2.to s18).dp (K := K)
      have hd2 : DpAll K H8 (xs2.take i ++ xs2.drop (i + 1)) (((labF (fun x y => dstN N y x) N.n os v).take i ++ (labF (fun x y => dstN N y x) N.n os v).drop (i + 1)).map ppD) := by
        rw [List.map_append, List.map_take, List.map_drop]
        exact DpAll.app (DpAll.take i hd) (DpAll.drop (i + 1) hd)
      refine ⟨.ref bx, .ref p, _, _, rfl, .lst (.of (s18 _ _ ebx)) (hTx.to s18).dp, .lst (.of hp) hd2, by omega, by rw [List.length_append, List.length_take, List.length_drop]; omega, nodup_cut labF_nodup, fun H9 s9 => ?_⟩
      have v2 := vl_sums2 (K := K) (H := H9) (σ := [some (.ref q1), some (.ref q2), some (.ref r), some (.ref D), some (.int v), some (.ref bk), y6, y7, y8, some (.int (i : Int)), some (.int x), none]) (t0 := tVar 3) (t1 := tVar 10) (t2 := tVar 4) (vl_var rfl) (vl_var rfl) (vl_var rfl) (hS.to (s1.trans (s18.trans s9))) hx hv
      rw [hc] at v2
      refine v2 _ ⟨scal_oI, _, rfl, ?_⟩
      have := labMin_ne (d := c) (fun h => lab_need lb lf oo hv hxc (comS_symm h))
      rw [show decide (oV (labMin (labF (dstN N) N.n os x) ((labF (fun x y => dstN N y x) N.n os v).take i ++ (labF (fun x y => dstN N y x) N.n os v).drop (i + 1))) = oV (some c)) = false from this]
      exact k _ (s8.trans s9)
    obtain ⟨y9, y10, rfl, s7⟩ := hP
    exact g_ret vl_c (q H7 (s1.trans (s16.trans s7)))
end
/-! ### what repr asks of the rows of up to 40 places -/
theorem shown_40 {i : Int} (h0 : 0 ≤ i) (h1 : i < 10 ^ 19) : (PyData.int i).shown.length ≤ 19 := toString_length_le h0 (by decide) h1
theorem showable_40 {i : Int} (h0 : 0 ≤ i) (h1 : i < 10 ^ 19) : (PyData.int i).showable = true := by
  refine decide_eq_true ?_
  by_cases hz : i.natAbs = 0
  · rw [hz]
    decide
  · rw [Nat.log2_lt hz]
    have h : i.natAbs < 2 ^ 64 := by omega
    exact Nat.lt_of_lt_of_le h (Nat.pow_le_pow_right (by decide : 2 > 0) (show 64 ≤ 1920 by decide))
theorem show_o40 {o : Option Int} (h : ∀ c, o = some c → 0 ≤ c ∧ c < 10 ^ 19) : (oD o).shown.length ≤ 19 ∧ (oD o).showable = true := by
  cases o with
  | none =>
    refine ⟨?_, rfl⟩
    show ("None" : Str).length ≤ 19
    decide +kernel
  | some x =>
    have := h x rfl
    exact ⟨shown_40 this.1 this.2, showable_40 this.1 this.2⟩
theorem showOk_rows40 {N : Net} {os : List Int} {rows : List Row} (ok : NetOk N) (oo : OrdOk N.n os) (h : FillOk N os rows) : ShowOk (.list (rows.map rowD)) 400000 := by
  have n1 := ok.n1
  have n40 := ok.n40
  have hlen : rows.length ≤ 1600 := by
    have e := congrArg List.length h.pairs
    rw [List.length_map] at e
    rw [e]
    exact pairsL_len ok oo
  have one : ∀ r ∈ rows, (rowD r).shown.length ≤ 130 ∧ (rowD r).showable = true := fun r hr => by
    have pp := h.pair ok oo hr
    have pi := pp.ins ok
    have hv : r.v ∈ os := oo.mem.mpr pi.2
    have lv := posOf_lt hv
    have lv2 : posOf r.v os < os.length := (List.getElem?_eq_some_iff.mp lv).1
    have ol := oo.len
    have p1 := pp.1
    have b := h.bound ok oo 40 r hr (by omega)
    have e40 : (1000000 : Int) * 2 ^ 40 = 1099511627776000000 := by decide
    rw [e40] at b
    have mid : ∀ o : Option Int, (∀ w, o = some w → w ∈ os) → ∀ c, o = some c → 0 ≤ c ∧ c < 10 ^ 19 := fun o ho c hc => by
      have := oo.mem.mp (ho c hc)
      omega
    have s1 := show_o40 (o := r.up) fun c hc => by
      have := b.1 c hc
      omega
    have s2 := show_o40 (o := r.dn) fun c hc => by
      have := b.2.1 c hc
      omega
    have s3 := show_o40 (mid r.um b.2.2.1)
    have s4 := show_o40 (mid r.dm b.2.2.2)
    have each : ∀ d ∈ [PyData.int r.u, .int r.v, oD r.up, oD r.dn, oD r.um, oD r.dm], d.shown.length ≤ 19 ∧ d.showable = true := fun d hd => by
      simp only [List.mem_cons, List.not_mem_nil, or_false] at hd
      rcases hd with rfl | rfl | rfl | rfl | rfl | rfl
      · exact ⟨shown_40 (by omega) (by omega), showable_40 (by omega) (by omega)⟩
      · exact ⟨shown_40 (by omega) (by omega), showable_40 (by omega) (by omega)⟩
      · exact s1
      · exact s2
      · exact s3
      · exact s4
    constructor
    · show (tupleText (PyData.shownAll [.int r.u, .int r.v, oD r.up, oD r.dn, oD r.um, oD r.dm])).length ≤ 130
      have t := tupleText_le (PyData.shownAll [.int r.u, .int r.v, oD r.up, oD r.dn, oD r.um, oD r.dm])
      have p := piled_le (m := 19) fun d hd => (each d hd).1
      have e : ([.int r.u, .int r.v, oD r.up, oD r.dn, oD r.um, oD r.dm] : List PyData).length = 6 := rfl
      rw [e] at p
      omega
    · show (PyData.showableAll [.int r.u, .int r.v, oD r.up, oD r.dn, oD r.um, oD r.dm]) = true
      exact showable_all fun d hd => (each d hd).2
  have p := piled_le (ds := rows.map rowD) (m := 130) fun d hd => by
    obtain ⟨r, hr, rfl⟩ := List.mem_map.mp hd
    exact (one r hr).1
  rw [List.length_map] at p
  have q := listText_le (PyData.shownAll (rows.map rowD))
  have ly := lay_rows rows
  refine ⟨?_, PyData.hasDict_of_canLay _ ly.1, ?_, ?_⟩
  · refine showable_all fun d hd => ?_
    obtain ⟨r, hr, rfl⟩ := List.mem_map.mp hd
    exact (one r hr).2
  · show PyData.depthAll (rows.map rowD) + 1 ≤ 10
    have := ly.2
    omega
  · show (listText (PyData.shownAll (rows.map rowD))).length ≤ 400000
    omega
/-! ### the law of whole labels -/
/-- [_law_sums(net, place) for place in places] -/
theorem lc_sums34 {K : PySem.W.Frag} {σ : L2.St} {H : Hp} {tl t0 : TE} {a : Addr} {N : Net} {j : Nat} {v : V} {Q : VK} (hj : j < σ.length) (hl : Vl tl σ H (.ref a)) (hx : SqL K H a ((rng N.n).map V.int)) (hv : ∀ H', Same H H' → ∀ z, Vl t0 ((σ.set j none).set j (some z)) H' v) (hN : Dp K H v (netD N)) (ok : NetOk N)
    (q : ∀ (D : Addr) (H' : Hp), Same H H' → H D = none → SumsAt H' D N → Q (.ref D) H') : tLc (iList K tl) (gName j) tYes (tCall (spSums34 K) [] E0 (tCons t0 (tCons (tVar j) tNil))) [j] σ H Q := by
  have n1 := ok.n1
  have n40 := ok.n40
  refine hl _ ⟨a, rfl, ⟨_, hx⟩, fun D nD => lc_list (K := K) (a := a) (xs := (rng N.n).map V.int)
    (fun m H' => Same H (but H' D) ∧ ∃ refs : List V, H' D = some (.lst refs) ∧ refs.length = m ∧ ∀ k : Nat, k < m → ∃ a, a ≠ D ∧ refs[k]? = some (.ref a) ∧ H' a = some (.lst ((rng N.n).map fun z => oV (dstN N (k : Int) z))))
    ⟨same_but (same_upd nD) nD, [], upd_same, rfl, fun k hk => absurd hk (Nat.not_lt_zero _)⟩ (fun m H' _ hP => (hP.1.trans but_same).seq hx) (fun m z H' hm hP => ?_) (fun H' hP => ?_)⟩
  · obtain ⟨s, refs, hD, hl, hr⟩ := hP
    have il := (List.getElem?_eq_some_iff.mp hm).1
    rw [List.length_map, len_rng] at il
    rw [List.getElem?_map, rngG il] at hm
    cases hm
    refine ⟨?_, yes_of ?_⟩
    · show ((σ.set j none).set j _).set j none = σ.set j none
      rw [List.set_set, List.set_set]
    refine if_true_of (by rfl) ?_
    have hjl : ((σ.set j none).set j (some (V.int (m : Int))))[j]? = some (some (V.int (m : Int))) := List.getElem?_set_self (by rw [List.length_set]; exact hj)
    refine (hv _ (s.trans but_same) _) _ ⟨_, hjl, v, N, (m : Int), rfl, Dp.to hN (s.trans but_same), ok, by omega, by omega, fun H2 a s2 na ea => ?_⟩
    have hD2 := s2 _ _ hD
    have naD : a ≠ D := fun e => by
      rw [e, hD] at na
      cases na
    refine ⟨refs, hD2, ?_, ?_, refs ++ [.ref a], upd_same, ?_, fun k hk => ?_⟩
    · rw [hl]
      exact Nat.lt_of_le_of_lt (show m ≤ 100 by omega) (by decide)
    · rw [but_upd]
      exact s.trans (but_mono s2)
    · rw [List.length_append, hl]
      rfl
    · by_cases e : k = m
      · subst e
        refine ⟨a, naD, ?_, ?_⟩
        · rw [List.getElem?_append_right (by omega), hl, Nat.sub_self]
          rfl
        · rw [upd_ne naD]
          exact ea
      · obtain ⟨b, h1, h2, h3⟩ := hr k (by omega)
        refine ⟨b, h1, ?_, ?_⟩
        · rw [List.getElem?_append_left (by omega)]
          exact h2
        · rw [upd_ne h1]
          exact s2 _ _ h3
  · obtain ⟨s, refs, hD, hl, hr⟩ := hP
    rw [List.length_map, len_rng] at hl hr
    exact q D H' (s.trans but_same) nD ⟨refs, hD, hl, fun k hk => let ⟨a, _, h2, h3⟩ := hr k hk; ⟨a, h2, h3⟩⟩
/-- [order.index(place) for place in places] -/
theorem vn_ranks {K : PySem.W.Frag} {σ : L2.St} {H : Hp} {tl to : TE} {a po : Addr} {n : Int} {os : List Int} {j : Nat} (hj : j < σ.length) (n40 : n ≤ 1000) (oo : OrdOk n os) (hl : Vl tl σ H (.ref a)) (hx : SqL K H a ((rng n).map V.int)) (ho : ∀ H', Same H H' → ∀ z, Vl to ((σ.set j none).set j (some z)) H' (.ref po)) (hpo : SqL K H po (os.map V.int)) :
    Vn (tLc (iList K tl) (gName j) tYes (tBM K "list" (rIndex K) to (tCons (tVar j) tNil)) [j]) σ H ((rng n).map fun z => V.int (posOf z os : Nat)) :=
  vn_lc (K := K) (vx_list hl hx) (by rw [List.length_map, List.length_map]) (by rw [List.length_map, len_rng]; omega) fun i x y H' s' hx hy => by
    have il := (List.getElem?_eq_some_iff.mp hx).1
    rw [List.length_map, len_rng] at il
    rw [List.getElem?_map, rngG il] at hx hy
    cases hx
    cases hy
    have hjl : ((σ.set j none).set j (some (V.int (i : Int))))[j]? = some (some (V.int (i : Int))) := List.getElem?_set_self (by rw [List.length_set]; exact hj)
    exact ve_of (vl_indexL (K := K) (ho _ s' _) (vl_var hjl) (s'.seq hpo) oo.nodup (posOf_lt (oo.mem.mpr (by omega))))
theorem ax_B34 {σ : L2.St} {H : Hp} {te : TE} {b : Bool} (h : Ve te σ H (.bl b)) : Ax (tB te) σ H b := fun Q k => h _ fun H' s' => ⟨_, rfl, k H' s'⟩
theorem q_asgP34 {σ : L2.St} {H : Hp} {te : TE} {D : Ends} {tw : TS} {i : Nat} {P : V → Hp → Prop} (h : ∀ Q : VK, (∀ v H', P v H' → Q v H') → te σ H Q) (k : ∀ v H', P v H' → tw D (σ.set i (some v)) H') : tSeq (tAsg te (gName i)) tw D σ H := h _ k
abbrev sLaw : Stmt := topS 43
theorem scLaw : FnScope ["script", "draws", "net", "places", "order", "rank", "rows", "kept", "forward", "backward", "sums", "start", "handed", "stop", "told", "v", "place"] ["script"] (defScope sLaw) := ⟨rfl, rfl, rfl, by decide +kernel, rfl, by decide +kernel, by decide +kernel⟩
def spLaw (K : PySem.W.Frag) : Sp := fun vs H Q _ => ∃ (a : Addr) (ns : List Int), vs = [.ref a] ∧ SqL K H a (ns.map V.int) ∧ ns.length ≤ 63 ∧ ∀ H', Q (.bl true) H'
section
variable {P : Program} {w : World} {K : PySem.W.Frag} {mg : Str → Option Value} {base : Heap} {CP : Addr}
theorem ok_law {f : Addr} {fd : FuncData} {ka km k0 k1 k2 k3 k4 k5 k6 k7 k8 k9 k10 : Nat} (la : ka ≤ 10) (lm : km ≤ 10) (l0 : k0 ≤ 10) (l1 : k1 ≤ 10) (l2 : k2 ≤ 10) (l3 : k3 ≤ 10) (l4 : k4 ≤ 10) (l5 : k5 ≤ 10) (l6 : k6 ≤ 10) (l7 : k7 ≤ 10) (l8 : k8 ≤ 10) (l9 : k9 ≤ 10) (l10 : k10 ≤ 10) (F : Fun K "law" "law" sLaw f fd) (c_law_draws : Kal P w K mg base 1 "_law_draws" ["script"] (spDraws K)) (c_law_at : Kal P w K mg base ka "_law_at" ["draws", "k", "many"] (spAt K)) (c_law_mix : Kal P w K mg base km "_law_mix" ["draws", "k", "many"] (spAt K))
    (c_law_net : Kal P w K mg base k1 "_law_net" ["draws", "k"] (spNet3 K)) (c_law_sparse : Kal P w K mg base k2 "_law_sparse" ["draws", "k"] (spNet4 K)) (c_law_order : Kal P w K mg base k3 "_law_order" ["draws", "k", "count"] (spOrder3 K)) (c_greedy_order : Kal P w K mg base k4 "greedy_order" ["net"] (spGreedy K)) (c_fill : Kal P w K mg base k5 "fill" ["net", "order"] (spFill K)) (c_labels : Kal P w K mg base k6 "labels" ["order", "rows"] (spLabels K))
    (c_law_sums : Kal P w K mg base k7 "_law_sums" ["net", "start"] (spSums34 K)) (c_answers : KalX P w K mg base k8 "answers" ["order", "rows", "start", "stops"] (spAnswers K CP)) (c_label_answer : Kal P w K mg base k9 "label_answer" ["forward", "backward"] (spLabAns K)) (c_law_needed : Kal P w K mg base k10 "_law_needed" ["forward", "backward", "rank", "sums", "v"] (spNeeded K)) (c_law_is_integer : Kal P w K mg base k0 "_law_is_integer" ["actual"] spIsI)
    (mr : mg "range" = none) (mL : mg "list" = none) (mm : mg "min" = none) (mrepr : mg "repr" = none) : FnG P w K mg base f fd ["script"] (spLaw K) := by
  refine okG (k := 10) F scLaw ⟨rfl, by decide, by decide⟩ (fun vs H Q E h => ?_) (fun cdv s H vs Q E hr h => ?_)
  · obtain ⟨a, ns, rfl, _⟩ := h
    rfl
  · obtain ⟨a, ns, rfl, hS, hlen, q⟩ := h
    have hu := hu_of hr
    refine ⟨_, pss_cons (ps_set (i := 1) scLaw.nd rfl (.inl rfl) (pe_k c_law_draws hr (by first | decide | omega) (by rfl) (pa_cons (pv 0) pa_nil)))
      (pss_cons (ps_set (i := 2) scLaw.nd rfl (.inr rfl) (pe_k c_law_net hr (by first | decide | omega) (by rfl) (pa_cons (pv 1) (pa_cons pe_int pa_nil))))
      (Evl.pss_cut (ps_if (pt_cmpR op_eq (pe_k c_law_at hr (by first | decide | omega) (by rfl) (pa_cons (pv 1) (pa_cons pe_int (pa_cons pe_int pa_nil)))) pe_int (nomark _))
      (pss_one (ps_set (i := 2) scLaw.nd rfl (.inr rfl) (pe_k c_law_sparse hr (by first | decide | omega) (by rfl) (pa_cons (pv 1) (pa_cons pe_int pa_nil)))))
      pss_nil)
      (pss_cons (ps_setLc (i := 3) (own := [("place", 16)]) (g := gName 16) (tt := tYes) (te := (tVar 16)) (by rfl) scLaw.nd rfl rfl (sw_true rfl rfl rfl (by decide +kernel)) (pi_range1 (by rfl) mr (pa_cons (pe_ix ix_tup (pv 2) pe_int (fun _ _ => rfl)) pa_nil)) (blkOk_by (own := [("place", 16)]) (N := ["script", "draws", "net", "places", "order", "rank", "rows", "kept", "forward", "backward", "sums", "start", "handed", "stop", "told", "v", "place"]) (sc := defScope sLaw) (by decide +kernel)) (fun _ _ _ _ _ => pg_name (i := 16) scLaw.nd rfl (Or.inl rfl)) (fun _ _ _ _ _ => by exact pts_nil) (fun _ _ _ _ _ => by exact (pv 16)))
      (pss_cons (ps_set (i := 4) scLaw.nd rfl (.inr rfl) (pe_ix ix_list (pe_lst (pa_cons (pe_k c_law_order hr (by first | decide | omega) (by rfl) (pa_cons (pv 1) (pa_cons pe_int (pa_cons (pe_ix ix_tup (pv 2) pe_int (fun _ _ => rfl)) pa_nil)))) (pa_cons (pe_k c_greedy_order hr (by first | decide | omega) (by rfl) (pa_cons (pv 2) pa_nil)) (pa_cons (pe_callTy call_list_of (by rfl) mL (by decide +kernel) (pa_cons (pv 3) pa_nil)) pa_nil)))) (pe_callB (call_min2 rfl) (by rfl) mm (by decide +kernel) (pa_cons pe_int (pa_cons (pe_op op_fdiv (pe_k c_law_mix hr (by first | decide | omega) (by rfl) (pa_cons (pv 1) (pa_cons pe_int (pa_cons pe_int pa_nil)))) pe_int) pa_nil))) (fun _ _ => rfl)))
      (pss_cons (ps_setLc (i := 5) (own := [("place", 16)]) (g := gName 16) (tt := tYes) (te := (tBM K "list" (rIndex K) (tVar 4) (tCons (tVar 16) tNil))) (by rfl) scLaw.nd rfl rfl (sw_true rfl rfl rfl (by decide +kernel)) (pi_list (pv 3)) (blkOk_by (own := [("place", 16)]) (N := ["script", "draws", "net", "places", "order", "rank", "rows", "kept", "forward", "backward", "sums", "start", "handed", "stop", "told", "v", "place"]) (sc := defScope sLaw) (by decide +kernel)) (fun _ _ _ _ _ => pg_name (i := 16) scLaw.nd rfl (Or.inl rfl)) (fun _ _ _ _ _ => by exact pts_nil) (fun _ _ _ _ _ => by exact (pe_bm PySem.F.plainAttrs_list PySem.F.slot_list_index PySem.F.type_list_index mt_index (pv 4) (pa_cons (pv 16) pa_nil))))
      (pss_cons (ps_set (i := 6) scLaw.nd rfl (.inl rfl) (pe_k c_fill hr (by first | decide | omega) (by rfl) (pa_cons (pv 2) (pa_cons (pv 4) pa_nil))))
      (pss_cons (ps_set (i := 7) scLaw.nd rfl (.inl rfl) (pe_callB (call_reprD rfl hr.units) (by rfl) mrepr (by decide +kernel) (pa_cons (pe_tup (pa_cons (pv 4) (pa_cons (pv 6) pa_nil))) pa_nil)))
      (pss_cons (ps_asg (pe_k c_labels hr (by first | decide | omega) (by rfl) (pa_cons (pv 4) (pa_cons (pv 6) pa_nil))) (pg_tup rfl (pgs_cons (pg_name (i := 8) scLaw.nd rfl (.inl rfl)) (pgs_cons (pg_name (i := 9) scLaw.nd rfl (.inl rfl)) pgs_nil))))
      (pss_cons (ps_setLc (i := 10) (own := [("place", 16)]) (g := gName 16) (tt := tYes) (te := (tCall (spSums34 K) [] E0 (tCons (tVar 2) (tCons (tVar 16) tNil)))) (by rfl) scLaw.nd rfl rfl (sw_true rfl rfl rfl (by decide +kernel)) (pi_list (pv 3)) (blkOk_by (own := [("place", 16)]) (N := ["script", "draws", "net", "places", "order", "rank", "rows", "kept", "forward", "backward", "sums", "start", "handed", "stop", "told", "v", "place"]) (sc := defScope sLaw) (by decide +kernel)) (fun _ _ _ _ _ => pg_name (i := 16) scLaw.nd rfl (Or.inl rfl)) (fun _ _ _ _ _ => by exact pts_nil) (fun _ _ _ _ _ => by exact (pe_k c_law_sums hr (by first | decide | omega) (by rfl) (pa_cons (pv 2) (pa_cons (pv 16) pa_nil)))))
      (pss_cons (ps_for PassesOwn.never rfl (pi_list (pv 3)) (pg_name (i := 11) scLaw.nd rfl (.inl rfl))
      (pss_cons (ps_set (i := 12) scLaw.nd rfl (.inl rfl) (pe_callTy call_list_of (by rfl) mL (by decide +kernel) (pa_cons (pv 3) pa_nil)))
        (pss_cons (ps_if (PW.pt (pw_or (pt_cmpR (op_neD hr.units) (pe_kx (E := fun _ _ _ => False) c_answers hr (by first | decide | omega) (by rfl) takes0 (pa_cons (pv 4) (pa_cons (pv 6) (pa_cons (pv 11) (pa_cons (pv 12) pa_nil))))) (pe_ix ix_list (pv 10) (pv 11) (fun _ _ => rfl)) (nomark _)) (pw_or1 (pt_cmpR (op_neD hr.units) (pv 12) (pv 3) (nomark _)))))
        (pss_one (ps_ret pe_bl))
        pss_nil)
        (pss_one (ps_for PassesOwn.never rfl (pi_list (pv 3)) (pg_name (i := 13) scLaw.nd rfl (.inl rfl))
        (pss_cons (ps_set (i := 14) scLaw.nd rfl (.inl rfl) (pe_k c_label_answer hr (by first | decide | omega) (by rfl) (pa_cons (pe_ix ix_list (pv 8) (pv 11) (fun _ _ => rfl)) (pa_cons (pe_ix ix_list (pv 9) (pv 13) (fun _ _ => rfl)) pa_nil))))
          (pss_one (ps_if (PW.pt (pw_or (pt_cmpR op_ne (pv 14) (pe_ix ix_list (pe_ix ix_list (pv 10) (pv 11) (fun _ _ => rfl)) (pv 13) (fun _ _ => rfl)) (nomark _)) (pw_or1 (PW.pt (pw_and (pt_cmpR op_notN (pv 14) pe_non (nomark _)) (pw_and1 (pt_not (pt_val (pe_k c_law_is_integer hr (by first | decide | omega) (by rfl) (pa_cons (pv 14) pa_nil))))))))))
          (pss_one (ps_ret pe_bl))
          pss_nil))))))))
      (pss_cons (ps_for PassesOwn.never rfl (pi_list (pv 3)) (pg_name (i := 15) scLaw.nd rfl (.inl rfl))
      (pss_one (ps_if (pt_not (pt_val (pe_k c_law_needed hr (by first | decide | omega) (by rfl) (pa_cons (pv 8) (pa_cons (pv 9) (pa_cons (pv 5) (pa_cons (pv 10) (pa_cons (pv 15) pa_nil))))))))
        (pss_one (ps_ret pe_bl))
        pss_nil)))
      (pss_one (ps_ret (pe_cmpR op_eq (pe_callB (call_reprD rfl hr.units) (by rfl) mrepr (by decide +kernel) (pa_cons (pe_tup (pa_cons (pv 4) (pa_cons (pv 6) pa_nil))) pa_nil)) (pv 7) (nomark _))))))))))))))), ?_⟩
    refine q_asgE ⟨.ref a, rfl, a, ns, rfl, hS, hlen, fun H1 d ds s1 nd hd hok => ?_⟩
    have hD1 : SqL K H1 d (ds.map V.int) := .of hd
    refine q_asgE ⟨.ref d, rfl, d, ds, 4, rfl, hD1, by decide, fun H2 v0 N0 s2 hN0 ok0 hn0 => ?_⟩
    refine q_cut (M := fun σ' H' => ∃ v N, σ' = [some (.ref a), some (.ref d), some v, none, none, none, none, none, none, none, none, none, none, none, none, none, none] ∧ Same H2 H' ∧ NetAt K H' v N ∧ NetOk N) ?_ fun σ' H3 hM => ?_
    · refine g_whenB (ab_eq (vi_at (ds := ds) (k := 3) (m := 16) (vl_var rfl) vl_c vl_c (s2.seq hD1) (by decide) (by decide)) vl_c) ?_ ⟨v0, N0, rfl, Same.refl _, hN0, ok0⟩
      exact ⟨.ref d, rfl, d, ds, 4, rfl, s2.seq hD1, by decide, fun H3 v N s3 hN ok => ⟨v, N, rfl, s3, hN, ok⟩⟩
    obtain ⟨v, N, rfl, s3, hN, ok⟩ := hM
    obtain ⟨p, c, xs, rfl, hp, hc, hx⟩ := id hN
    have n1 := ok.n1
    have n40 := ok.n40
    have hD3 := (s2.trans s3).seq hD1
    -- places
    have e0 : (((List.range N.n.toNat).map fun (i : Nat) => (i : Int)).filter fun _ => true) = rng N.n := List.filter_eq_self.mpr fun _ _ => rfl
    refine q_asgN (xs := (rng N.n).map V.int) ?_ fun pl H4 s4 npl epl => ?_
    · rw [← e0]
      exact vn_lcR (va_cons (vl_ixT (K := K) (vl_var rfl) vl_c (.of hp) (atI_nat (j := 0) rfl)) va_nil) (by omega) (by omega) (fun x _ _ H' s' => an_yes) (fun x _ _ H' s' => vl_var rfl)
    have hN4 := hN.to s4
    have hp4 := s4 _ _ hp
    -- order
    refine q_asgP34 (P := fun v H' => Same H4 H' ∧ ∃ po os, v = .ref po ∧ H' po = some (.lst (os.map V.int)) ∧ OrdOk N.n os) (fun Q k => ⟨.ref d, rfl, (vl_ixT (K := K) (vl_var rfl) vl_c (.of hp4) (atI_nat (j := 0) rfl)) _ ⟨d, ds, 400, N.n, rfl, s4.seq hD3, by decide, by omega, by omega, fun H5 po1 os1 s5 npo1 epo1 oo1 => ⟨.ref p, rfl, .ref p, N, rfl, (hN4.to s5).dp, ok, fun H6 po2 s6 npo2 epo2 => ⟨.ref pl, rfl, pl, _, rfl, .inl (.of (s6 _ _ (s5 _ _ epl))), fun po3 npo3 => ⟨by show 3 ≤ sizeLine; decide, fun L nL => ?_⟩⟩⟩⟩⟩) fun ov H5 hP => ?_
    · have s7 : Same H6 (upd H6 po3 (.lst ((rng N.n).map V.int))) := same_upd npo3
      have s8 := same_upd (o := .lst [.ref po1, .ref po2, .ref po3]) nL
      have s48 := ((s5.trans s6).trans s7).trans s8
      show tCB (fun xs H Q => ∃ i j, xs = [V.int i, V.int j] ∧ Q (V.int (if j < i then j else i)) H) _ _ _ _
      refine (vi_at (ds := ds) (k := 1) (m := 6) (vl_var rfl) vl_c vl_c ((s4.trans s48).seq hD3) (by decide) (by decide)) _ fun r hr => ⟨r, 2, rfl, rfl, ⟨by decide, by decide⟩, 2, r / 2, rfl, ?_⟩
      have e1 := s8 _ _ (s7 _ _ (s6 _ _ epo1))
      have e2 := s8 _ _ (s7 _ _ epo2)
      have e3 := s8 _ _ (upd_same (H := H6) (a := po3) (o := .lst ((rng N.n).map V.int)))
      have fin : ∀ (m : Nat) z, ([V.ref po1, .ref po2, .ref po3] : List V)[m]? = some z → ∃ po os, z = .ref po ∧ upd (upd H6 po3 (.lst ((rng N.n).map V.int))) L (.lst [.ref po1, .ref po2, .ref po3]) po = some (.lst (os.map V.int)) ∧ OrdOk N.n os := fun m z hz => by
        match m, hz with
        | 0, hz => cases hz; exact ⟨po1, os1, rfl, e1, oo1⟩
        | 1, hz => cases hz; exact ⟨po2, _, rfl, e2, greedy_ord ok⟩
        | 2, hz => cases hz; exact ⟨po3, _, rfl, e3, rng_ord⟩
        | m + 3, hz => simp at hz
      obtain ⟨m, hm, hm3⟩ : ∃ m : Nat, (if r / 2 < 2 then r / 2 else 2) = (m : Int) ∧ m < 3 := ⟨(if r / 2 < 2 then r / 2 else 2).toNat, by split <;> omega, by split <;> omega⟩
      obtain ⟨z, hz⟩ : ∃ z, ([V.ref po1, .ref po2, .ref po3] : List V)[m]? = some z := ⟨_, List.getElem?_eq_getElem (show m < 3 from hm3)⟩
      refine ⟨L, _, _, z, rfl, rfl, .of upd_same, ?_, k z _ ⟨s48, fin m z hz⟩⟩
      rw [hm]
      exact atI_nat hz
    obtain ⟨s5, po, os, rfl, epo, oo⟩ := hP
    have ol := oo.len
    have hN5 := hN4.to s5
    have epl5 := s5 _ _ epl
    -- rank
    refine q_asgN (vn_ranks (K := K) (by show 16 < 17; decide) (by omega) oo (vl_var rfl) (.of epl5) (fun _ _ _ => vl_var rfl) (.of epo)) fun rk H6 s6 nrk erk => ?_
    have hN6 := hN5.to s6
    -- rows
    refine q_asgE ⟨.ref p, rfl, .ref po, rfl, .ref p, N, po, os, rfl, hN6.dp, ok, .of (s6 _ _ epo), oo, fun H7 pr rs rows s7 npr hpr hrs hF => ?_⟩
    have hN7 := hN6.to s7
    have epo7 := s7 _ _ (s6 _ _ epo)
    have epl7 := s7 _ _ (s6 _ _ epl5)
    have erk7 := s7 _ _ erk
    have hR7 : Dp K H7 (.ref pr) (.list (rows.map rowD)) := .lst (.of hpr) hrs
    have shi := showOk_ints (ns := os) (fun x hx => by
      have := oo.mem.mp hx
      omega) (by omega)
    have shr := showOk_rows40 ok oo hF
    have sh := showOk_pair (a := .list (os.map PyData.int)) ⟨shi.sh, shi.nd, shi.dep, Nat.le_trans shi.len (by decide)⟩ (b := .list (rows.map rowD)) shr
    have pairDp : ∀ T H', Same H7 H' → H' T = some (.tup [.ref po, .ref pr]) → Dp K H' (.ref T) (.tuple [.list (os.map PyData.int), .list (rows.map rowD)]) := fun T H' s' e => .tup (.of e) (.cons (Dp.ints (.of (s' _ _ epo7))) (.cons (Dp.to hR7 s') .nil))
    -- kept
    refine q_asgV (ve_repr (va_cons (vl_var rfl) (va_cons (vl_var rfl) va_nil)) (by show 2 ≤ sizeLine; decide) pairDp sh.1 sh.2.1 sh.2.2.1 (Nat.le_trans sh.2.2.2 (by decide))) fun H8 s78 => ?_
    -- labels
    refine ⟨.ref po, rfl, .ref pr, rfl, po, .ref pr, N, os, rows, rfl, .of (s78 _ _ epo7), Dp.to hR7 s78, ok, oo, hF, fun H9 tt q1 q2 s9 ntt ett La1 La2 => ⟨tt, _, rfl, .of ett, rfl, _, _, rfl, _, _, rfl, rfl, ?_⟩⟩
    have s79 := s78.trans s9
    -- sums
    refine q_asgE (lc_sums34 (K := K) (N := N) (v := .ref p) (by show 16 < 17; decide) (vl_var rfl) (.of (s79 _ _ epl7)) (fun _ _ _ => vl_var rfl) (Dp.to hN7.dp s79) ok fun D H10 s10 nD hD => ?_)
    have s710 := s79.trans s10
    have hA := (La1.to s10).rd
    have hB := (La2.to s10).rd
    have hin := hF.rowsIn ok oo
    have lf := labOk_fwd ok oo hF
    generalize hkept : (PyData.tuple [.list (os.map PyData.int), .list (rows.map rowD)]).shown = kept
    refine q_forL (K := K) (j := 11) (a := pl) (xs := (rng N.n).map V.int) (vl_var rfl) (.of (s710 _ _ epl7))
      (fun i σ H11 => ∃ y11 y12 y13 y14, σ = [some (.ref a), some (.ref d), some (.ref p), some (.ref pl), some (.ref po), some (.ref rk), some (.ref pr), some (.str kept), some (.ref q1), some (.ref q2), some (.ref D), y11, y12, y13, y14, none, none] ∧ Same H10 H11)
      ⟨_, _, _, _, rfl, Same.refl _⟩ (fun i σ H11 hP => ?_) (fun i z σ H11 hi hP => ?_) (fun σ H11 hP => ?_)
    · obtain ⟨_, _, _, _, _, s11⟩ := hP
      exact .of ((s710.trans s11) _ _ epl7)
    · obtain ⟨y11, y12, y13, y14, rfl, s11⟩ := hP
      have s711 := s710.trans s11
      have il := (List.getElem?_eq_some_iff.mp hi).1
      rw [List.length_map, len_rng] at il
      rw [List.getElem?_map, rngG il] at hi
      cases hi
      have iN : 0 ≤ (i : Int) ∧ (i : Int) < N.n := ⟨by omega, by omega⟩
      refine q_asgN (vn_listOf (K := K) (vl_var rfl) (.of (s711 _ _ epl7))) fun hd' H12 s12 nhd ehd => ?_
      have s712 := s711.trans s12
      have s1012 := s11.trans s12
      have same : ansF (i : Int) rows = dstN N (i : Int) := funext fun z => ans_dst ok oo hF iN z
      refine q_whenx (b := false) (ax_or (k := false) (m := false) (ax_ne (shaped_oDs (dstN N (i : Int)) (rng N.n)) (fun Q k => ?_) (fun H13 s13 Q k => ?_)) fun _ H13 s13 => ax_ne (shaped_ints (rng N.n)) (fun Q k => (vl_var rfl) _ (k _ _ (Same.refl _) (Dp.ints (.of (s13 _ _ ehd))))) (fun H14 s14 Q k => (vl_var rfl) _ (k _ _ (Same.refl _) (Dp.ints (.of (((s712.trans s13).trans s14) _ _ epl7)))))) (fun e => nomatch e) (fun _ H13 s13 => ?_)
      · refine ⟨.ref po, rfl, .ref pr, rfl, .int (i : Int), rfl, .ref hd', rfl, po, hd', .ref pr, (i : Int), N.n, os, rng N.n, rows, rfl, .of (s712 _ _ epo7), by omega, by omega, Dp.to hR7 s712, hin, .of ehd, by rw [len_rng]; omega, fun h => absurd iN h, fun _ x hx => ?_, fun _ _ H13 q13 s13 nq eq => k _ H13 s13 ?_⟩
        · rw [badPl_rng] at hx
          cases hx
        · refine .lst (.of eq) ?_
          rw [same]
          exact DpAll.oDs _ _
      · obtain ⟨sv, vsv, esv⟩ := vl_sums1 (K := K) (H := H13) (σ := [some (.ref a), some (.ref d), some (.ref p), some (.ref pl), some (.ref po), some (.ref rk), some (.ref pr), some (.str kept), some (.ref q1), some (.ref q2), some (.ref D), some (.int (i : Int)), some (.ref hd'), y13, y14, none, none]) (t0 := tVar 10) (t1 := tVar 11) (vl_var rfl) (vl_var rfl) (hD.to (s1012.trans s13)) iN
        exact vsv _ (k _ _ (Same.refl _) (.lst (.of esv) (DpAll.oDs _ _)))
      have s713 := s712.trans s13
      have s1013 := s1012.trans s13
      refine g_forL (K := K) (j := 13) (a := pl) (xs := (rng N.n).map V.int) (vl_var rfl) (.of (s713 _ _ epl7))
        (fun j σ H14 => ∃ y13 y14, σ = [some (.ref a), some (.ref d), some (.ref p), some (.ref pl), some (.ref po), some (.ref rk), some (.ref pr), some (.str kept), some (.ref q1), some (.ref q2), some (.ref D), some (.int (i : Int)), some (.ref hd'), y13, y14, none, none] ∧ Same H10 H14)
        ⟨_, _, rfl, s1013⟩ (fun j σ H14 hP => ?_) (fun j z σ H14 hj hP => ?_) (fun σ H14 hP => ?_)
      · obtain ⟨_, _, _, s14⟩ := hP
        exact .of ((s710.trans s14) _ _ epl7)
      · obtain ⟨y13, y14, rfl, s14⟩ := hP
        have jl := (List.getElem?_eq_some_iff.mp hj).1
        rw [List.length_map, len_rng] at jl
        rw [List.getElem?_map, rngG jl] at hj
        cases hj
        have jN : 0 ≤ (j : Int) ∧ (j : Int) < N.n := ⟨by omega, by omega⟩
        obtain ⟨b1, xs1, eb1, hT1, vb1⟩ := vl_labR (K := K) (hA.to s14) iN
        obtain ⟨b2, xs2, eb2, hT2, vb2⟩ := vl_labR (K := K) (hB.to s14) jN
        have ll1 := labF_len (D := dstN N) (n := N.n) (os := os) (v := (i : Int))
        have ll2 := labF_len (D := fun x y => dstN N y x) (n := N.n) (os := os) (v := (j : Int))
        refine q_asgE ((vb1 _ _ _ _ (Same.refl _) (vl_var rfl) (vl_var rfl)) _ ((vb2 _ _ _ _ (Same.refl _) (vl_var rfl) (vl_var rfl)) _ ⟨.ref b1, .ref b2, _, _, rfl, .lst (.of eb1) hT1.dp, .lst (.of eb2) hT2.dp, by omega, by omega, labF_nodup, fun H15 s15 => ?_⟩))
        rw [lab_ans lf iN jN]
        have s1015 := s14.trans s15
        have v2 := vl_sums2 (K := K) (H := H15) (σ := [some (.ref a), some (.ref d), some (.ref p), some (.ref pl), some (.ref po), some (.ref rk), some (.ref pr), some (.str kept), some (.ref q1), some (.ref q2), some (.ref D), some (.int (i : Int)), some (.ref hd'), some (.int (j : Int)), some (oV (dstN N (i : Int) (j : Int))), none, none]) (t0 := tVar 10) (t1 := tVar 11) (t2 := tVar 13) (vl_var rfl) (vl_var rfl) (vl_var rfl) (hD.to s1015) iN jN
        cases e : dstN N (i : Int) (j : Int) with
        | none =>
          rw [e] at v2
          exact g_when (b := false) ((an_or (k := false) (m := false) (An.is (an_test (vl_ne (vl_var rfl) v2 rfl)) rfl) fun _ => (an_and (k := false) (m := false) (an_test ((vl_notN (vl_var rfl)).is rfl)) fun h => nomatch h).is rfl).is rfl) (fun h => nomatch h) (fun _ => ⟨_, _, rfl, s1015⟩)
        | some c0 =>
          rw [e] at v2
          exact g_when (b := false) ((an_or (k := false) (m := false) (An.is (an_test (vl_ne (vl_var rfl) v2 rfl)) (by rw [decide_eq_true rfl]; rfl)) fun _ => (an_and (k := true) (m := false) (an_test ((vl_notN (vl_var rfl)).is rfl)) fun _ => An.is (an_not (b := true) (an_B (vl_isI34 (x := c0) (vl_var rfl)))) rfl).is rfl).is rfl) (fun h => nomatch h) (fun _ => ⟨_, _, rfl, s1015⟩)
      · obtain ⟨y13, y14, rfl, s14⟩ := hP
        exact ⟨_, _, _, _, rfl, s14⟩
    · obtain ⟨y11, y12, y13, y14, rfl, s11⟩ := hP
      refine q_forL (K := K) (j := 15) (a := pl) (xs := (rng N.n).map V.int) (vl_var rfl) (.of ((s710.trans s11) _ _ epl7))
        (fun i σ H12 => ∃ y15, σ = [some (.ref a), some (.ref d), some (.ref p), some (.ref pl), some (.ref po), some (.ref rk), some (.ref pr), some (.str kept), some (.ref q1), some (.ref q2), some (.ref D), y11, y12, y13, y14, y15, none] ∧ Same H10 H12)
        ⟨_, rfl, s11⟩ (fun i σ H12 hP => ?_) (fun i z σ H12 hi hP => ?_) (fun σ H12 hP => ?_)
      · obtain ⟨_, _, s12⟩ := hP
        exact .of ((s710.trans s12) _ _ epl7)
      · obtain ⟨y15, rfl, s12⟩ := hP
        have il := (List.getElem?_eq_some_iff.mp hi).1
        rw [List.length_map, len_rng] at il
        rw [List.getElem?_map, rngG il] at hi
        cases hi
        have iN : 0 ≤ (i : Int) ∧ (i : Int) < N.n := ⟨by omega, by omega⟩
        have s712 := s710.trans s12
        refine g_whenx (b := false) (ax_not (b := true) (ax_B34 fun Q k => ⟨.ref q1, rfl, .ref q2, rfl, .ref rk, rfl, .ref D, rfl, .int (i : Int), rfl, q1, q2, rk, D, (i : Int), N, os, rows, rfl, ok, oo, hF, hA.to s12, hB.to s12, .of (s712 _ _ erk7), hD.to s12, iN, fun H' s' => k H' s'⟩)) (fun h => nomatch h) (fun _ H13 s13 => ⟨_, rfl, s12.trans s13⟩)
      · obtain ⟨y15, rfl, s12⟩ := hP
        have s712 := s710.trans s12
        refine (ve_repr (va_cons (vl_var rfl) (va_cons (vl_var rfl) va_nil)) (by show 2 ≤ sizeLine; decide) (fun T H' s' e => pairDp T H' (s712.trans s') e) sh.1 sh.2.1 sh.2.2.1 (Nat.le_trans sh.2.2.2 (by decide))) _ fun H13 s13 => ⟨.str kept, rfl, rfl, ?_⟩
        rw [hkept, decide_eq_true rfl]
        exact q _
end
/-! ### what the top has written; the law's own head -/
theorem df_mk {K : PySem.W.Frag} {h : Heap} {mg : Str → Option Value} {x : Str} {st : Stmt} {ps : List Str} {f : Addr} {oc : Value} {od an : Option Addr} {osl : Array (Option Value)} {kV doc pm cdv ct : Value} (X : K.In h) (G : h.Ns mainGlobals mg)
    (a : PySem.W.nsIn K mainGlobals x = some (some (.ref f))) (l : K.lookup f = some ⟨oc, od, .func (PySem.W.fnOf x x (defArgs st) (defBody st) (defScope st) .none kV doc pm an cdv ct), osl⟩) (c : PySem.W.codeIn K cdv x = true) (k : PySem.W.keepIn K (.ref f) = true)
    (hb : ∀ (kV doc pm : Value) (an : Option Addr) (cdv ct : Value) (us : List Value), us.length = ps.length → bindArgs (PySem.W.fnOf x x (defArgs st) (defBody st) (defScope st) .none kV doc pm an cdv ct) ⟨us, []⟩ = pure (ps.zip us)) : Df K mg x st ps :=
  ⟨f, _, fun_mk l c k, PySem.W.mg_of X G a, (fun_mk l c k).binds hb⟩
theorem exm_two {K : PySem.W.Frag} {S : Addr} {c : Value} {b : Bool} (h1 : PySem.W.subIn K (.ref S) (.type "BaseException") = some true) (h2 : PySem.W.isClsIn K S = true) (h3 : PySem.W.typeIn K (.ref S) = some (.type "type")) (h4 : PySem.W.subIn K c (.ref S) = some b) : PySem.W.exmOne K c (.ref S) = some b := by
  have e1 : (PySem.W.subIn K (.ref S) (.type "BaseException") == some true) = true := by rw [h1] <;> rfl
  have e2 : ((PySem.W.clsIn K S).isSome && PySem.W.typeIn K (.ref S) == some (.type "type")) = true := by
    have h2' : (PySem.W.clsIn K S).isSome = true := h2
    rw [h2', h3] <;> rfl
  show (if (PySem.W.subIn K (.ref S) (.type "BaseException") == some true) = true then (if ((PySem.W.clsIn K S).isSome && PySem.W.typeIn K (.ref S) == some (.type "type")) = true then PySem.W.subIn K c (.ref S) else none) else none) = some b
  rw [if_pos e1, if_pos e2]
  exact h4
/-- what is asked of an error's class -/
structure ErrAt (K : PySem.W.Frag) (x : Str) (C CO fI : Addr) : Prop where
  a : PySem.W.nsIn K mainGlobals x = some (some (.ref C))
  xL : ∃ nm q N bs sn sub ab col dd m0 m1 m2 m3 m5, K.lookup C = some (excClassObj nm q C N bs [.ref CO, .type "ValueError", .type "Exception", .type "BaseException", .type "object"] true sn sub ab col dd m0 m1 m2 m3 m5 "ValueError.__new__")
  sa : PySem.W.findIn K (.ref C) "__setattr__" = some (some (.builtin "object.__setattr__"))
  ga : PySem.W.findIn K (.ref C) "__getattribute__" = some (some (.builtin "BaseException.__getattribute__"))
  gg : PySem.W.findIn K (.ref C) "__getattr__" = some none
  nb : PySem.W.findIn K (.ref C) "at" = some none
  ii : PySem.W.findIn K (.ref C) "__init__" = some (some (.ref fI))
  kC : PySem.W.keepIn K (.ref C) = true
  eC : PySem.W.subIn K (.ref C) (.type "BaseException") = some true
  tC : PySem.W.typeIn K (.ref C) = some (.type "type")
  hC : PySem.W.hasDictIn K C = true
  iC : PySem.W.isClsIn K C = true
  sC : PySem.W.subIn K (.ref C) (.ref C) = some true
structure InitAt (K : PySem.W.Frag) (fI : Addr) : Prop where
  t : PySem.W.typeIn K (.ref fI) = some (.type "function")
  l : ∃ oc od dc pm an cd ct sl, K.lookup fI = some ⟨oc, od, .func (PySem.W.fnOf "__init__" "OverpassesError.__init__" (PySem.LowX.iA ⟨5, 17, 5, 21⟩ ⟨5, 23, 5, 25⟩) (PySem.LowX.iB ⟨6, 8, 6, 12⟩ ⟨6, 8, 6, 15⟩ ⟨6, 18, 6, 20⟩ ⟨6, 8, 6, 20⟩) PySem.LowX.iS .none .none dc pm an cd ct), sl⟩ ∧ PySem.W.codeIn K cd "OverpassesError.__init__" = true
theorem low_mk {K : PySem.W.Frag} {h : Heap} {mg : Str → Option Value} {x : Str} {C CO fI : Addr} (X : K.In h) (G : h.Ns mainGlobals mg) (E : ErrAt K x C CO fI) (I : InitAt K fI) : PySem.LowX.LowTxt K mg x C fI := by
  obtain ⟨nm, q, N, bs, sn, sub, ab, col, dd, m0, m1, m2, m3, m5, xL⟩ := E.xL
  obtain ⟨oc, od, dc, pm, an, cd, ct, sl, l1, c1⟩ := I.l
  exact { gC := PySem.W.mg_of X G E.a, cls := ⟨nm, q, N, bs, _, sn, sub, ab, col, dd, m0, m1, m2, m3, m5, xL, rfl⟩, sa := E.sa, ga := E.ga, gg := E.gg, noN := E.nb, iC := E.ii, tC := I.t, kC := E.kC, exC := E.eC, tyC := E.tC, hdC := E.hC, te := exm_two E.eC E.iC E.tC E.sC, fn := ⟨_, _, _, _, _, _, _, _, _, _, _, _, _, _, l1, c1⟩ }
theorem all_mk {l : PySem.W.OpenLaw} {w : World} {K : PySem.W.Frag} {h : Heap} {mg : Str → Option Value} {fa f0 f1 f2 f3 f4 f5 f6 f7 f8 f9 f10 f11 f12 f13 f14 f15 f16 f17 f18 f19 f20 f21 f22 f23 f24 f25 f26 f27 f28 f29 : Addr} (X : K.In h) (G : h.Ns mainGlobals mg) (hfa : mg "law" = some (.ref fa))
    {od0 an0 od1 an1 od2 an2 od3 an3 od4 an4 od5 an5 od6 an6 od7 an7 od8 an8 od9 an9 od10 an10 od11 an11 od12 an12 od13 an13 od14 an14 od15 an15 od16 an16 od17 an17 od18 an18 od19 an19 od20 an20 od21 an21 od22 an22 od23 an23 od24 an24 od25 an25 od26 an26 od27 an27 od28 an28 od29 an29 : Option Addr} {sl0 sl1 sl2 sl3 sl4 sl5 sl6 sl7 sl8 sl9 sl10 sl11 sl12 sl13 sl14 sl15 sl16 sl17 sl18 sl19 sl20 sl21 sl22 sl23 sl24 sl25 sl26 sl27 sl28 sl29 : Array (Option Value)} {oc0 kV0 dc0 pm0 cd0 ct0 oc1 kV1 dc1 pm1 cd1 ct1 oc2 kV2 dc2 pm2 cd2 ct2 oc3 kV3 dc3 pm3 cd3 ct3 oc4 kV4 dc4 pm4 cd4 ct4 oc5 kV5 dc5 pm5 cd5 ct5 oc6 kV6 dc6 pm6 cd6 ct6 oc7 kV7 dc7 pm7 cd7 ct7 oc8 kV8 dc8 pm8 cd8 ct8 oc9 kV9 dc9 pm9 cd9 ct9 oc10 kV10 dc10 pm10 cd10 ct10 oc11 kV11 dc11 pm11 cd11 ct11 oc12 kV12 dc12 pm12 cd12 ct12 oc13 kV13 dc13 pm13 cd13 ct13 oc14 kV14 dc14 pm14 cd14 ct14 oc15 kV15 dc15 pm15 cd15 ct15 oc16 kV16 dc16 pm16 cd16 ct16 oc17 kV17 dc17 pm17 cd17 ct17 oc18 kV18 dc18 pm18 cd18 ct18 oc19 kV19 dc19 pm19 cd19 ct19 oc20 kV20 dc20 pm20 cd20 ct20 oc21 kV21 dc21 pm21 cd21 ct21 oc22 kV22 dc22 pm22 cd22 ct22 oc23 kV23 dc23 pm23 cd23 ct23 oc24 kV24 dc24 pm24 cd24 ct24 oc25 kV25 dc25 pm25 cd25 ct25 oc26 kV26 dc26 pm26 cd26 ct26 oc27 kV27 dc27 pm27 cd27 ct27 oc28 kV28 dc28 pm28 cd28 ct28 oc29 kV29 dc29 pm29 cd29 ct29 : Value}
    (a0 : PySem.W.nsIn K mainGlobals "neighbours" = some (some (.ref f0))) (l0 : K.lookup f0 = some ⟨oc0, od0, .func (PySem.W.fnOf "neighbours" "neighbours" (defArgs sNear) (defBody sNear) (defScope sNear) .none kV0 dc0 pm0 an0 cd0 ct0), sl0⟩) (c0 : PySem.W.codeIn K cd0 "neighbours" = true) (k0 : PySem.W.keepIn K (.ref f0) = true)
    (a1 : PySem.W.nsIn K mainGlobals "check_places" = some (some (.ref f1))) (l1 : K.lookup f1 = some ⟨oc1, od1, .func (PySem.W.fnOf "check_places" "check_places" (defArgs sChkPl) (defBody sChkPl) (defScope sChkPl) .none kV1 dc1 pm1 an1 cd1 ct1), sl1⟩) (c1 : PySem.W.codeIn K cd1 "check_places" = true) (k1 : PySem.W.keepIn K (.ref f1) = true)
    (a2 : PySem.W.nsIn K mainGlobals "up_sums" = some (some (.ref f2))) (l2 : K.lookup f2 = some ⟨oc2, od2, .func (PySem.W.fnOf "up_sums" "up_sums" (defArgs sUpSums) (defBody sUpSums) (defScope sUpSums) .none kV2 dc2 pm2 an2 cd2 ct2), sl2⟩) (c2 : PySem.W.codeIn K cd2 "up_sums" = true) (k2 : PySem.W.keepIn K (.ref f2) = true)
    (a3 : PySem.W.nsIn K mainGlobals "_sums" = some (some (.ref f3))) (l3 : K.lookup f3 = some ⟨oc3, od3, .func (PySem.W.fnOf "_sums" "_sums" (defArgs sSumsP) (defBody sSumsP) (defScope sSumsP) .none kV3 dc3 pm3 an3 cd3 ct3), sl3⟩) (c3 : PySem.W.codeIn K cd3 "_sums" = true) (k3 : PySem.W.keepIn K (.ref f3) = true)
    (a4 : PySem.W.nsIn K mainGlobals "down_sums" = some (some (.ref f4))) (l4 : K.lookup f4 = some ⟨oc4, od4, .func (PySem.W.fnOf "down_sums" "down_sums" (defArgs sDownSums) (defBody sDownSums) (defScope sDownSums) .none kV4 dc4 pm4 an4 cd4 ct4), sl4⟩) (c4 : PySem.W.codeIn K cd4 "down_sums" = true) (k4 : PySem.W.keepIn K (.ref f4) = true)
    (a5 : PySem.W.nsIn K mainGlobals "answers" = some (some (.ref f5))) (l5 : K.lookup f5 = some ⟨oc5, od5, .func (PySem.W.fnOf "answers" "answers" (defArgs sAnswers) (defBody sAnswers) (defScope sAnswers) .none kV5 dc5 pm5 an5 cd5 ct5), sl5⟩) (c5 : PySem.W.codeIn K cd5 "answers" = true) (k5 : PySem.W.keepIn K (.ref f5) = true)
    (a6 : PySem.W.nsIn K mainGlobals "labels" = some (some (.ref f6))) (l6 : K.lookup f6 = some ⟨oc6, od6, .func (PySem.W.fnOf "labels" "labels" (defArgs sLabels) (defBody sLabels) (defScope sLabels) .none kV6 dc6 pm6 an6 cd6 ct6), sl6⟩) (c6 : PySem.W.codeIn K cd6 "labels" = true) (k6 : PySem.W.keepIn K (.ref f6) = true)
    (a7 : PySem.W.nsIn K mainGlobals "label_answer" = some (some (.ref f7))) (l7 : K.lookup f7 = some ⟨oc7, od7, .func (PySem.W.fnOf "label_answer" "label_answer" (defArgs sLabAns) (defBody sLabAns) (defScope sLabAns) .none kV7 dc7 pm7 an7 cd7 ct7), sl7⟩) (c7 : PySem.W.codeIn K cd7 "label_answer" = true) (k7 : PySem.W.keepIn K (.ref f7) = true)
    (a8 : PySem.W.nsIn K mainGlobals "_label" = some (some (.ref f8))) (l8 : K.lookup f8 = some ⟨oc8, od8, .func (PySem.W.fnOf "_label" "_label" (defArgs sLabelP) (defBody sLabelP) (defScope sLabelP) .none kV8 dc8 pm8 an8 cd8 ct8), sl8⟩) (c8 : PySem.W.codeIn K cd8 "_label" = true) (k8 : PySem.W.keepIn K (.ref f8) = true)
    (a9 : PySem.W.nsIn K mainGlobals "greedy_order" = some (some (.ref f9))) (l9 : K.lookup f9 = some ⟨oc9, od9, .func (PySem.W.fnOf "greedy_order" "greedy_order" (defArgs sGreedy) (defBody sGreedy) (defScope sGreedy) .none kV9 dc9 pm9 an9 cd9 ct9), sl9⟩) (c9 : PySem.W.codeIn K cd9 "greedy_order" = true) (k9 : PySem.W.keepIn K (.ref f9) = true)
    (a10 : PySem.W.nsIn K mainGlobals "_joined" = some (some (.ref f10))) (l10 : K.lookup f10 = some ⟨oc10, od10, .func (PySem.W.fnOf "_joined" "_joined" (defArgs sJoinedG) (defBody sJoinedG) (defScope sJoinedG) .none kV10 dc10 pm10 an10 cd10 ct10), sl10⟩) (c10 : PySem.W.codeIn K cd10 "_joined" = true) (k10 : PySem.W.keepIn K (.ref f10) = true)
    (a11 : PySem.W.nsIn K mainGlobals "link_ways" = some (some (.ref f11))) (l11 : K.lookup f11 = some ⟨oc11, od11, .func (PySem.W.fnOf "link_ways" "link_ways" (defArgs sLinkWays) (defBody sLinkWays) (defScope sLinkWays) .none kV11 dc11 pm11 an11 cd11 ct11), sl11⟩) (c11 : PySem.W.codeIn K cd11 "link_ways" = true) (k11 : PySem.W.keepIn K (.ref f11) = true)
    (a12 : PySem.W.nsIn K mainGlobals "ranks" = some (some (.ref f12))) (l12 : K.lookup f12 = some ⟨oc12, od12, .func (PySem.W.fnOf "ranks" "ranks" (defArgs sRanks) (defBody sRanks) (defScope sRanks) .none kV12 dc12 pm12 an12 cd12 ct12), sl12⟩) (c12 : PySem.W.codeIn K cd12 "ranks" = true) (k12 : PySem.W.keepIn K (.ref f12) = true)
    (a13 : PySem.W.nsIn K mainGlobals "pairs" = some (some (.ref f13))) (l13 : K.lookup f13 = some ⟨oc13, od13, .func (PySem.W.fnOf "pairs" "pairs" (defArgs sPairs) (defBody sPairs) (defScope sPairs) .none kV13 dc13 pm13 an13 cd13 ct13), sl13⟩) (c13 : PySem.W.codeIn K cd13 "pairs" = true) (k13 : PySem.W.keepIn K (.ref f13) = true)
    (a14 : PySem.W.nsIn K mainGlobals "upper" = some (some (.ref f14))) (l14 : K.lookup f14 = some ⟨oc14, od14, .func (PySem.W.fnOf "upper" "upper" (defArgs sUpper) (defBody sUpper) (defScope sUpper) .none kV14 dc14 pm14 an14 cd14 ct14), sl14⟩) (c14 : PySem.W.codeIn K cd14 "upper" = true) (k14 : PySem.W.keepIn K (.ref f14) = true)
    (a15 : PySem.W.nsIn K mainGlobals "fill" = some (some (.ref f15))) (l15 : K.lookup f15 = some ⟨oc15, od15, .func (PySem.W.fnOf "fill" "fill" (defArgs sFill) (defBody sFill) (defScope sFill) .none kV15 dc15 pm15 an15 cd15 ct15), sl15⟩) (c15 : PySem.W.codeIn K cd15 "fill" = true) (k15 : PySem.W.keepIn K (.ref f15) = true)
    (a16 : PySem.W.nsIn K mainGlobals "fill_way" = some (some (.ref f16))) (l16 : K.lookup f16 = some ⟨oc16, od16, .func (PySem.W.fnOf "fill_way" "fill_way" (defArgs sWayF) (defBody sWayF) (defScope sWayF) .none kV16 dc16 pm16 an16 cd16 ct16), sl16⟩) (c16 : PySem.W.codeIn K cd16 "fill_way" = true) (k16 : PySem.W.keepIn K (.ref f16) = true)
    (a17 : PySem.W.nsIn K mainGlobals "_lower_by_pair" = some (some (.ref f17))) (l17 : K.lookup f17 = some ⟨oc17, od17, .func (PySem.W.fnOf "_lower_by_pair" "_lower_by_pair" (defArgs sLowBy) (defBody sLowBy) (defScope sLowBy) .none kV17 dc17 pm17 an17 cd17 ct17), sl17⟩) (c17 : PySem.W.codeIn K cd17 "_lower_by_pair" = true) (k17 : PySem.W.keepIn K (.ref f17) = true)
    (a18 : PySem.W.nsIn K mainGlobals "_row" = some (some (.ref f18))) (l18 : K.lookup f18 = some ⟨oc18, od18, .func (PySem.W.fnOf "_row" "_row" (defArgs sRowF) (defBody sRowF) (defScope sRowF) .none kV18 dc18 pm18 an18 cd18 ct18), sl18⟩) (c18 : PySem.W.codeIn K cd18 "_row" = true) (k18 : PySem.W.keepIn K (.ref f18) = true)
    (a19 : PySem.W.nsIn K mainGlobals "_law_draws" = some (some (.ref f19))) (l19 : K.lookup f19 = some ⟨oc19, od19, .func (PySem.W.fnOf "_law_draws" "_law_draws" (defArgs sDraws) (defBody sDraws) (defScope sDraws) .none kV19 dc19 pm19 an19 cd19 ct19), sl19⟩) (c19 : PySem.W.codeIn K cd19 "_law_draws" = true) (k19 : PySem.W.keepIn K (.ref f19) = true)
    (a20 : PySem.W.nsIn K mainGlobals "_law_mix" = some (some (.ref f20))) (l20 : K.lookup f20 = some ⟨oc20, od20, .func (PySem.W.fnOf "_law_mix" "_law_mix" (defArgs sMix) (defBody sMix) (defScope sMix) .none kV20 dc20 pm20 an20 cd20 ct20), sl20⟩) (c20 : PySem.W.codeIn K cd20 "_law_mix" = true) (k20 : PySem.W.keepIn K (.ref f20) = true)
    (a21 : PySem.W.nsIn K mainGlobals "_law_net" = some (some (.ref f21))) (l21 : K.lookup f21 = some ⟨oc21, od21, .func (PySem.W.fnOf "_law_net" "_law_net" (defArgs sNet3) (defBody sNet3) (defScope sNet3) .none kV21 dc21 pm21 an21 cd21 ct21), sl21⟩) (c21 : PySem.W.codeIn K cd21 "_law_net" = true) (k21 : PySem.W.keepIn K (.ref f21) = true)
    (a22 : PySem.W.nsIn K mainGlobals "_law_order" = some (some (.ref f22))) (l22 : K.lookup f22 = some ⟨oc22, od22, .func (PySem.W.fnOf "_law_order" "_law_order" (defArgs sOrder3) (defBody sOrder3) (defScope sOrder3) .none kV22 dc22 pm22 an22 cd22 ct22), sl22⟩) (c22 : PySem.W.codeIn K cd22 "_law_order" = true) (k22 : PySem.W.keepIn K (.ref f22) = true)
    (a23 : PySem.W.nsIn K mainGlobals "_law_at" = some (some (.ref f23))) (l23 : K.lookup f23 = some ⟨oc23, od23, .func (PySem.W.fnOf "_law_at" "_law_at" (defArgs sAt) (defBody sAt) (defScope sAt) .none kV23 dc23 pm23 an23 cd23 ct23), sl23⟩) (c23 : PySem.W.codeIn K cd23 "_law_at" = true) (k23 : PySem.W.keepIn K (.ref f23) = true)
    (a24 : PySem.W.nsIn K mainGlobals "_law_is_integer" = some (some (.ref f24))) (l24 : K.lookup f24 = some ⟨oc24, od24, .func (PySem.W.fnOf "_law_is_integer" "_law_is_integer" (defArgs sIsI) (defBody sIsI) (defScope sIsI) .none kV24 dc24 pm24 an24 cd24 ct24), sl24⟩) (c24 : PySem.W.codeIn K cd24 "_law_is_integer" = true) (k24 : PySem.W.keepIn K (.ref f24) = true)
    (a25 : PySem.W.nsIn K mainGlobals "_law_sparse" = some (some (.ref f25))) (l25 : K.lookup f25 = some ⟨oc25, od25, .func (PySem.W.fnOf "_law_sparse" "_law_sparse" (defArgs sSparse) (defBody sSparse) (defScope sSparse) .none kV25 dc25 pm25 an25 cd25 ct25), sl25⟩) (c25 : PySem.W.codeIn K cd25 "_law_sparse" = true) (k25 : PySem.W.keepIn K (.ref f25) = true)
    (a26 : PySem.W.nsIn K mainGlobals "_law_sums" = some (some (.ref f26))) (l26 : K.lookup f26 = some ⟨oc26, od26, .func (PySem.W.fnOf "_law_sums" "_law_sums" (defArgs sSums34) (defBody sSums34) (defScope sSums34) .none kV26 dc26 pm26 an26 cd26 ct26), sl26⟩) (c26 : PySem.W.codeIn K cd26 "_law_sums" = true) (k26 : PySem.W.keepIn K (.ref f26) = true)
    (a27 : PySem.W.nsIn K mainGlobals "_law_entry_right" = some (some (.ref f27))) (l27 : K.lookup f27 = some ⟨oc27, od27, .func (PySem.W.fnOf "_law_entry_right" "_law_entry_right" (defArgs sEntryR) (defBody sEntryR) (defScope sEntryR) .none kV27 dc27 pm27 an27 cd27 ct27), sl27⟩) (c27 : PySem.W.codeIn K cd27 "_law_entry_right" = true) (k27 : PySem.W.keepIn K (.ref f27) = true)
    (a28 : PySem.W.nsIn K mainGlobals "_law_needed" = some (some (.ref f28))) (l28 : K.lookup f28 = some ⟨oc28, od28, .func (PySem.W.fnOf "_law_needed" "_law_needed" (defArgs sNeeded) (defBody sNeeded) (defScope sNeeded) .none kV28 dc28 pm28 an28 cd28 ct28), sl28⟩) (c28 : PySem.W.codeIn K cd28 "_law_needed" = true) (k28 : PySem.W.keepIn K (.ref f28) = true)
    (a29 : PySem.W.nsIn K mainGlobals "law" = some (some (.ref f29))) (l29 : K.lookup f29 = some ⟨oc29, od29, .func (PySem.W.fnOf "law" "law" (defArgs sLaw) (defBody sLaw) (defScope sLaw) .none kV29 dc29 pm29 an29 cd29 ct29), sl29⟩) (c29 : PySem.W.codeIn K cd29 "law" = true) (k29 : PySem.W.keepIn K (.ref f29) = true)
    {CO fI : Addr} {C0 C1 : Addr} {ocI : Value} {odI anI : Option Addr} {slI : Array (Option Value)} {dcI pmI cdI ctI : Value}
    (tI : PySem.W.typeIn K (.ref fI) = some (.type "function")) (lI : K.lookup fI = some ⟨ocI, odI, .func (PySem.W.fnOf "__init__" "OverpassesError.__init__" (PySem.LowX.iA ⟨5, 17, 5, 21⟩ ⟨5, 23, 5, 25⟩) (PySem.LowX.iB ⟨6, 8, 6, 12⟩ ⟨6, 8, 6, 15⟩ ⟨6, 18, 6, 20⟩ ⟨6, 8, 6, 20⟩) PySem.LowX.iS .none .none dcI pmI anI cdI ctI), slI⟩) (cI : PySem.W.codeIn K cdI "OverpassesError.__init__" = true)
    {nm100 : Str} {q100 : Str} {N100 : Addr} {bs100 : List Value} {sn100 : List Str} {sub100 : List Value} {ab100 : Bool} {col100 : Option Bool} {dd100 : Option Addr} {m0100 : Option Value} {m1100 : Option Value} {m2100 : Option Value} {m3100 : Option Value} {m5100 : Option Value}
    (ea0 : PySem.W.nsIn K mainGlobals "NoPlace" = some (some (.ref C0))) (ex0 : K.lookup C0 = some (excClassObj nm100 q100 C0 N100 bs100 [.ref CO, .type "ValueError", .type "Exception", .type "BaseException", .type "object"] true sn100 sub100 ab100 col100 dd100 m0100 m1100 m2100 m3100 m5100 "ValueError.__new__"))
    (es0 : PySem.W.findIn K (.ref C0) "__setattr__" = some (some (.builtin "object.__setattr__"))) (eg0 : PySem.W.findIn K (.ref C0) "__getattribute__" = some (some (.builtin "BaseException.__getattribute__"))) (eh0 : PySem.W.findIn K (.ref C0) "__getattr__" = some none) (en0 : PySem.W.findIn K (.ref C0) "at" = some none) (ei0 : PySem.W.findIn K (.ref C0) "__init__" = some (some (.ref fI)))
    (ek0 : PySem.W.keepIn K (.ref C0) = true) (eb0 : PySem.W.subIn K (.ref C0) (.type "BaseException") = some true) (et0 : PySem.W.typeIn K (.ref C0) = some (.type "type")) (ed0 : PySem.W.hasDictIn K C0 = true) (ec0 : PySem.W.isClsIn K C0 = true) (ef0 : PySem.W.subIn K (.ref C0) (.ref C0) = some true)
    {nm101 : Str} {q101 : Str} {N101 : Addr} {bs101 : List Value} {sn101 : List Str} {sub101 : List Value} {ab101 : Bool} {col101 : Option Bool} {dd101 : Option Addr} {m0101 : Option Value} {m1101 : Option Value} {m2101 : Option Value} {m3101 : Option Value} {m5101 : Option Value}
    (ea1 : PySem.W.nsIn K mainGlobals "NotAnOrder" = some (some (.ref C1))) (ex1 : K.lookup C1 = some (excClassObj nm101 q101 C1 N101 bs101 [.ref CO, .type "ValueError", .type "Exception", .type "BaseException", .type "object"] true sn101 sub101 ab101 col101 dd101 m0101 m1101 m2101 m3101 m5101 "ValueError.__new__"))
    (es1 : PySem.W.findIn K (.ref C1) "__setattr__" = some (some (.builtin "object.__setattr__"))) (eg1 : PySem.W.findIn K (.ref C1) "__getattribute__" = some (some (.builtin "BaseException.__getattribute__"))) (eh1 : PySem.W.findIn K (.ref C1) "__getattr__" = some none) (en1 : PySem.W.findIn K (.ref C1) "at" = some none) (ei1 : PySem.W.findIn K (.ref C1) "__init__" = some (some (.ref fI)))
    (ek1 : PySem.W.keepIn K (.ref C1) = true) (eb1 : PySem.W.subIn K (.ref C1) (.type "BaseException") = some true) (et1 : PySem.W.typeIn K (.ref C1) = some (.type "type")) (ed1 : PySem.W.hasDictIn K C1 = true) (ec1 : PySem.W.isClsIn K C1 = true) (ef1 : PySem.W.subIn K (.ref C1) (.ref C1) = some true)
    {tk0 : Tok} (q0 : PySem.W.nsIn K mainGlobals "UP" = some (some (.int 2 tk0)))
    {tk1 : Tok} (q1 : PySem.W.nsIn K mainGlobals "DOWN" = some (some (.int 3 tk1)))
    (y0 : PySem.W.nsIn K mainGlobals "combinations" = some (some (.type "itertools.combinations")))
    (z0 : PySem.W.nsIn K mainGlobals "range" = some none) (z1 : PySem.W.nsIn K mainGlobals "min" = some none) (z2 : PySem.W.nsIn K mainGlobals "max" = some none) (z3 : PySem.W.nsIn K mainGlobals "len" = some none) (z4 : PySem.W.nsIn K mainGlobals "abs" = some none) (z5 : PySem.W.nsIn K mainGlobals "int" = some none) (z6 : PySem.W.nsIn K mainGlobals "bool" = some none) (z7 : PySem.W.nsIn K mainGlobals "list" = some none) (z8 : PySem.W.nsIn K mainGlobals "tuple" = some none) (z9 : PySem.W.nsIn K mainGlobals "isinstance" = some none) (z10 : PySem.W.nsIn K mainGlobals "enumerate" = some none) (z11 : PySem.W.nsIn K mainGlobals "repr" = some none) (z12 : PySem.W.nsIn K mainGlobals "reversed" = some none) (z13 : PySem.W.nsIn K mainGlobals "sorted" = some none) :
    ∃ fd : FuncData, (∀ (s : Shared) (v : Value), BindsTo s fd ⟨[v], []⟩ [("script", v)]) ∧ ∀ base : Heap, K.In base → base.Ns mainGlobals mg → FnG l.prog w K mg base fa fd ["script"] (spLaw K) := by
  have e := hfa.symm.trans (PySem.W.mg_of X G a29)
  cases e
  have D_neighbours : Df K mg "neighbours" sNear ["net", "a"] := df_mk X G a0 l0 c0 k0 (fun _ _ _ _ _ _ us hl => match us, hl with | [_, _], _ => rfl)
  have D_check_places : Df K mg "check_places" sChkPl ["n", "places"] := df_mk X G a1 l1 c1 k1 (fun _ _ _ _ _ _ us hl => match us, hl with | [_, _], _ => rfl)
  have D_up_sums : Df K mg "up_sums" sUpSums ["order", "rows", "place"] := df_mk X G a2 l2 c2 k2 (fun _ _ _ _ _ _ us hl => match us, hl with | [_, _, _], _ => rfl)
  have D__sums : Df K mg "_sums" sSumsP ["order", "rows", "place", "column"] := df_mk X G a3 l3 c3 k3 (fun _ _ _ _ _ _ us hl => match us, hl with | [_, _, _, _], _ => rfl)
  have D_down_sums : Df K mg "down_sums" sDownSums ["order", "rows", "place"] := df_mk X G a4 l4 c4 k4 (fun _ _ _ _ _ _ us hl => match us, hl with | [_, _, _], _ => rfl)
  have D_answers : Df K mg "answers" sAnswers ["order", "rows", "start", "stops"] := df_mk X G a5 l5 c5 k5 (fun _ _ _ _ _ _ us hl => match us, hl with | [_, _, _, _], _ => rfl)
  have D_labels : Df K mg "labels" sLabels ["order", "rows"] := df_mk X G a6 l6 c6 k6 (fun _ _ _ _ _ _ us hl => match us, hl with | [_, _], _ => rfl)
  have D_label_answer : Df K mg "label_answer" sLabAns ["forward", "backward"] := df_mk X G a7 l7 c7 k7 (fun _ _ _ _ _ _ us hl => match us, hl with | [_, _], _ => rfl)
  have D__label : Df K mg "_label" sLabelP ["place", "higher", "sums", "others"] := df_mk X G a8 l8 c8 k8 (fun _ _ _ _ _ _ us hl => match us, hl with | [_, _, _, _], _ => rfl)
  have D_greedy_order : Df K mg "greedy_order" sGreedy ["net"] := df_mk X G a9 l9 c9 k9 (fun _ _ _ _ _ _ us hl => match us, hl with | [_], _ => rfl)
  have D__joined : Df K mg "_joined" sJoinedG ["near", "around", "taken", "place"] := df_mk X G a10 l10 c10 k10 (fun _ _ _ _ _ _ us hl => match us, hl with | [_, _, _, _], _ => rfl)
  have D_link_ways : Df K mg "link_ways" sLinkWays ["net"] := df_mk X G a11 l11 c11 k11 (fun _ _ _ _ _ _ us hl => match us, hl with | [_], _ => rfl)
  have D_ranks : Df K mg "ranks" sRanks ["order"] := df_mk X G a12 l12 c12 k12 (fun _ _ _ _ _ _ us hl => match us, hl with | [_], _ => rfl)
  have D_pairs : Df K mg "pairs" sPairs ["net", "order"] := df_mk X G a13 l13 c13 k13 (fun _ _ _ _ _ _ us hl => match us, hl with | [_, _], _ => rfl)
  have D_upper : Df K mg "upper" sUpper ["net", "order"] := df_mk X G a14 l14 c14 k14 (fun _ _ _ _ _ _ us hl => match us, hl with | [_, _], _ => rfl)
  have D_fill : Df K mg "fill" sFill ["net", "order"] := df_mk X G a15 l15 c15 k15 (fun _ _ _ _ _ _ us hl => match us, hl with | [_, _], _ => rfl)
  have D_fill_way : Df K mg "fill_way" sWayF ["links", "prices", "places", "x", "y"] := df_mk X G a16 l16 c16 k16 (fun _ _ _ _ _ _ us hl => match us, hl with | [_, _, _, _, _], _ => rfl)
  have D__lower_by_pair : Df K mg "_lower_by_pair" sLowBy ["found", "order"] := df_mk X G a17 l17 c17 k17 (fun _ _ _ _ _ _ us hl => match us, hl with | [_, _], _ => rfl)
  have D__row : Df K mg "_row" sRowF ["links", "prices", "lower", "low", "high"] := df_mk X G a18 l18 c18 k18 (fun _ _ _ _ _ _ us hl => match us, hl with | [_, _, _, _, _], _ => rfl)
  have D__law_draws : Df K mg "_law_draws" sDraws ["script"] := df_mk X G a19 l19 c19 k19 (fun _ _ _ _ _ _ us hl => match us, hl with | [_], _ => rfl)
  have D__law_mix : Df K mg "_law_mix" sMix ["draws", "k", "many"] := df_mk X G a20 l20 c20 k20 (fun _ _ _ _ _ _ us hl => match us, hl with | [_, _, _], _ => rfl)
  have D__law_net : Df K mg "_law_net" sNet3 ["draws", "k"] := df_mk X G a21 l21 c21 k21 (fun _ _ _ _ _ _ us hl => match us, hl with | [_, _], _ => rfl)
  have D__law_order : Df K mg "_law_order" sOrder3 ["draws", "k", "count"] := df_mk X G a22 l22 c22 k22 (fun _ _ _ _ _ _ us hl => match us, hl with | [_, _, _], _ => rfl)
  have D__law_at : Df K mg "_law_at" sAt ["draws", "k", "many"] := df_mk X G a23 l23 c23 k23 (fun _ _ _ _ _ _ us hl => match us, hl with | [_, _, _], _ => rfl)
  have D__law_is_integer : Df K mg "_law_is_integer" sIsI ["actual"] := df_mk X G a24 l24 c24 k24 (fun _ _ _ _ _ _ us hl => match us, hl with | [_], _ => rfl)
  have D__law_sparse : Df K mg "_law_sparse" sSparse ["draws", "k"] := df_mk X G a25 l25 c25 k25 (fun _ _ _ _ _ _ us hl => match us, hl with | [_, _], _ => rfl)
  have D__law_sums : Df K mg "_law_sums" sSums34 ["net", "start"] := df_mk X G a26 l26 c26 k26 (fun _ _ _ _ _ _ us hl => match us, hl with | [_, _], _ => rfl)
  have D__law_entry_right : Df K mg "_law_entry_right" sEntryR ["entry", "rank", "v", "due"] := df_mk X G a27 l27 c27 k27 (fun _ _ _ _ _ _ us hl => match us, hl with | [_, _, _, _], _ => rfl)
  have D__law_needed : Df K mg "_law_needed" sNeeded ["forward", "backward", "rank", "sums", "v"] := df_mk X G a28 l28 c28 k28 (fun _ _ _ _ _ _ us hl => match us, hl with | [_, _, _, _, _], _ => rfl)
  have b_range := PySem.W.mg_none_of X G z0
  have b_min := PySem.W.mg_none_of X G z1
  have b_max := PySem.W.mg_none_of X G z2
  have b_len := PySem.W.mg_none_of X G z3
  have b_abs := PySem.W.mg_none_of X G z4
  have b_int := PySem.W.mg_none_of X G z5
  have b_bool := PySem.W.mg_none_of X G z6
  have b_list := PySem.W.mg_none_of X G z7
  have b_tuple := PySem.W.mg_none_of X G z8
  have b_isinstance := PySem.W.mg_none_of X G z9
  have b_enumerate := PySem.W.mg_none_of X G z10
  have b_repr := PySem.W.mg_none_of X G z11
  have b_reversed := PySem.W.mg_none_of X G z12
  have b_sorted := PySem.W.mg_none_of X G z13
  have g_UP := PySem.W.mg_of X G q0
  have g_DOWN := PySem.W.mg_of X G q1
  have g_combinations := PySem.W.mg_of X G y0
  have E_NoPlace : PySem.LowX.LowTxt K mg "NoPlace" C0 fI := low_mk X G ⟨ea0, ⟨_, _, _, _, _, _, _, _, _, _, _, _, _, _, ex0⟩, es0, eg0, eh0, en0, ei0, ek0, eb0, et0, ed0, ec0, ef0⟩ ⟨tI, _, _, _, _, _, _, _, _, lI, cI⟩
  have E_NotAnOrder : PySem.LowX.LowTxt K mg "NotAnOrder" C1 fI := low_mk X G ⟨ea1, ⟨_, _, _, _, _, _, _, _, _, _, _, _, _, _, ex1⟩, es1, eg1, eh1, en1, ei1, ek1, eb1, et1, ed1, ec1, ef1⟩ ⟨tI, _, _, _, _, _, _, _, _, lI, cI⟩
  have F_law := fun_mk (st := sLaw) l29 c29 k29
  refine ⟨PySem.W.fnOf "law" "law" (defArgs sLaw) (defBody sLaw) (defScope sLaw) .none kV29 dc29 pm29 an29 cd29 ct29, fun s v => .of_eq rfl, fun base _ _ => ?_⟩
  have cD := kal_of D__law_draws (fun f fd F => ok_draws (P := l.prog) (w := w) (base := base) (k := 0) F b_range b_min b_len b_abs b_int)
  have cM := kal_of D__law_mix (fun f fd F => ok_mix (P := l.prog) (w := w) (base := base) (k := 0) F b_len b_int)
  have cN := kal_of D__law_net (fun f fd F => ok_net3 F cM b_range b_len)
  have cO := kal_of D__law_order (fun f fd F => ok_order3 F cM b_range b_len)
  have cRk := kalx_of D_ranks (fun f fd F => ok_ranks (P := l.prog) (w := w) (base := base) F E_NotAnOrder b_len b_enumerate)
  have cU := kal_of D_upper (fun f fd F => ok_upper F cRk b_len b_enumerate b_range b_min b_max g_combinations)
  have cP := kal_of D_pairs (fun f fd F => ok_pairs F cU)
  have cLb := kal_of D__lower_by_pair (fun f fd F => ok_lowBy (P := l.prog) (w := w) (base := base) (K := K) (k := 0) F g_combinations)
  have cLk := kal_of D_link_ways (fun f fd F => ok_linkWays (P := l.prog) (w := w) (base := base) (K := K) (mg := mg) (k := 0) F)
  have cWy := kal_of D_fill_way (fun f fd F => ok_wayF (P := l.prog) (w := w) (base := base) (K := K) (mg := mg) (k := 0) F)
  have cRw := kal_of D__row (fun f fd F => ok_rowF F cWy)
  have cFi := kal_of D_fill (fun f fd F => ok_fill (k := 4) (by decide) (by decide) (by decide) (by decide) F cP cLb cLk cRw)
  have cCp := kalx_of D_check_places (fun f fd F => ok_chkPl (P := l.prog) (w := w) (base := base) F E_NoPlace)
  have cSm := kalx_of D__sums (fun f fd F => ok_sumsP (k := 2) (by decide) F cCp b_len)
  have cUs := kalx_of D_up_sums (fun f fd F => ok_upSums F cSm g_UP)
  have cA := kal_of D__law_at (fun f fd F => ok_at (P := l.prog) (w := w) (base := base) (k := 0) F b_len b_int)
  have cI := kal_of D__law_is_integer (fun f fd F => ok_isI (P := l.prog) (w := w) (base := base) (k := 0) F b_isinstance b_int b_bool)
  have cDs := kalx_of D_down_sums (fun f fd F => ok_downSums F cSm g_DOWN)
  have cAs := kalx_of D_answers (fun f fd F => ok_answers (k := 4) (by decide) F cUs cCp g_DOWN b_len b_reversed)
  have cLa := kal_of D_label_answer (fun f fd F => ok_labAns (P := l.prog) (w := w) (base := base) (k := 0) F b_min)
  have cLp := kal_of D__label (fun f fd F => ok_labelP F cLa b_sorted)
  have cLs := kal_of D_labels (fun f fd F => ok_labels (k := 4) (by decide) (by decide) (by decide) F cUs cDs cLp b_len b_range b_reversed)
  have cNb := kalx_of D_neighbours (fun f fd F => ok_near F cCp)
  have cJ := kal_of D__joined (fun f fd F => ok_joined (P := l.prog) (w := w) (base := base) (K := K) (mg := mg) (k := 0) F)
  have cG := kal_of D_greedy_order (fun f fd F => ok_greedy (by decide) F cNb cJ b_len b_range b_list b_min)
  have cSp := kal_of D__law_sparse (fun f fd F => ok_sparse F cM b_range b_int b_sorted)
  have cS := kal_of D__law_sums (fun f fd F => ok_sums34 (P := l.prog) (w := w) (base := base) (K := K) (mg := mg) (k := 0) F b_range b_list)
  have cEr := kal_of D__law_entry_right (fun f fd F => ok_entryR F cI b_len b_isinstance b_tuple)
  have cNe := kal_of D__law_needed (fun f fd F => ok_needed (k := 2) (by decide) (by decide) F cLa cEr b_len b_range b_sorted)
  exact ok_law (by decide) (by decide) (by decide) (by decide) (by decide) (by decide) (by decide) (by decide) (by decide) (by decide) (by decide) (by decide) (by decide) F_law cD cA cM cN cSp cO cG cFi cLs cS cAs cLa cNe cI b_range b_list b_min b_repr
end Ovc
open PySem PySem.W PyProof.Rows
set_option maxHeartbeats 0 in
theorem PySem.Challenge.cw_overpasses_k34_whole_labels_answer_and_a_holds : PySem.Challenge.rw_overpasses_k34_whole_labels_answer_and_a.Holds := by
  w_on; o_law; k_head; (case hw => w_witness2)
  k_fill
  refine Ovc.walkG (l := PySem.Challenge.rw_overpasses_k34_whole_labels_answer_and_a) (n := 63) (x := "script") (sp := fun w => Ovc.spLaw _) rfl (by decide) rfl (fun w h Y => PySem.W.kIn_of Y) ?F (fun _ _ a ns hl _ hS => ⟨a, ns, rfl, hS, hl, fun _ => rfl⟩)
  case F =>
    intro w mg fa h KX G hmg
    refine' Ovc.all_mk KX G hmg ?a0 ?l0 ?c0 ?k0 ?a1 ?l1 ?c1 ?k1 ?a2 ?l2 ?c2 ?k2 ?a3 ?l3 ?c3 ?k3 ?a4 ?l4 ?c4 ?k4 ?a5 ?l5 ?c5 ?k5 ?a6 ?l6 ?c6 ?k6 ?a7 ?l7 ?c7 ?k7 ?a8 ?l8 ?c8 ?k8 ?a9 ?l9 ?c9 ?k9 ?a10 ?l10 ?c10 ?k10 ?a11 ?l11 ?c11 ?k11 ?a12 ?l12 ?c12 ?k12 ?a13 ?l13 ?c13 ?k13 ?a14 ?l14 ?c14 ?k14 ?a15 ?l15 ?c15 ?k15 ?a16 ?l16 ?c16 ?k16 ?a17 ?l17 ?c17 ?k17 ?a18 ?l18 ?c18 ?k18 ?a19 ?l19 ?c19 ?k19 ?a20 ?l20 ?c20 ?k20 ?a21 ?l21 ?c21 ?k21 ?a22 ?l22 ?c22 ?k22 ?a23 ?l23 ?c23 ?k23 ?a24 ?l24 ?c24 ?k24 ?a25 ?l25 ?c25 ?k25 ?a26 ?l26 ?c26 ?k26 ?a27 ?l27 ?c27 ?k27 ?a28 ?l28 ?c28 ?k28 ?a29 ?l29 ?c29 ?k29 ?tI ?lI ?cI ?ea0 ?ex0 ?es0 ?eg0 ?eh0 ?en0 ?ei0 ?ek0 ?eb0 ?et0 ?ed0 ?ec0 ?ef0 ?ea1 ?ex1 ?es1 ?eg1 ?eh1 ?en1 ?ei1 ?ek1 ?eb1 ?et1 ?ed1 ?ec1 ?ef1 ?q0 ?q1 ?y0 ?z0 ?z1 ?z2 ?z3 ?z4 ?z5 ?z6 ?z7 ?z8 ?z9 ?z10 ?z11 ?z12 ?z13
    (case a0 => k_is)
    (case l0 => k_is)
    (case c0 => k_is)
    (case k0 => k_is)
    (case a1 => k_is)
    (case l1 => k_is)
    (case c1 => k_is)
    (case k1 => k_is)
    (case a2 => k_is)
    (case l2 => k_is)
    (case c2 => k_is)
    (case k2 => k_is)
    (case a3 => k_is)
    (case l3 => k_is)
    (case c3 => k_is)
    (case k3 => k_is)
    (case a4 => k_is)
    (case l4 => k_is)
    (case c4 => k_is)
    (case k4 => k_is)
    (case a5 => k_is)
    (case l5 => k_is)
    (case c5 => k_is)
    (case k5 => k_is)
    (case a6 => k_is)
    (case l6 => k_is)
    (case c6 => k_is)
    (case k6 => k_is)
    (case a7 => k_is)
    (case l7 => k_is)
    (case c7 => k_is)
    (case k7 => k_is)
    (case a8 => k_is)
    (case l8 => k_is)
    (case c8 => k_is)
    (case k8 => k_is)
    (case a9 => k_is)
    (case l9 => k_is)
    (case c9 => k_is)
    (case k9 => k_is)
    (case a10 => k_is)
    (case l10 => k_is)
    (case c10 => k_is)
    (case k10 => k_is)
    (case a11 => k_is)
    (case l11 => k_is)
    (case c11 => k_is)
    (case k11 => k_is)
    (case a12 => k_is)
    (case l12 => k_is)
    (case c12 => k_is)
    (case k12 => k_is)
    (case a13 => k_is)
    (case l13 => k_is)
    (case c13 => k_is)
    (case k13 => k_is)
    (case a14 => k_is)
    (case l14 => k_is)
    (case c14 => k_is)
    (case k14 => k_is)
    (case a15 => k_is)
    (case l15 => k_is)
    (case c15 => k_is)
    (case k15 => k_is)
    (case a16 => k_is)
    (case l16 => k_is)
    (case c16 => k_is)
    (case k16 => k_is)
    (case a17 => k_is)
    (case l17 => k_is)
    (case c17 => k_is)
    (case k17 => k_is)
    (case a18 => k_is)
    (case l18 => k_is)
    (case c18 => k_is)
    (case k18 => k_is)
    (case a19 => k_is)
    (case l19 => k_is)
    (case c19 => k_is)
    (case k19 => k_is)
    (case a20 => k_is)
    (case l20 => k_is)
    (case c20 => k_is)
    (case k20 => k_is)
    (case a21 => k_is)
    (case l21 => k_is)
    (case c21 => k_is)
    (case k21 => k_is)
    (case a22 => k_is)
    (case l22 => k_is)
    (case c22 => k_is)
    (case k22 => k_is)
    (case a23 => k_is)
    (case l23 => k_is)
    (case c23 => k_is)
    (case k23 => k_is)
    (case a24 => k_is)
    (case l24 => k_is)
    (case c24 => k_is)
    (case k24 => k_is)
    (case a25 => k_is)
    (case l25 => k_is)
    (case c25 => k_is)
    (case k25 => k_is)
    (case a26 => k_is)
    (case l26 => k_is)
    (case c26 => k_is)
    (case k26 => k_is)
    (case a27 => k_is)
    (case l27 => k_is)
    (case c27 => k_is)
    (case k27 => k_is)
    (case a28 => k_is)
    (case l28 => k_is)
    (case c28 => k_is)
    (case k28 => k_is)
    (case a29 => k_is)
    (case l29 => k_is)
    (case c29 => k_is)
    (case k29 => k_is)
    (case ea0 => k_is)
    (case ex0 => k_is)
    (case es0 => k_is)
    (case eg0 => k_is)
    (case eh0 => k_is)
    (case en0 => k_is)
    (case ei0 => k_is)
    (case ek0 => k_is)
    (case eb0 => k_is)
    (case et0 => k_is)
    (case ed0 => k_is)
    (case ec0 => k_is)
    (case ef0 => first | rfl | k_is)
    (case ea1 => k_is)
    (case ex1 => k_is)
    (case es1 => k_is)
    (case eg1 => k_is)
    (case eh1 => k_is)
    (case en1 => k_is)
    (case ei1 => k_is)
    (case ek1 => k_is)
    (case eb1 => k_is)
    (case et1 => k_is)
    (case ed1 => k_is)
    (case ec1 => k_is)
    (case ef1 => first | rfl | k_is)
    (case q0 => k_is)
    (case q1 => k_is)
    (case y0 => k_is)
    (case z0 => k_is)
    (case z1 => k_is)
    (case z2 => k_is)
    (case z3 => k_is)
    (case z4 => k_is)
    (case z5 => k_is)
    (case z6 => k_is)
    (case z7 => k_is)
    (case z8 => k_is)
    (case z9 => k_is)
    (case z10 => k_is)
    (case z11 => k_is)
    (case z12 => k_is)
    (case z13 => k_is)
    (case tI => k_is)
    (case lI => k_is)
    (case cI => k_is)
