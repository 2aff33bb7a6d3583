import PyProof.Rows.All
import Wide.All
import OpenK.AllK
import Wide.FinOn
import PySem.Challenge.RW_overpasses_k37_bad_questions_for_roads
import HandS.Base
import HandS.Call
import HandS.List
import HandS.Comp
import HandS.Dict
import HandS.Ends
import HandS.Iter
import HandS.Text
import HandS.Words
import HandS.Evl
import HandS.IsInst
import HandS.Style
import HandS.Exc
import HandS.TryOnly
import HandS.TryMany
import HandS.ExcOwn
import HandS.WordsExc
import HandS.TupLe
import HandS.Conv
import HandS.Walk
import HandS.WordsDict
import HandS.More
import HandS.Sort
import HandS.Deep
import HandS.DictComp
import HandS.DeepEq
import HandS.SortRule
import HandS.Flow
import PyProof.ZipIter
import PyProof.CallType
import PyProof.Walk
import PyProof.WalkLemmas
import PyProof.RangeIter
import PyProof.RulesTry
import KE.KDictZip
import KE.KTurns
import PyProof.ReprRoads
import KE.LtData
import KE.DataCmp
import KE.DataMinMax
import KE.SortData
import PyProof.Claim2Refuses
import HandS.DictTup
import KE.KDictWalk
import KE.KDictSum
import KE.KSortTup
import HandS.OwnEq
import HandS.ListEq
set_option Elab.async false
set_option linter.all false
set_option maxRecDepth 100000
set_option maxHeartbeats 2000000
namespace Ovc
open PySem PySem.Spec PyProof.Rows L2
def topS (i : Nat) : Stmt := PySem.Challenge.pw_overpasses_k37_bad_questions_for_roads.main.body.getD i (.Pass ⟨0, 0, 0, 0⟩)
/-! ### heaps -/
theorem same_upd {H : Hp} {p : Addr} {o : HO} (h : H p = none) : Same H (upd H p o) := fun b x e => by
  rw [upd_ne (ne_of_none e h)]
  exact e
theorem same_upd' {G H : Hp} {p : Addr} {o : HO} (s : Same G H) (h : G p = none) : Same G (upd H p o) := fun b x e => by
  rw [upd_ne (ne_of_none e h)]
  exact s b x e
/-- all of H but what stands at o -/
def but (H : Hp) (o : Addr) : Hp := fun b => if b = o then none else H b
theorem but_at {H : Hp} {o : Addr} : but H o o = none := if_pos rfl
theorem but_ne {H : Hp} {o b : Addr} (h : b ≠ o) : but H o b = H b := if_neg h
theorem but_same {H : Hp} {o : Addr} : Same (but H o) H := fun b x e => by
  by_cases h : b = o
  · rw [h, but_at] at e
    cases e
  · rw [but_ne h] at e
    exact e
theorem same_but {G H : Hp} {o : Addr} (s : Same G H) (n : G o = none) : Same G (but H o) := fun b x e => by
  rw [but_ne (ne_of_none e n)]
  exact s b x e
theorem but_mono {H H' : Hp} {o : Addr} (s : Same H H') : Same (but H o) (but H' o) := fun b x e => by
  by_cases h : b = o
  · rw [h, but_at] at e
    cases e
  · rw [but_ne h] at e ⊢
    exact s b x e
theorem but_upd {H : Hp} {o : Addr} {u : HO} : but (upd H o u) o = but H o := by
  funext b
  by_cases h : b = o
  · rw [h, but_at, but_at]
  · rw [but_ne h, but_ne h, upd_ne h]
/-- a store at o, seen from what stands beside it -/
theorem but_upd_same {H : Hp} {o : Addr} {u : HO} : Same (but H o) (upd H o u) := fun b x e => by
  by_cases h : b = o
  · rw [h, but_at] at e
    cases e
  · rw [but_ne h] at e
    rw [upd_ne h]
    exact e
theorem seqT {K : PySem.W.Frag} {H H' : Hp} {a : Addr} {xs : List V} (e : Same H H') (h : SqT K H a xs) : SqT K H' a xs := by
  rcases h with (h | ⟨o, h⟩) | h
  · exact .inl (.inl (e _ _ h))
  · exact .inl (.inr ⟨o, e _ _ h⟩)
  · exact .inr h
mutual
theorem dpS {K : PySem.W.Frag} {H H' : Hp} (s : Same H H') : ∀ (d : PyData) (v : V), Dp K H v d → Dp K H' v d
  | .none, _, h => by
    cases h
    exact .non
  | .bool b, _, h => by
    cases h
    exact .bl b
  | .int i, _, h => by
    cases h
    exact .int i
  | .str x, _, h => by
    cases h
    exact .str x
  | .list ds, _, h => by
    cases h with
    | lst hs ha => exact .lst (s.seq hs) (dpSAll s ds _ ha)
  | .tuple ds, _, h => by
    cases h with
    | tup hs ha => exact .tup (seqT s hs) (dpSAll s ds _ ha)
  | .dict _, _, h => by cases h
theorem dpSAll {K : PySem.W.Frag} {H H' : Hp} (s : Same H H') : ∀ (ds : List PyData) (vs : List V), DpAll K H vs ds → DpAll K H' vs ds
  | [], _, h => by
    cases h
    exact .nil
  | d :: ds, _, h => by
    cases h with
    | cons h1 h2 => exact .cons (dpS s d _ h1) (dpSAll s ds _ h2)
end
theorem Dp.to {K : PySem.W.Frag} {H H' : Hp} {v : V} {d : PyData} (h : Dp K H v d) (s : Same H H') : Dp K H' v d := dpS s d v h
theorem DpAll.to {K : PySem.W.Frag} {H H' : Hp} {vs : List V} {ds : List PyData} (h : DpAll K H vs ds) (s : Same H H') : DpAll K H' vs ds := dpSAll s ds vs h
theorem DpAll.len {K : PySem.W.Frag} {H : Hp} : ∀ {vs : List V} {ds : List PyData}, DpAll K H vs ds → vs.length = ds.length
  | _, _, .nil => rfl
  | _, _, .cons _ t => by
    rw [List.length_cons, List.length_cons, DpAll.len t]
theorem DpAll.get {K : PySem.W.Frag} {H : Hp} : ∀ {vs : List V} {ds : List PyData} {i : Nat} {d : PyData}, DpAll K H vs ds → ds[i]? = some d → ∃ v, vs[i]? = some v ∧ Dp K H v d
  | _, _, i, d, .nil, e => by simp at e
  | _, _, 0, d, .cons h _, e => by
    have e' := Option.some.inj e
    subst e'
    exact ⟨_, rfl, h⟩
  | _, _, i + 1, d, .cons _ t, e => DpAll.get (i := i) t e
theorem DpAll.app {K : PySem.W.Frag} {H : Hp} : ∀ {vs ws : List V} {ds es : List PyData}, DpAll K H vs ds → DpAll K H ws es → DpAll K H (vs ++ ws) (ds ++ es)
  | _, _, _, _, .nil, t => t
  | _, _, _, _, .cons h r, t => .cons h (DpAll.app r t)
theorem DpAll.take {K : PySem.W.Frag} {H : Hp} : ∀ {vs : List V} {ds : List PyData} (n : Nat), DpAll K H vs ds → DpAll K H (vs.take n) (ds.take n)
  | _, _, 0, _ => .nil
  | _, _, _ + 1, .nil => .nil
  | _, _, n + 1, .cons h t => .cons h (DpAll.take n t)
theorem DpAll.drop {K : PySem.W.Frag} {H : Hp} : ∀ {vs : List V} {ds : List PyData} (n : Nat), DpAll K H vs ds → DpAll K H (vs.drop n) (ds.drop n)
  | _, _, 0, h => h
  | _, _, _ + 1, .nil => .nil
  | _, _, n + 1, .cons _ t => DpAll.drop n t
theorem DpAll.one {K : PySem.W.Frag} {H : Hp} {v : V} {d : PyData} (h : Dp K H v d) : DpAll K H [v] [d] := .cons h .nil
theorem Dp.int_inv {K : PySem.W.Frag} {H : Hp} {v : V} {i : Int} (h : Dp K H v (.int i)) : v = .int i := by
  cases h
  rfl
theorem DpAll.ints {K : PySem.W.Frag} {H : Hp} : ∀ ns : List Int, DpAll K H (ns.map V.int) (ns.map PyData.int)
  | [] => .nil
  | n :: ns => .cons (.int n) (DpAll.ints ns)
theorem DpAll.ints_inv {K : PySem.W.Frag} {H : Hp} : ∀ {ns : List Int} {vs : List V}, DpAll K H vs (ns.map PyData.int) → vs = ns.map V.int
  | [], _, h => by
    cases h
    rfl
  | n :: ns, _, h => by
    cases h with
    | cons h1 h2 =>
      rw [Dp.int_inv h1, DpAll.ints_inv h2]
      rfl
theorem Dp.lst_inv {K : PySem.W.Frag} {H : Hp} {v : V} {ds : List PyData} (h : Dp K H v (.list ds)) : ∃ a xs, v = .ref a ∧ SqL K H a xs ∧ DpAll K H xs ds := by
  cases h with
  | lst hs ha => exact ⟨_, _, rfl, hs, ha⟩
theorem Dp.tup_inv {K : PySem.W.Frag} {H : Hp} {v : V} {ds : List PyData} (h : Dp K H v (.tuple ds)) : ∃ a xs, v = .ref a ∧ SqT K H a xs ∧ DpAll K H xs ds := by
  cases h with
  | tup hs ha => exact ⟨_, _, rfl, hs, ha⟩
/-! ### an int or None -/
def oV : Option Int → V
  | none => .non
  | some i => .int i
def oD : Option Int → PyData
  | none => .none
  | some i => .int i
theorem Dp.o {K : PySem.W.Frag} {H : Hp} : ∀ o : Option Int, Dp K H (oV o) (oD o)
  | none => .non
  | some i => .int i
theorem Dp.o_inv {K : PySem.W.Frag} {H : Hp} {v : V} : ∀ {o : Option Int}, Dp K H v (oD o) → v = oV o
  | none, h => by
    cases h
    rfl
  | some i, h => by
    cases h
    rfl
theorem oV_non {o : Option Int} : decide (oV o = .non) = o.isNone := by
  cases o <;> rfl
theorem eqv_o : ∀ a b : Option Int, PyData.eqv (oD a) (oD b) = decide (a = b)
  | none, none => by rfl
  | none, some _ => by rfl
  | some _, none => by rfl
  | some a, some b => by
    show (a == b) = _
    by_cases h : a = b
    · subst h
      rw [decide_eq_true rfl]
      exact beq_self_eq_true a
    · rw [decide_eq_false (fun e => h (Option.some.inj e))]
      exact beq_eq_false_iff_ne.mpr h
theorem shaped_o (a : Option Int) : SeqAt.shaped (oD a) = true := by
  cases a <;> rfl
/-! ### links and nets -/
structure Lnk where
  a : Int
  b : Int
  t : Option Int
  k : Option Int
structure Net where
  n : Int
  ls : List Lnk
def lnkV (l : Lnk) : List V := [.int l.a, .int l.b, oV l.t, oV l.k]
def lnkD (l : Lnk) : PyData := .tuple [.int l.a, .int l.b, oD l.t, oD l.k]
def netD (N : Net) : PyData := .tuple [.int N.n, .list (N.ls.map lnkD)]
theorem Dp.lnk_inv {K : PySem.W.Frag} {H : Hp} {v : V} {l : Lnk} (h : Dp K H v (lnkD l)) : ∃ a, v = .ref a ∧ SqT K H a (lnkV l) := by
  obtain ⟨a, xs, rfl, hs, ha⟩ := Dp.tup_inv h
  cases ha with
  | cons h1 r1 =>
    cases r1 with
    | cons h2 r2 =>
      cases r2 with
      | cons h3 r3 =>
        cases r3 with
        | cons h4 r4 =>
          cases r4
          rw [Dp.int_inv h1, Dp.int_inv h2, Dp.o_inv h3, Dp.o_inv h4] at hs
          exact ⟨a, rfl, hs⟩
theorem Dp.lnk {K : PySem.W.Frag} {H : Hp} {a : Addr} {l : Lnk} (h : SqT K H a (lnkV l)) : Dp K H (.ref a) (lnkD l) :=
  .tup h (.cons (.int _) (.cons (.int _) (.cons (Dp.o _) (.cons (Dp.o _) .nil))))
theorem Dp.net_inv {K : PySem.W.Frag} {H : Hp} {v : V} {N : Net} (h : Dp K H v (netD N)) : ∃ p q xs, v = .ref p ∧ SqT K H p [.int N.n, .ref q] ∧ SqL K H q xs ∧ DpAll K H xs (N.ls.map lnkD) := by
  obtain ⟨a, xs, rfl, hs, ha⟩ := Dp.tup_inv h
  cases ha with
  | cons h1 r1 =>
    cases r1 with
    | cons h2 r2 =>
      cases r2
      obtain ⟨q, ys, rfl, hl, hy⟩ := Dp.lst_inv h2
      rw [Dp.int_inv h1] at hs
      exact ⟨a, q, ys, rfl, hs, hl, hy⟩
theorem Dp.net {K : PySem.W.Frag} {H : Hp} {p q : Addr} {xs : List V} {N : Net} (h : SqT K H p [.int N.n, .ref q]) (hq : SqL K H q xs) (hx : DpAll K H xs (N.ls.map lnkD)) : Dp K H (.ref p) (netD N) :=
  .tup h (.cons (.int _) (.cons (.lst hq hx) .nil))
/-! ### pure expressions: what they evaluate to, the heap as it is -/
def Vl (te : TE) (σ : L2.St) (H : Hp) (v : V) : Prop := ∀ Q : VK, Q v H → te σ H Q
def An (t : TT) (σ : L2.St) (H : Hp) (b : Bool) : Prop := ∀ Q : Bool → Hp → Prop, Q b H → t σ H Q
def Va (ta : TA) (σ : L2.St) (H : Hp) (vs : List V) : Prop := ∀ Q : List V → Hp → Prop, Q vs H → ta σ H Q
section
variable {K : PySem.W.Frag} {σ : L2.St} {H : Hp} {i : Nat} {v x y z : V} {ta tb te tv : TE} {b : Bool} {a : Addr} {t u c : TT} {tr : TA} {D : Ends} {tz tw : TS}
theorem va_nil : Va tNil σ H [] := fun _ q => q
theorem va_cons {vs : List V} (h : Vl ta σ H x) (hr : Va tr σ H vs) : Va (tCons ta tr) σ H (x :: vs) := fun Q q => h _ (hr _ q)
theorem vl_var (h : σ[i]? = some (some v)) : Vl (tVar i) σ H v := fun _ q => ⟨v, h, q⟩
theorem vl_c : Vl (tC v) σ H v := fun _ q => q
theorem vl_op {r : R2} (ha : Vl ta σ H x) (hb : Vl tb σ H y) (hr : ∀ Q : VK, Q z H → r x y H Q) : Vl (tOp r ta tb) σ H z := fun Q q => ha _ (hb _ (hr _ q))
theorem vl_I0 {g : Int → Int → V} {p q : Int} (ha : Vl ta σ H (.int p)) (hb : Vl tb σ H (.int q)) : Vl (tOp (rI0 g) ta tb) σ H (g p q) := vl_op ha hb fun _ k => ⟨p, q, rfl, rfl, k⟩
theorem vl_I {C : Int → Int → Prop} {g : Int → Int → V} {p q : Int} (ha : Vl ta σ H (.int p)) (hb : Vl tb σ H (.int q)) (hc : C p q) : Vl (tOp (rI C g) ta tb) σ H (g p q) := vl_op ha hb fun _ k => ⟨p, q, rfl, rfl, hc, k⟩
theorem vl_un {r : V → Hp → VK → Prop} (ha : Vl ta σ H x) (hr : ∀ Q : VK, Q z H → r x H Q) : Vl (tUn r ta) σ H z := fun Q q => ha _ (hr _ q)
theorem vl_neg {p : Int} (ha : Vl ta σ H (.int p)) : Vl (tUn (rU fun i => .int (-i)) ta) σ H (.int (-p)) := vl_un ha fun _ k => ⟨p, rfl, k⟩
theorem vl_cb {r : List V → Hp → VK → Prop} {vs : List V} (h : Va tr σ H vs) (hr : ∀ Q : VK, Q z H → r vs H Q) : Vl (tCB r tr) σ H z := fun Q q => h _ (hr _ q)
theorem vl_int1 {p : Int} (ha : Vl ta σ H (.int p)) : Vl (tCB (fun xs H Q => (∃ i, xs = [V.int i] ∧ Q (V.int i) H) ∨ ∃ k, xs = [V.bl k] ∧ Q (V.int (if k then 1 else 0)) H) (tCons ta tNil)) σ H (.int p) :=
  vl_cb (va_cons ha va_nil) fun _ k => .inl ⟨p, rfl, k⟩
theorem vl_int1b {k : Bool} (ha : Vl ta σ H (.bl k)) : Vl (tCB (fun xs H Q => (∃ i, xs = [V.int i] ∧ Q (V.int i) H) ∨ ∃ k, xs = [V.bl k] ∧ Q (V.int (if k then 1 else 0)) H) (tCons ta tNil)) σ H (.int (if k then 1 else 0)) :=
  vl_cb (va_cons ha va_nil) fun _ q => .inr ⟨k, rfl, q⟩
theorem vl_abs {p : Int} (ha : Vl ta σ H (.int p)) : Vl (tCB (fun xs H Q => ∃ i, xs = [V.int i] ∧ Q (V.int (if i < 0 then -i else i)) H) (tCons ta tNil)) σ H (.int (if p < 0 then -p else p)) :=
  vl_cb (va_cons ha va_nil) fun _ k => ⟨p, rfl, k⟩
theorem vl_min2 {p q : Int} (ha : Vl ta σ H (.int p)) (hb : Vl tb σ H (.int q)) : Vl (tCB (fun xs H Q => ∃ i j, xs = [V.int i, V.int j] ∧ Q (V.int (if j < i then j else i)) H) (tCons ta (tCons tb tNil))) σ H (.int (if q < p then q else p)) :=
  vl_cb (va_cons ha (va_cons hb va_nil)) fun _ k => ⟨p, q, rfl, k⟩
theorem vl_max2 {p q : Int} (ha : Vl ta σ H (.int p)) (hb : Vl tb σ H (.int q)) : Vl (tCB (fun xs H Q => ∃ i j, xs = [V.int i, V.int j] ∧ Q (V.int (if j > i then j else i)) H) (tCons ta (tCons tb tNil))) σ H (.int (if q > p then q else p)) :=
  vl_cb (va_cons ha (va_cons hb va_nil)) fun _ k => ⟨p, q, rfl, k⟩
theorem vl_lenL {xs : List V} (ha : Vl ta σ H (.ref a)) (h : SqL K H a xs) : Vl (tCB (fun xs H Q => ∃ p ys, xs = [V.ref p] ∧ (SqL K H p ys ∨ SqT K H p ys) ∧ Q (V.int ys.length) H) (tCons ta tNil)) σ H (.int xs.length) :=
  vl_cb (va_cons ha va_nil) fun _ k => ⟨a, xs, rfl, .inl h, k⟩
theorem vl_ixL {xs : List V} {p : Int} (ha : Vl ta σ H (.ref a)) (hb : Vl tb σ H (.int p)) (h : SqL K H a xs) (hg : atI xs p = some z) : Vl (tOp (rIxL K) ta tb) σ H z :=
  vl_op ha hb fun _ k => ⟨a, xs, p, z, rfl, rfl, h, hg, k⟩
theorem vl_ixT {xs : List V} {p : Int} (ha : Vl ta σ H (.ref a)) (hb : Vl tb σ H (.int p)) (h : SqT K H a xs) (hg : atI xs p = some z) : Vl (tOp (rIxT K) ta tb) σ H z :=
  vl_op ha hb fun _ k => ⟨a, xs, p, z, rfl, rfl, h, hg, k⟩
theorem vl_eq (ha : Vl ta σ H x) (hb : Vl tb σ H y) (hs : scal x y = true) : Vl (tOp rEq ta tb) σ H (.bl (decide (x = y))) := vl_op ha hb fun _ k => ⟨hs, k⟩
theorem vl_ne (ha : Vl ta σ H x) (hb : Vl tb σ H y) (hs : scal x y = true) : Vl (tOp rNe ta tb) σ H (.bl (!decide (x = y))) := vl_op ha hb fun _ k => ⟨hs, k⟩
theorem vl_isN (ha : Vl ta σ H x) : Vl (tOp (fun x y H Q => y = V.non ∧ Q (V.bl (decide (x = V.non))) H) ta (tC .non)) σ H (.bl (decide (x = .non))) := vl_op ha vl_c fun _ k => ⟨rfl, k⟩
theorem vl_notN (ha : Vl ta σ H x) : Vl (tOp (fun x y H Q => y = V.non ∧ Q (V.bl (!decide (x = V.non))) H) ta (tC .non)) σ H (.bl (!decide (x = .non))) := vl_op ha vl_c fun _ k => ⟨rfl, k⟩
theorem vl_chain {r r' : R2} {tc : TE} {w : V} {k m : Bool} (ha : Vl ta σ H x) (hb : Vl tb σ H y) (hr : ∀ Q : VK, Q (.bl k) H → r x y H Q) (hc : Vl tc σ H w) (hr' : ∀ Q : VK, Q (.bl m) H → r' y w H Q) : Vl (tChain r r' ta tb tc) σ H (.bl (k && m)) := fun Q q =>
  ha _ (hb _ (hr _ ⟨k, rfl, by
    cases k with
    | true => exact iteT (hc _ (hr' _ q))
    | false => exact iteF q⟩))
theorem vl_chainI {g g' : Int → Int → Bool} {tc : TE} {p q s : Int} (ha : Vl ta σ H (.int p)) (hb : Vl tb σ H (.int q)) (hc : Vl tc σ H (.int s)) :
    Vl (tChain (rI0 fun i j => .bl (g i j)) (rI0 fun i j => .bl (g' i j)) ta tb tc) σ H (.bl (g p q && g' q s)) :=
  vl_chain ha hb (fun _ k => ⟨p, q, rfl, rfl, k⟩) hc (fun _ k => ⟨q, s, rfl, rfl, k⟩)
theorem vl_if {b : Bool} (h : An t σ H b) (h1 : b = true → Vl ta σ H v) (h2 : b = false → Vl tb σ H v) : Vl (tIf t ta tb) σ H v := fun Q q => h _ (by
  cases b with
  | true => exact iteT (h1 rfl _ q)
  | false => exact iteF (h2 rfl _ q))
theorem an_test {b : Bool} (h : Vl te σ H (.bl b)) : An (tTest te) σ H b := fun Q q => h _ ⟨b, rfl, q⟩
theorem an_B {b : Bool} (h : Vl te σ H (.bl b)) : An (tB te) σ H b := fun Q q => h _ ⟨b, rfl, q⟩
theorem an_not (h : An t σ H b) : An (tNot t) σ H (!b) := fun Q q => h _ q
theorem an_and {k m : Bool} (h1 : An t σ H k) (h2 : k = true → An u σ H m) : An (tAnd t u) σ H (k && m) := fun Q q => h1 _ (by
  cases k with
  | true => exact iteT (h2 rfl _ q)
  | false => exact iteF q)
theorem an_or {k m : Bool} (h1 : An t σ H k) (h2 : k = false → An u σ H m) : An (tOr t u) σ H (k || m) := fun Q q => h1 _ (by
  cases k with
  | true => exact iteT q
  | false => exact iteF (h2 rfl _ q))
theorem An.is {k m : Bool} (h : An t σ H k) (e : k = m) : An t σ H m := e ▸ h
theorem Vl.is {v w : V} (h : Vl te σ H v) (e : v = w) : Vl te σ H w := e ▸ h
/-! ### statements over them -/
theorem g_seq (h : tz { D with nx := tw D } σ H) : tSeq tz tw D σ H := h
theorem g_asg {i : Nat} (h : Vl te σ H v) (k : D.nx (σ.set i (some v)) H) : tAsg te (gName i) D σ H := h _ k
theorem g_ret (h : Vl te σ H v) (k : D.rt v H) : tRet te D σ H := h _ k
theorem g_if {b : Bool} (h : An t σ H b) (h1 : b = true → tz D σ H) (h2 : b = false → tw D σ H) : tIfS t tz tw D σ H := h _ (by
  cases b with
  | true => exact iteT (h1 rfl)
  | false => exact iteF (h2 rfl))
theorem g_app {l : Addr} {xs : List V} (ho : Vl ta σ H (.ref l)) (hl : H l = some (.lst xs)) (h : Vl te σ H v) (hz : xs.length < sizeLine) (k : D.nx σ (upd H l (.lst (xs ++ [v])))) :
    tDrop (tBM K "list" rAppend ta (tCons te tNil)) D σ H := ho _ ⟨.inl ⟨rfl, _, .inl (.inl hl)⟩, h _ ⟨l, xs, v, rfl, rfl, hl, hz, k⟩⟩
theorem at_int {ds : List Int} {k : Int} (h0 : 0 ≤ k) (h1 : k < (ds.length : Int)) : ∃ d, atI (ds.map V.int) k = some (.int d) ∧ ds[k.toNat]? = some d := by
  have hj : k.toNat < ds.length := by omega
  have g : (ds.map V.int)[k.toNat]? = some (.int ds[k.toNat]) := by
    rw [List.getElem?_map, List.getElem?_eq_getElem hj]
    rfl
  have g2 := atI_nat g
  rw [show ((k.toNat : Nat) : Int) = k by omega] at g2
  exact ⟨ds[k.toNat], g2, List.getElem?_eq_getElem hj⟩
/-! ### loops -/
theorem g_forR {j : Nat} {n : Int} (h : Va tr σ H [.int n]) (hn : -(2 ^ 62) ≤ n ∧ n < 2 ^ 62) (Pv : Nat → L2.St → Hp → Prop) (h0 : Pv 0 σ H)
    (hs : ∀ (i : Nat) σ H, (i : Int) < n → Pv i σ H → tz { D with nx := Pv (i + 1), ct := Pv (i + 1), bk := D.nx } (σ.set j (some (.int i))) H) (hd : ∀ σ H, Pv n.toNat σ H → D.nx σ H) :
    tFor (iRng1 tr) (gName j) tz D σ H := h _ ⟨n, rfl, hn.1, hn.2, for_range (lo := 0) (n := n.toNat) Pv h0 (fun i σ H hi p => by
      show tz _ (σ.set j (some (.int (0 + i)))) H
      rw [Int.zero_add]
      exact hs i σ H (by omega) p) hd⟩
theorem g_forR2 {j : Nat} {lo n : Int} (h : Va tr σ H [.int lo, .int n]) (hn : -(2 ^ 62) ≤ lo ∧ lo < 2 ^ 62 ∧ -(2 ^ 62) ≤ n ∧ n < 2 ^ 62) (Pv : Nat → L2.St → Hp → Prop) (h0 : Pv 0 σ H)
    (hs : ∀ (i : Nat) σ H, lo + (i : Int) < n → Pv i σ H → tz { D with nx := Pv (i + 1), ct := Pv (i + 1), bk := D.nx } (σ.set j (some (.int (lo + i)))) H) (hd : ∀ σ H, Pv (n - lo).toNat σ H → D.nx σ H) :
    tFor (iRng2 tr) (gName j) tz D σ H := h _ ⟨lo, n, rfl, hn, for_range (lo := lo) (n := (n - lo).toNat) Pv h0 (fun i σ H hi p => hs i σ H (by omega) p) hd⟩
theorem g_forL {j : Nat} {xs : List V} {tl : TE} (h : Vl tl σ H (.ref a)) (hx : SqL K H a xs) (Pv : Nat → L2.St → Hp → Prop) (h0 : Pv 0 σ H) (hl : ∀ i σ' H', Pv i σ' H' → SqL K H' a xs)
    (hs : ∀ (i : Nat) x σ H, xs[i]? = some x → Pv i σ H → tz { D with nx := Pv (i + 1), ct := Pv (i + 1), bk := D.nx } (σ.set j (some x)) H) (hd : ∀ σ H, Pv xs.length σ H → D.nx σ H) :
    tFor (iList K tl) (gName j) tz D σ H := h _ ⟨a, rfl, ⟨_, hx⟩, for_list (xs := xs) Pv h0 (fun i σ H _ p => hl i σ H p) hs hd⟩
/-- for a, b, there, back in links -/
theorem g_forLnk {j1 j2 j3 j4 : Nat} {Hb : Hp} {xs : List V} {ls : List Lnk} {tl : TE} (h : Vl tl σ H (.ref a)) (hx : SqL K Hb a xs) (hL : DpAll K Hb xs (ls.map lnkD)) (hb : Same Hb H) (Pv : Nat → L2.St → Hp → Prop) (h0 : Pv 0 σ H) (hl : ∀ i σ' H', Pv i σ' H' → Same Hb H')
    (hs : ∀ (i : Nat) l σ H, ls[i]? = some l → Pv i σ H → tz { D with nx := Pv (i + 1), ct := Pv (i + 1), bk := D.nx } ((((σ.set j1 (some (.int l.a))).set j2 (some (.int l.b))).set j3 (some (oV l.t))).set j4 (some (oV l.k))) H) (hd : ∀ σ H, Pv ls.length σ H → D.nx σ H) :
    tFor (iList K tl) (gTup K 4 (gCons (gName j1) (gCons (gName j2) (gCons (gName j3) (gCons (gName j4) gNil))))) tz D σ H := h _ ⟨a, rfl, ⟨_, hb.seq hx⟩, for_list (xs := xs) Pv h0 (fun i σ H _ p => (hl i σ H p).seq hx) (fun i x σ H hi p => by
      have e := DpAll.len hL
      rw [List.length_map] at e
      have hlt : i < xs.length := by
        by_cases hlt : i < xs.length
        · exact hlt
        · rw [List.getElem?_eq_none (by omega)] at hi
          cases hi
      have hg : ls[i]? = some ls[i] := List.getElem?_eq_getElem (by omega)
      obtain ⟨v, hv, dv⟩ := DpAll.get (i := i) (d := lnkD ls[i]) hL (by
        rw [List.getElem?_map, hg]
        rfl)
      cases hi.symm.trans hv
      obtain ⟨t, rfl, ht⟩ := Dp.lnk_inv dv
      exact ⟨t, _, rfl, seqT (hl i σ H p) ht, rfl, _, _, rfl, _, _, rfl, _, _, rfl, _, _, rfl, rfl, hs i _ σ H hg p⟩) (fun σ H p => by
      have e := DpAll.len hL
      rw [List.length_map] at e
      rw [e] at p
      exact hd σ H p)⟩
/-! ### the same with what follows -/
theorem q_asg {i : Nat} (h : Vl te σ H v) (k : tw D (σ.set i (some v)) H) : tSeq (tAsg te (gName i)) tw D σ H := h _ k
theorem q_if {b : Bool} {tu : TS} (h : An t σ H b) (h1 : b = true → tz { D with nx := tw D } σ H) (h2 : b = false → tu { D with nx := tw D } σ H) : tSeq (tIfS t tz tu) tw D σ H := g_if (D := { D with nx := tw D }) h h1 h2
/-- an if without else whose body leaves the def (or the turn) -/
theorem q_when {b : Bool} (h : An t σ H b) (h1 : b = true → tz { D with nx := tw D } σ H) (h2 : b = false → tw D σ H) : tSeq (tIfS t tz tNext) tw D σ H := g_if (D := { D with nx := tw D }) h h1 h2
theorem g_when {b : Bool} (h : An t σ H b) (h1 : b = true → tz D σ H) (h2 : b = false → D.nx σ H) : tIfS t tz tNext D σ H := g_if h h1 h2
theorem q_app {l : Addr} {xs : List V} (ho : Vl ta σ H (.ref l)) (hl : H l = some (.lst xs)) (h : Vl te σ H v) (hz : xs.length < sizeLine) (k : tw D σ (upd H l (.lst (xs ++ [v])))) :
    tSeq (tDrop (tBM K "list" rAppend ta (tCons te tNil))) tw D σ H := g_app (D := { D with nx := tw D }) ho hl h hz k
theorem q_forR {j : Nat} {n : Int} (h : Va tr σ H [.int n]) (hn : -(2 ^ 62) ≤ n ∧ n < 2 ^ 62) (Pv : Nat → L2.St → Hp → Prop) (h0 : Pv 0 σ H)
    (hs : ∀ (i : Nat) σ H, (i : Int) < n → Pv i σ H → tz { D with nx := Pv (i + 1), ct := Pv (i + 1), bk := tw D } (σ.set j (some (.int i))) H) (hd : ∀ σ H, Pv n.toNat σ H → tw D σ H) :
    tSeq (tFor (iRng1 tr) (gName j) tz) tw D σ H := g_forR (D := { D with nx := tw D }) h hn Pv h0 hs hd
theorem q_forR2 {j : Nat} {lo n : Int} (h : Va tr σ H [.int lo, .int n]) (hn : -(2 ^ 62) ≤ lo ∧ lo < 2 ^ 62 ∧ -(2 ^ 62) ≤ n ∧ n < 2 ^ 62) (Pv : Nat → L2.St → Hp → Prop) (h0 : Pv 0 σ H)
    (hs : ∀ (i : Nat) σ H, lo + (i : Int) < n → Pv i σ H → tz { D with nx := Pv (i + 1), ct := Pv (i + 1), bk := tw D } (σ.set j (some (.int (lo + i)))) H) (hd : ∀ σ H, Pv (n - lo).toNat σ H → tw D σ H) :
    tSeq (tFor (iRng2 tr) (gName j) tz) tw D σ H := g_forR2 (D := { D with nx := tw D }) h hn Pv h0 hs hd
theorem q_forL {j : Nat} {xs : List V} {tl : TE} (h : Vl tl σ H (.ref a)) (hx : SqL K H a xs) (Pv : Nat → L2.St → Hp → Prop) (h0 : Pv 0 σ H) (hl : ∀ i σ' H', Pv i σ' H' → SqL K H' a xs)
    (hs : ∀ (i : Nat) x σ H, xs[i]? = some x → Pv i σ H → tz { D with nx := Pv (i + 1), ct := Pv (i + 1), bk := tw D } (σ.set j (some x)) H) (hd : ∀ σ H, Pv xs.length σ H → tw D σ H) :
    tSeq (tFor (iList K tl) (gName j) tz) tw D σ H := g_forL (D := { D with nx := tw D }) h hx Pv h0 hl hs hd
theorem q_forLnk {j1 j2 j3 j4 : Nat} {Hb : Hp} {xs : List V} {ls : List Lnk} {tl : TE} (h : Vl tl σ H (.ref a)) (hx : SqL K Hb a xs) (hL : DpAll K Hb xs (ls.map lnkD)) (hb : Same Hb H) (Pv : Nat → L2.St → Hp → Prop) (h0 : Pv 0 σ H) (hl : ∀ i σ' H', Pv i σ' H' → Same Hb H')
    (hs : ∀ (i : Nat) l σ H, ls[i]? = some l → Pv i σ H → tz { D with nx := Pv (i + 1), ct := Pv (i + 1), bk := tw D } ((((σ.set j1 (some (.int l.a))).set j2 (some (.int l.b))).set j3 (some (oV l.t))).set j4 (some (oV l.k))) H) (hd : ∀ σ H, Pv ls.length σ H → tw D σ H) :
    tSeq (tFor (iList K tl) (gTup K 4 (gCons (gName j1) (gCons (gName j2) (gCons (gName j3) (gCons (gName j4) gNil))))) tz) tw D σ H := g_forLnk (D := { D with nx := tw D }) h hx hL hb Pv h0 hl hs hd
theorem q_asgT2 {i j : Nat} {p : Addr} (h : Vl te σ H (.ref p)) (hp : SqT K H p [x, y]) (k : tw D ((σ.set i (some x)).set j (some y)) H) : tSeq (tAsg te (gTup K 2 (gCons (gName i) (gCons (gName j) gNil)))) tw D σ H :=
  h _ ⟨p, _, rfl, hp, rfl, _, _, rfl, _, _, rfl, rfl, k⟩
theorem q_dnewT {i : Nat} (k : ∀ p, H p = none → tw D (σ.set i (some (.ref p))) (upd H p (.dT []))) : tSeq (tAsg tDNewT (gName i)) tw D σ H := k
theorem q_lnew {i : Nat} (k : ∀ p, H p = none → tw D (σ.set i (some (.ref p))) (upd H p (.lst []))) : tSeq (tAsg (tLst tNil) (gName i)) tw D σ H := ⟨Nat.zero_le _, k⟩
theorem q_dput {td ty : TE} {o : Addr} {kvs : List (List Key × V)} {y1 y2 : Int} (hv : Vl te σ H v) (ho : Vl td σ H (.ref o)) (h1 : Vl ta σ H (.int y1)) (h2 : Vl tb σ H (.int y2)) (hd : H o = some (.dT kvs)) (hl : kvs.length < sizeLine)
    (k : ∀ T, H T = none → o ≠ T → tw D σ (upd (upd H T (.tup [.int y1, .int y2])) o (.dT (putK kvs [.inl y1, .inl y2] v)))) : tSeq (sDPut td (tTup (tCons ta (tCons tb tNil))) te) tw D σ H :=
  hv _ (ho _ (h1 _ (h2 _ ⟨by show 2 ≤ sizeLine; decide, fun T nT => by
    have oT : o ≠ T := ne_of_none hd nT
    exact ⟨o, _, rfl, DPut.t (k := [.inl y1, .inl y2]) (by rw [upd_ne oT]; exact hd) upd_same hl, k T nT oT⟩⟩)))
theorem q_dgetT {i : Nat} {td : TE} {o : Addr} {kvs : List (List Key × V)} {y1 y2 : Int} (ho : Vl td σ H (.ref o)) (h1 : ∀ H, Vl ta σ H (.int y1)) (h2 : ∀ H, Vl tb σ H (.int y2)) (hd : H o = some (.dT kvs))
    (k : ∀ T, H T = none → tw D (σ.set i (some ((valV kvs [.inl y1, .inl y2]).getD .non))) (upd H T (.tup [.int y1, .int y2]))) : tSeq (tAsg (tDGet1 td (tTup (tCons ta (tCons tb tNil)))) (gName i)) tw D σ H :=
  ho _ ⟨o, rfl, .inr ⟨_, .inl hd⟩, h1 _ _ (h2 _ _ ⟨by show 2 ≤ sizeLine; decide, fun T nT => by
    have oT : o ≠ T := ne_of_none hd nT
    exact ⟨_, DGet.t (k := [.inl y1, .inl y2]) (by rw [upd_ne oT]; exact hd) upd_same, k T nT⟩⟩)⟩
theorem q_asgE {i : Nat} (h : te σ H fun v H' => tw D (σ.set i (some v)) H') : tSeq (tAsg te (gName i)) tw D σ H := h
theorem g_asgE {i : Nat} (h : te σ H fun v H' => D.nx (σ.set i (some v)) H') : tAsg te (gName i) D σ H := h
theorem q_cut {M : L2.St → Hp → Prop} (h : tz { D with nx := M } σ H) (k : ∀ σ' H', M σ' H' → tw D σ' H') : Evl.tCut tz tw D σ H := ⟨M, h, k⟩
end
/-! ### defs that may be called by their names -/
structure Df (K : PySem.W.Frag) (mg : Str → Option Value) (x : Str) (st : Stmt) (ps : List Str) : Prop where
  ex : ∃ (f : Addr) (fd : FuncData), Fun K x x st f fd ∧ mg x = some (.ref f) ∧ Binds K fd ps []
structure Kal (P : Program) (w : World) (K : PySem.W.Frag) (mg : Str → Option Value) (base : Heap) (k : Nat) (x : Str) (ps : List Str) (sp : Sp) : Prop where
  ex : ∃ (f : Addr) (fd : FuncData), FnOk P w K mg base CX0 k f fd ps sp ∧ mg x = some (.ref f) ∧ PySem.W.keepIn K (.ref f) = true ∧ Binds K fd ps []
theorem kal_of {P : Program} {w : World} {K : PySem.W.Frag} {mg : Str → Option Value} {base : Heap} {k : Nat} {x : Str} {st : Stmt} {ps : List Str} {sp : Sp} (A : Df K mg x st ps)
    (ok : ∀ f fd, Fun K x x st f fd → FnOk P w K mg base CX0 k f fd ps sp) : Kal P w K mg base k x ps sp := by
  obtain ⟨f, fd, F, g, b⟩ := A.ex
  exact ⟨f, fd, ok f fd F, g, F.kp, b⟩
theorem pe_k {X : Cx} {k j : Nat} {x : Str} {ps : List Str} {sp : Sp} {p pos : Pos} {e : Expr} {es : List Expr} {t : TA} (c : Kal X.prog X.w X.K X.mg X.base k x ps sp) (hr : Room j X.A) (hk : k ≤ j) (hg : Gl X x) (ha : PA X (e :: es) t)
    (hdb : (x == ("__debug__" : Str)) = false := by decide) (he : starEach (e :: es) X.env = (false, eval e X.env) :: starEach es X.env := by rfl) (hpl : (backTo pos (starEach es X.env)).any (·.1) = false := by rfl) :
    PE X (.Call (.Name x p) (e :: es) [] pos) (tCall sp [] E0 t) := by
  obtain ⟨f, fd, F, hm, kp, b⟩ := c.ex
  exact pe_call F (hr.mono hk) hg hm kp b .nil pass0 ha hdb he hpl
/-! ### values that are not told: ints of which P holds -/
def Vi (te : TE) (σ : L2.St) (H : Hp) (P : Int → Prop) : Prop := ∀ Q : VK, (∀ r, P r → Q (.int r) H) → te σ H Q
section
variable {K : PySem.W.Frag} {σ : L2.St} {H : Hp} {i : Nat} {ta tb te : TE} {tr : TA} {D : Ends} {tz tw tu : TS} {P P1 P2 : Int → Prop}
theorem vi_of {n : Int} (h : Vl te σ H (.int n)) : Vi te σ H (fun r => r = n) := fun _ q => h _ (q n rfl)
theorem vi_I0 {g : Int → Int → Int} (ha : Vi ta σ H P1) (hb : Vi tb σ H P2) (h : ∀ p q, P1 p → P2 q → P (g p q)) : Vi (tOp (rI0 fun i j => .int (g i j)) ta tb) σ H P := fun _ k =>
  ha _ fun p hp => hb _ fun q hq => ⟨p, q, rfl, rfl, k _ (h p q hp hq)⟩
theorem vi_call {sp : Sp} {vs : List V} (h : Va tr σ H vs) (hs : ∀ Q E, (∀ r, P r → Q (.int r) H) → sp vs H Q E) : Vi (tCall sp [] E0 tr) σ H P := fun Q q => h _ (by
  show sp (vs ++ []) H Q E0
  rw [List.append_nil]
  exact hs Q E0 q)
theorem vi_mono (h : Vi te σ H P1) (hh : ∀ r, P1 r → P r) : Vi te σ H P := fun Q q => h Q fun r hr => q r (hh r hr)
theorem g_asgI {i : Nat} (h : Vi te σ H P) (k : ∀ r, P r → D.nx (σ.set i (some (.int r))) H) : tAsg te (gName i) D σ H := h _ k
theorem q_asgI {i : Nat} (h : Vi te σ H P) (k : ∀ r, P r → tw D (σ.set i (some (.int r))) H) : tSeq (tAsg te (gName i)) tw D σ H := h _ k
theorem g_retI (h : Vi te σ H P) (k : ∀ r, P r → D.rt (.int r) H) : tRet te D σ H := h _ k
end
local macro_rules
  | `(tactic| walk_at "ev") => `(tactic| repeat' (first
    | exact vl_c | exact vl_var rfl | apply vl_I0 | apply vl_I | apply vl_int1 | apply vl_abs | apply vl_min2 | apply vl_max2 | apply vl_neg | apply vl_chainI
    | apply vl_lenL | apply vl_ixL | apply vl_ixT | apply vl_isN | apply vl_notN | apply vl_eq | apply vl_ne
    | apply an_test | apply an_B | apply an_not
    | exact (show (0 : Int) < _ by decide) | exact (show (0 : Int) < _ ∧ _ < (1073741824 : Int) from ⟨by decide, by decide⟩)))
abbrev sDraws : Stmt := topS 25
theorem scDraws : FnScope ["script", "draws", "k", "rest", "turn", "mixed"] ["script"] (defScope sDraws) := ⟨rfl, rfl, rfl, by decide +kernel, rfl, by decide +kernel, by decide +kernel⟩
structure DrawsOk (m : Nat) (ds : List Int) : Prop where
  len : ds.length ≤ m
  all : ∀ d ∈ ds, 0 ≤ d ∧ d < 65536
theorem DrawsOk.app {m : Nat} {ds : List Int} {d : Int} (h : DrawsOk m ds) (h0 : 0 ≤ d) (h1 : d < 65536) : DrawsOk (m + 1) (ds ++ [d]) where
  len := by
    rw [List.length_append]
    exact Nat.succ_le_succ h.len
  all := fun e he => by
    rcases List.mem_append.mp he with h' | h'
    · exact h.all e h'
    · rw [List.mem_singleton.mp h']
      exact ⟨h0, h1⟩
theorem DrawsOk.mono {m n : Nat} {ds : List Int} (h : DrawsOk m ds) (le : m ≤ n) : DrawsOk n ds := ⟨Nat.le_trans h.len le, h.all⟩
def spDraws (K : PySem.W.Frag) : Sp := fun vs H Q _ => ∃ (a : Addr) (ns : List Int), vs = [.ref a] ∧ SqL K H a (ns.map V.int) ∧ ns.length ≤ 63 ∧
  ∀ H' p ds, Same H H' → H p = none → H' p = some (.lst (ds.map V.int)) → DrawsOk 3780 ds → Q (.ref p) H'
section
variable {P : Program} {w : World} {K : PySem.W.Frag} {mg : Str → Option Value} {base : Heap}
theorem ok_draws {f : Addr} {fd : FuncData} {k : Nat} (F : Fun K "_law_draws" "_law_draws" sDraws f fd) (mr : mg "range" = none) (mm : mg "min" = none) (ml : mg "len" = none) (ma : mg "abs" = none) (mi : mg "int" = none) :
    FnOk P w K mg base CX0 (k + 1) f fd ["script"] (spDraws K) := by
  refine F.ok scDraws (fun vs H Q E h => ?_) (fun cdv A outer s H vs Q E hr h => ?_)
  · obtain ⟨a, ns, rfl, _⟩ := h
    rfl
  · obtain ⟨a, ns, rfl, hS, hlen, q⟩ := h
    refine ⟨_, pss_cons (ps_set (i := 1) scDraws.nd rfl (.inl rfl) (pe_lst pa_nil))
      (pss_cons (ps_for PassesOwn.never rfl (pi_range1 (by rfl) mr (pa_cons (pe_callB (call_min2 rfl) (by rfl) mm (by decide +kernel) (pa_cons pe_int (pa_cons (pe_callB call_len_seq (by rfl) ml PySem.boot_len (pa_cons (pv 0) pa_nil)) pa_nil))) pa_nil)) (pg_name (i := 2) scDraws.nd rfl (.inl rfl))
        (pss_cons (ps_set (i := 3) scDraws.nd rfl (.inl rfl) (pe_callB call_abs (by rfl) ma (by decide +kernel) (pa_cons (pe_ix ix_list (pv 0) (pv 2) (fun _ _ => rfl)) pa_nil)))
        (pss_one (ps_if (pt_cmpR op_ge (pv 3) (pe_op op_pow pe_int pe_int) (nomark _))
          (pss_one (ps_for PassesOwn.never rfl (pi_range1 (by rfl) mr (pa_cons pe_int pa_nil)) (pg_name (i := 4) scDraws.nd rfl (.inl rfl))
            (pss_one (ps_if (pt_cmpR op_gt (pv 3) pe_int (nomark _))
              (pss_cons (ps_expr (pe_bm PySem.F.plainAttrs_list PySem.F.slot_list_append PySem.F.type_list_append mt_append (pv 1) (pa_cons (pe_op op_mod (pe_callTy call_int1 (by rfl) mi (by decide +kernel) (pa_cons (pv 3) pa_nil)) pe_int) pa_nil)))
              (pss_one (ps_set (i := 3) scDraws.nd rfl (.inl rfl) (pe_op op_fdiv (pv 3) pe_int)))) pss_nil))))
          (pss_cons (ps_set (i := 5) scDraws.nd rfl (.inl rfl) (pe_op op_mod (pe_callTy call_int1 (by rfl) mi (by decide +kernel) (pa_cons (pe_op op_add (pe_op op_mul (pv 3) pe_int) (pe_op op_mul (pe_op op_add (pv 2) pe_int) pe_int)) pa_nil)) pe_int))
          (pss_cons (ps_set (i := 5) scDraws.nd rfl (.inl rfl) (pe_op op_mod (pe_callTy call_int1 (by rfl) mi (by decide +kernel) (pa_cons (pe_op op_add (pe_op op_add (pe_op op_mul (pv 5) pe_int) (pe_op op_mul pe_int (pv 2))) pe_int) pa_nil)) pe_int))
          (pss_cons (ps_expr (pe_bm PySem.F.plainAttrs_list PySem.F.slot_list_append PySem.F.type_list_append mt_append (pv 1) (pa_cons (pe_op op_mod (pe_callTy call_int1 (by rfl) mi (by decide +kernel) (pa_cons (pv 5) pa_nil)) pe_int) pa_nil)))
          (pss_one (ps_expr (pe_bm PySem.F.plainAttrs_list PySem.F.slot_list_append PySem.F.type_list_append mt_append (pv 1) (pa_cons (pe_op op_mod (pe_callTy call_int1 (by rfl) mi (by decide +kernel) (pa_cons (pe_op op_fdiv (pv 5) pe_int) pa_nil)) pe_int) pa_nil)))))))))))
      (pss_one (ps_ret (pv 1)))), ?_⟩
    -- draws = []
    refine ⟨Nat.zero_le _, fun o no => ?_⟩
    have s1 : Same H (upd H o (.lst [])) := same_upd no
    have hS1 := s1.seq hS
    refine (q_forR (n := if (ns.length : Int) < 63 then (ns.length : Int) else 63) (va_cons (vl_min2 vl_c ((vl_lenL (vl_var rfl) hS1).is (by rw [List.length_map]))) va_nil) ⟨by split <;> omega, by split <;> omega⟩
      (fun i σ H3 => ∃ y2 y3 y4 y5 ds, σ = [some (.ref a), some (.ref o), y2, y3, y4, y5] ∧ Same H H3 ∧ H3 o = some (.lst (ds.map V.int)) ∧ DrawsOk (60 * i) ds)
      ⟨none, none, none, none, [], rfl, s1, upd_same, Nat.zero_le _, fun _ h => by cases h⟩ (fun i σ H3 hi hP => ?_) (fun σ H3 hP => ?_))
    · obtain ⟨y2, y3, y4, y5, ds, rfl, sm, ho, hd⟩ := hP
      have hi2 : i < ns.length := by
        split at hi <;> omega
      have hA := sm.seq hS
      have g1 : (ns.map V.int)[i]? = some (.int ns[i]) := by
        rw [List.getElem?_map, List.getElem?_eq_getElem hi2]
        rfl
      -- rest = abs(script[k])
      refine (q_asg (v := .int (if ns[i] < 0 then -ns[i] else ns[i])) (vl_abs (vl_ixL (vl_var rfl) (vl_var rfl) hA (atI_nat g1))) ?_)
      generalize hr0 : (if ns[i] < 0 then -ns[i] else ns[i]) = r
      have hr1 : 0 ≤ r := by
        rw [← hr0]
        split <;> omega
      refine g_if (b := decide ((10 : Int) ^ (18 : Int).toNat ≤ r)) (by exact an_test (vl_I0 (vl_var rfl) (vl_I vl_c vl_c ⟨by decide, by decide, by decide⟩))) (fun _ => ?_) (fun hlt => ?_)
      · refine g_forR (n := 60) (va_cons vl_c va_nil) ⟨by decide, by decide⟩
          (fun j σ H4 => ∃ y4 r ds', σ = [some (.ref a), some (.ref o), some (.int i), some (.int r), y4, y5] ∧ Same H H4 ∧ H4 o = some (.lst (ds'.map V.int)) ∧ DrawsOk (60 * i + j) ds')
          ⟨y4, r, ds, rfl, sm, ho, hd⟩ (fun j σ H4 hj hP => ?_) (fun σ H4 hP => ?_)
        · obtain ⟨z4, r', ds', rfl, sm', ho', hd'⟩ := hP
          refine g_if (by walk_at "ev") (fun _ => ?_) (fun _ => ?_)
          · have h0 : 0 ≤ r' % 65536 := Int.emod_nonneg _ (by decide)
            have h1 : r' % 65536 < 65536 := Int.emod_lt_of_pos _ (by decide)
            refine (q_app (vl_var rfl) ho' (v := .int (r' % 65536)) (by walk_at "ev") ?_ ?_)
            · rw [List.length_map]
              have := hd'.len
              exact Nat.lt_of_le_of_lt this (Nat.lt_of_le_of_lt (show 60 * i + j ≤ 10000 by omega) (by decide))
            · refine g_asg (v := .int (r' / 65536)) (by walk_at "ev") ?_
              refine ⟨_, _, ds' ++ [r' % 65536], rfl, same_upd' sm' no, ?_, hd'.app h0 h1⟩
              rw [upd_same, List.map_append]
              rfl
          · exact ⟨_, _, ds', rfl, sm', ho', hd'.mono (Nat.le_succ _)⟩
        · obtain ⟨z4, r', ds', rfl, sm', ho', hd'⟩ := hP
          exact ⟨_, _, _, _, ds', rfl, sm', ho', hd'⟩
      · have hlt : r < 1000000000000000000 := by
          have := of_decide_eq_false hlt
          have e : (10 : Int) ^ (18 : Int).toNat = 1000000000000000000 := by decide
          omega
        refine (q_asg (v := .int ((r * 48271 + ((i : Int) + 1) * 69621) % 2147483647)) (by walk_at "ev"; exact .inl ⟨by omega, by omega⟩; exact .inl ⟨by omega, by omega⟩) ?_)
        generalize hm : (r * 48271 + ((i : Int) + 1) * 69621) % 2147483647 = m
        have hm0 : 0 ≤ m := by
          rw [← hm]
          exact Int.emod_nonneg _ (by decide)
        have hm1 : m < 2147483647 := by
          rw [← hm]
          exact Int.emod_lt_of_pos _ (by decide)
        refine (q_asg (v := .int ((m * 16807 + 11 * (i : Int) + 5) % 2147483629)) (by walk_at "ev"; exact .inl ⟨by omega, by omega⟩; exact .inl ⟨by decide, by decide⟩) ?_)
        generalize (m * 16807 + 11 * (i : Int) + 5) % 2147483629 = m2
        have h0 : 0 ≤ m2 % 65536 := Int.emod_nonneg _ (by decide)
        have h1 : m2 % 65536 < 65536 := Int.emod_lt_of_pos _ (by decide)
        have h2 : 0 ≤ (m2 / 65536) % 32768 := Int.emod_nonneg _ (by decide)
        have h3 : (m2 / 65536) % 32768 < 65536 := Int.lt_trans (Int.emod_lt_of_pos _ (by decide)) (by decide)
        have hl := hd.len
        refine (q_app (vl_var rfl) ho (v := .int (m2 % 65536)) (by walk_at "ev") ?_ ?_)
        · rw [List.length_map]
          exact Nat.lt_of_le_of_lt (show ds.length ≤ 10000 by omega) (by decide)
        · refine g_app (vl_var rfl) upd_same (v := .int ((m2 / 65536) % 32768)) (by walk_at "ev") ?_ ?_
          · rw [List.length_append, List.length_map]
            exact Nat.lt_of_le_of_lt (show ds.length + 1 ≤ 10000 by omega) (by decide)
          · refine ⟨_, _, _, _, (ds ++ [m2 % 65536]) ++ [(m2 / 65536) % 32768], rfl, same_upd' (same_upd' sm no) no, ?_, ((hd.app h0 h1).app h2 h3).mono (by omega)⟩
            rw [upd_same, List.map_append, List.map_append]
            rfl
    · obtain ⟨y2, y3, y4, y5, ds, rfl, sm, ho, hd⟩ := hP
      refine g_ret (vl_var rfl) (q H3 o ds sm no ho (hd.mono ?_))
      split <;> omega
end
abbrev sAt : Stmt := topS 26
abbrev sIsI : Stmt := topS 27
theorem scAt : FnScope ["draws", "k", "many"] ["draws", "k", "many"] (defScope sAt) := ⟨rfl, rfl, rfl, by decide +kernel, rfl, by decide +kernel, by decide +kernel⟩
theorem scIsI : FnScope ["actual"] ["actual"] (defScope sIsI) := ⟨rfl, rfl, rfl, by decide +kernel, rfl, by decide +kernel, by decide +kernel⟩
local macro_rules
  | `(tactic| walk_at "ev") => `(tactic| repeat' (first
    | exact vl_c | exact vl_var rfl | apply vl_I0 | apply vl_I | apply vl_int1 | apply vl_abs | apply vl_min2 | apply vl_max2 | apply vl_neg | apply vl_chainI
    | apply vl_lenL | apply vl_ixL | apply vl_ixT | apply vl_isN | apply vl_notN | apply vl_eq | apply vl_ne
    | apply an_test | apply an_B | apply an_not
    | exact (show (0 : Int) < _ by decide) | exact (show (0 : Int) < _ ∧ _ < (1073741824 : Int) from ⟨by decide, by decide⟩)))
/-- an int in [0, m) for draws, k, m -/
def spAt (K : PySem.W.Frag) : Sp := fun vs H Q _ => ∃ (a : Addr) (ds : List Int) (k m : Int), vs = [.ref a, .int k, .int m] ∧ SqL K H a (ds.map V.int) ∧ 0 ≤ k ∧ 0 < m ∧ ∀ r, 0 ≤ r ∧ r < m → Q (.int r) H
def spIsI : Sp := fun vs H Q _ => ∃ i : Int, vs = [.int i] ∧ Q (.bl true) H
section
variable {P : Program} {w : World} {K : PySem.W.Frag} {mg : Str → Option Value} {base : Heap}
theorem ok_isI {f : Addr} {fd : FuncData} {k : Nat} (F : Fun K "_law_is_integer" "_law_is_integer" sIsI f fd) (ms : mg "isinstance" = none) (mi : mg "int" = none) (mb : mg "bool" = none) :
    FnOk P w K mg base CX0 (k + 1) f fd ["actual"] spIsI := by
  refine F.ok scIsI (fun vs H Q E h => ?_) (fun cdv A outer s H vs Q E hr h => ?_)
  · obtain ⟨i, rfl, _⟩ := h
    rfl
  · obtain ⟨i, rfl, q⟩ := h
    refine ⟨_, pss_one (ps_ret (pe_and (pe_callB call_isi (by rfl) ms (by decide +kernel) (pa_cons (pv 0) (pa_cons (pe_bltn (v := .ty "int") (by rfl) mi (by decide +kernel) rfl) pa_nil)))
      (pe_one (pe_not (pe_callB call_isi (by rfl) ms (by decide +kernel) (pa_cons (pv 0) (pa_cons (pe_bltn (v := .ty "bool") (by rfl) mb (by decide +kernel) rfl) pa_nil))))))), ?_⟩
    refine ⟨.int i, rfl, .int i, .ty "int", .type "int", .type "int", true, rfl, .ty _, .base (.int _), kit_ty (by decide +kernel), true, rfl, iteT ?_⟩
    exact ⟨.int i, rfl, .int i, .ty "bool", .type "int", .type "bool", false, rfl, .ty _, .base (.int _), kit_ty (by decide +kernel), false, rfl, q⟩
theorem ok_at {f : Addr} {fd : FuncData} {k : Nat} (F : Fun K "_law_at" "_law_at" sAt f fd) (ml : mg "len" = none) (mi : mg "int" = none) :
    FnOk P w K mg base CX0 (k + 1) f fd ["draws", "k", "many"] (spAt K) := by
  refine F.ok scAt (fun vs H Q E h => ?_) (fun cdv A outer s H vs Q E hr h => ?_)
  · obtain ⟨a, ds, k, m, rfl, _⟩ := h
    rfl
  · obtain ⟨a, ds, k, m, rfl, hS, hk, hm, q⟩ := h
    refine ⟨_, pss_cons (ps_if (pt_cmpR op_lt (pv 1) (pe_callB call_len_seq (by rfl) ml PySem.boot_len (pa_cons (pv 0) pa_nil)) (nomark _))
        (pss_one (ps_ret (pe_op op_mod (pe_callTy call_int1 (by rfl) mi (by decide +kernel) (pa_cons (pe_ix ix_list (pv 0) (pv 1) (fun _ _ => rfl)) pa_nil)) (pv 2)))) pss_nil)
      (pss_one (ps_ret pe_int)), ?_⟩
    refine q_when (b := decide (k < (ds.length : Int))) (by exact an_test (vl_I0 (vl_var rfl) ((vl_lenL (vl_var rfl) hS).is (by rw [List.length_map])))) (fun hb => ?_) (fun _ => ?_)
    · have hb := of_decide_eq_true hb
      obtain ⟨d, g', _⟩ := at_int hk hb
      refine g_ret (v := .int (d % m)) ?_ (q _ ⟨Int.emod_nonneg _ (by omega), Int.emod_lt_of_pos _ hm⟩)
      exact vl_I (vl_int1 (vl_ixL (vl_var rfl) (vl_var rfl) hS g')) (vl_var rfl) hm
    · exact g_ret vl_c (q 0 ⟨by omega, by omega⟩)
end
def PriceOk (o : Option Int) : Prop := ∀ x, o = some x → 1 ≤ x ∧ x ≤ 1000000
structure LnkOk (n : Int) (l : Lnk) : Prop where
  a0 : 0 ≤ l.a
  ab : l.a < l.b
  bn : l.b < n
  t : PriceOk l.t
  k : PriceOk l.k
def LnkLt (x y : Lnk) : Prop := x.a < y.a ∨ (x.a = y.a ∧ x.b < y.b)
structure NetOk (N : Net) : Prop where
  n1 : 1 ≤ N.n
  n40 : N.n ≤ 40
  ok : ∀ l ∈ N.ls, LnkOk N.n l
  lt : N.ls.Pairwise LnkLt
  len : N.ls.length ≤ 1600
/-- a net that stands in H by itself -/
def NetAt (K : PySem.W.Frag) (H : Hp) (v : V) (N : Net) : Prop := ∃ p q xs, v = .ref p ∧ H p = some (.tup [.int N.n, .ref q]) ∧ H q = some (.lst xs) ∧ DpAll K H xs (N.ls.map lnkD)
theorem NetAt.dp {K : PySem.W.Frag} {H : Hp} {v : V} {N : Net} (h : NetAt K H v N) : Dp K H v (netD N) := by
  obtain ⟨p, q, xs, rfl, hp, hq, hx⟩ := h
  exact Dp.net (.of hp) (.of hq) hx
theorem NetAt.to {K : PySem.W.Frag} {H H' : Hp} {v : V} {N : Net} (h : NetAt K H v N) (s : Same H H') : NetAt K H' v N := by
  obtain ⟨p, q, xs, rfl, hp, hq, hx⟩ := h
  exact ⟨p, q, xs, rfl, s _ _ hp, s _ _ hq, DpAll.to hx s⟩
def spPrice (K : PySem.W.Frag) : Sp := fun vs H Q _ => ∃ (a : Addr) (ds : List Int) (k : Int), vs = [.ref a, .int k] ∧ SqL K H a (ds.map V.int) ∧ 0 ≤ k ∧ ∀ H' o, Same H H' → PriceOk o → Q (oV o) H'
def spNet (K : PySem.W.Frag) : Sp := fun vs H Q _ => ∃ (a : Addr) (ds : List Int) (k m : Int), vs = [.ref a, .int k, .int m] ∧ SqL K H a (ds.map V.int) ∧ 0 ≤ k ∧ 1 ≤ m ∧ m ≤ 40 ∧
  ∀ H' v N, Same H H' → NetAt K H' v N → NetOk N → N.n ≤ m → Q v H'
section
variable {P : Program} {w : World} {K : PySem.W.Frag} {mg : Str → Option Value} {base : Heap}
end
/-- the links made so far: all of them before (i, c) -/
structure LsAt (n i c : Int) (ls : List Lnk) : Prop where
  ok : ∀ l ∈ ls, LnkOk n l
  to : ∀ l ∈ ls, l.a < i ∨ (l.a = i ∧ l.b < c)
  lt : ls.Pairwise LnkLt
theorem LsAt.nil {n i c : Int} : LsAt n i c [] := ⟨fun _ h => (nomatch h), fun _ h => (nomatch h), .nil⟩
theorem LsAt.mono {n i c i' c' : Int} {ls : List Lnk} (h : LsAt n i c ls) (e : i < i' ∨ (i = i' ∧ c ≤ c')) : LsAt n i' c' ls :=
  ⟨h.ok, fun l hl => by
    have := h.to l hl
    omega, h.lt⟩
theorem LsAt.app {n i c : Int} {ls : List Lnk} {t k : Option Int} (h : LsAt n i c ls) (h0 : 0 ≤ i) (h1 : i < c) (h2 : c < n) (ht : PriceOk t) (hk : PriceOk k) : LsAt n i (c + 1) (ls ++ [⟨i, c, t, k⟩]) where
  ok := fun l hl => by
    rcases List.mem_append.mp hl with h' | h'
    · exact h.ok l h'
    · rw [List.mem_singleton.mp h']
      exact ⟨h0, h1, h2, ht, hk⟩
  to := fun l hl => by
    rcases List.mem_append.mp hl with h' | h'
    · have := h.to l h'
      omega
    · rw [List.mem_singleton.mp h']
      exact .inr ⟨rfl, Int.lt_succ c⟩
  lt := List.pairwise_append.mpr ⟨h.lt, List.pairwise_singleton _ _, fun x hx y hy => by
    rw [List.mem_singleton.mp hy]
    exact h.to x hx⟩
section
variable {P : Program} {w : World} {K : PySem.W.Frag} {mg : Str → Option Value} {base : Heap}
end
/-! ### data that is the same is equal -/
theorem lay_o : ∀ o : Option Int, (oD o).canLay0 = true ∧ (oD o).depth = 0
  | none => ⟨rfl, rfl⟩
  | some _ => ⟨rfl, rfl⟩
theorem lay_lnks : ∀ ls : List Lnk, PyData.canLayAll0 (ls.map lnkD) = true ∧ PyData.depthAll (ls.map lnkD) ≤ 1
  | [] => ⟨rfl, Nat.zero_le _⟩
  | l :: ls => by
    have h1 := lay_o l.t
    have h2 := lay_o l.k
    have ih := lay_lnks ls
    constructor
    · show (((true && (true && ((oD l.t).canLay0 && ((oD l.k).canLay0 && true)))) && PyData.canLayAll0 (ls.map lnkD)) = true)
      rw [h1.1, h2.1, ih.1]
      rfl
    · show max (max 0 (max 0 (max (oD l.t).depth (max (oD l.k).depth 0))) + 1) (PyData.depthAll (ls.map lnkD)) ≤ 1
      rw [h1.2, h2.2]
      have := ih.2
      simp only [Nat.max_self, Nat.zero_add]
      omega
theorem shaped_net (N : Net) : SeqAt.shaped (netD N) = true := by
  have h := lay_lnks N.ls
  show ((true && (PyData.canLayAll0 (N.ls.map lnkD) && true)) && decide (max 0 (max (PyData.depthAll (N.ls.map lnkD) + 1) 0) + 1 ≤ 64)) = true
  rw [h.1, decide_eq_true (show max 0 (max (PyData.depthAll (N.ls.map lnkD) + 1) 0) + 1 ≤ 64 by
    have := h.2
    omega)]
  rfl
theorem eqv_net (N : Net) : PyData.eqv (netD N) (netD N) = true := SeqAt.eqv_refl _ (Bool.and_eq_true_iff.mp (shaped_net N)).1
/-! ### new lists -/
def Vn (te : TE) (σ : L2.St) (H : Hp) (xs : List V) : Prop := ∀ Q : VK, (∀ p H', Same H H' → H p = none → H' p = some (.lst xs) → Q (.ref p) H') → te σ H Q
section
variable {K : PySem.W.Frag} {σ : L2.St} {H : Hp} {ta tb te : TE} {tr : TA} {xs ys : List V} {a : Addr} {D : Ends} {tw : TS}
theorem vn_lst (h : Va tr σ H xs) (hz : xs.length ≤ sizeLine) : Vn (tLst tr) σ H xs := fun Q q => h _ ⟨hz, fun p np => q p _ (same_upd np) np upd_same⟩
theorem vn_slice {tl th : TO} {lo hi : Option Int} (h : Vl te σ H (.ref a)) (hl : ∀ Q : Option Int → Hp → Prop, Q lo H → tl σ H Q) (hh : ∀ Q : Option Int → Hp → Prop, Q hi H → th σ H Q) (hx : SqL K H a xs) : Vn (tSl (rSlL K) te tl th) σ H (cutV xs lo hi) := fun Q q =>
  h _ (hl _ (hh _ ⟨a, xs, rfl, hx, fun p np => q p _ (same_upd np) np upd_same⟩))
theorem vn_rev (h : Vl te σ H (.ref a)) (hx : SqL K H a xs) : Vn (tRevL K te) σ H xs.reverse := fun Q q => h _ ⟨a, xs, rfl, hx, fun p np => q p _ (same_upd np) np upd_same⟩
theorem vn_cat (ha : Vn ta σ H xs) (hb : ∀ H', Same H H' → Vn tb σ H' ys) (hz : xs.length + ys.length ≤ sizeLine) : Vn (tOp rCat ta tb) σ H (xs ++ ys) := fun Q q => ha _ fun p H1 s1 np hp => hb H1 s1 _ fun r H2 s2 nr hr =>
  ⟨p, r, xs, ys, rfl, rfl, s2 _ _ hp, hr, hz, fun t nt => q t _ ((s1.trans s2).trans (same_upd nt)) (Same.free (s1.trans s2) nt) upd_same⟩
theorem vn_listOf (h : Vl te σ H (.ref a)) (hx : SqL K H a xs) : Vn (tCB (fun xs H Q => ∃ p ys, xs = [V.ref p] ∧ (SqL K H p ys ∨ SqT K H p ys) ∧ ∀ l, H l = none → Q (V.ref l) (upd H l (.lst ys))) (tCons te tNil)) σ H xs := fun Q q =>
  h _ ⟨a, xs, rfl, .inl hx, fun p np => q p _ (same_upd np) np upd_same⟩
theorem q_asgN {i : Nat} (h : Vn te σ H xs) (k : ∀ p H', Same H H' → H p = none → H' p = some (.lst xs) → tw D (σ.set i (some (.ref p))) H') : tSeq (tAsg te (gName i)) tw D σ H := h _ k
end
theorem cut_to {xs : List V} {n : Nat} (h : n ≤ xs.length) : cutV xs none (some (n : Int)) = xs.take n := by
  unfold cutV
  rw [HT.sIx_none, HT.sIx_nat, Nat.min_eq_left h, Nat.sub_zero, List.drop_zero]
theorem cut_from {xs : List V} {n : Nat} (h : n ≤ xs.length) : cutV xs (some (n : Int)) none = xs.drop n := by
  unfold cutV
  rw [HT.sIx_none, HT.sIx_nat, Nat.min_eq_left h]
  exact List.take_of_length_le (by rw [List.length_drop]; exact Nat.le_refl _)
/-- lists of lists of ints -/
theorem Dp.ints {K : PySem.W.Frag} {H : Hp} {p : Addr} {ns : List Int} (h : SqL K H p (ns.map V.int)) : Dp K H (.ref p) (.list (ns.map PyData.int)) := .lst h (DpAll.ints ns)
theorem Dp.ints_inv {K : PySem.W.Frag} {H : Hp} {v : V} {ns : List Int} (h : Dp K H v (.list (ns.map PyData.int))) : ∃ p, v = .ref p ∧ SqL K H p (ns.map V.int) := by
  obtain ⟨a, xs, rfl, hs, ha⟩ := Dp.lst_inv h
  rw [DpAll.ints_inv ha] at hs
  exact ⟨a, rfl, hs⟩
end Ovc
namespace PySem
namespace LowX
open PySem.W PySem.Calls PyProof.Rows PySem.HandSPX
/-! ### the text of __init__ -/
def iA (p1 p2 : Pos) : Arguments := { posonlyargs := [], args := [{ arg := "self", annotation := none, pos := p1 }, { arg := "at", annotation := none, pos := p2 }], vararg := none, kwonlyargs := [], kw_defaults := [], kwarg := none, defaults := [] }
def iB (q1 q2 q3 q4 : Pos) : List Stmt := [.Assign [.Attribute (.Name "self" q1) "at" q2] (.Name "at" q3) q4]
def iS : Scope := { kind := .function, names := [(PySem.Str.ofString "self", .local), (PySem.Str.ofString "at", .local)], isGenerator := false, isCoroutine := false, more := [] }
/-- what the written part says of Low, at C, and of its __init__, at fI -/
structure LowTxt (K : Frag) (mg : Str → Option Value) (xN : Str) (C fI : Addr) : Prop where
  gC : mg xN = some (.ref C)
  cls : ∃ nm q N bs bm sn sub ab col dd k0 k1 k2 k3 k5, K.lookup C = some (excClassObj nm q C N bs bm true sn sub ab col dd k0 k1 k2 k3 k5 "ValueError.__new__") ∧ refsVE bm = true
  sa : findIn K (.ref C) "__setattr__" = some (some (.builtin "object.__setattr__"))
  ga : findIn K (.ref C) "__getattribute__" = some (some (.builtin "BaseException.__getattribute__"))
  gg : findIn K (.ref C) "__getattr__" = some none
  noN : findIn K (.ref C) "at" = some none
  iC : findIn K (.ref C) "__init__" = some (some (.ref fI))
  tC : typeIn K (.ref fI) = some (.type "function")
  kC : keepIn K (.ref C) = true
  exC : subIn K (.ref C) (.type "BaseException") = some true
  tyC : typeIn K (.ref C) = some (.type "type")
  hdC : hasDictIn K C = true
  te : exmOne K (.ref C) (.ref C) = some true
  fn : ∃ (oc : Value) (od : Option Addr) (doc pm : Value) (an : Option Addr) (cdv ct : Value) (osl : Array (Option Value)) (p1 p2 q1 q2 q3 q4 : Pos),
    K.lookup fI = some ⟨oc, od, .func (fnOf "__init__" "OverpassesError.__init__" (iA p1 p2) (iB q1 q2 q3 q4) iS .none .none doc pm an cdv ct), osl⟩ ∧ codeIn K cdv "OverpassesError.__init__" = true
theorem one_size (v : Value) : [v].length ≤ sizeLine := by
  rw [sizeLine_eq]
  exact (by decide : 1 ≤ 16777216)
theorem kept_but {K : Frag} {h h' : Heap} {x : Addr} (X : K.In h) (hx : K.lookup x = none) (k : ∀ b o, b ≠ x → h.get? b = some o → h'.get? b = some o) : K.In h' := fun a o e =>
  k a o (fun z => by rw [z, hx] at e; cases e) (X a o e)
theorem ldC {M : Model} {s : Shared} {name : Str} {scope : Scope} {L a : Addr} {cd : Value} {m : Str → Option Value} {x : Str} {pos : Pos} {v : Value} {Q : Value → Shared → Prop} {A : Around} {E : Value → Shared → Prop} (hn : s.heap.Ns L m) (hv : m x = some v) (h : Q v s)
    (hk : scope.kind = .function := by rfl) (hl : (envOfC name scope L a cd).kindOf x = some .local := by rfl) (hd : (x == ("__debug__" : Str)) = false := by decide) :
    wpAny M A (eval (.Name x pos) (envOfC name scope L a cd)) Q E s := wpAny_Name (wpAny_loadName_local hk hl hn hv h) hd
/-- what __init__ leaves of a fresh exception at x -/
structure InitEnd (h h' : Heap) (x C dx t1 : Addr) (v : Value) : Prop where
  keep : ∀ b o, b ≠ x → h.get? b = some o → h'.get? b = some o
  obj : h'.get? x = some { cls := .ref C, dict := some dx, data := .fields #[.ref t1, .none, .none, .none, .bool false, .none] }
  dbig : h.objs.size ≤ dx
  dne : dx ≠ x
  ns : h'.Ns1 dx (fun y => if y = "at" then some v else none)
/-- a made Low -/
structure OwnMade (h h' : Heap) (e C d : Addr) (v : Value) : Prop where
  keep : ∀ b o, h.get? b = some o → h'.get? b = some o
  new : h.objs.size ≤ e
  obj : ∃ oe vs, h'.get? e = some oe ∧ oe.cls = .ref C ∧ oe.dict = some d ∧ oe.data = .fields vs ∧ vs[1]? = some .none
  dbig : h.objs.size ≤ d
  dne : d ≠ e
  ns : h'.Ns1 d (fun y => if y = "at" then some v else none)
section
variable {prog : Program} {w : World} {A : Around} {E : Value → Shared → Prop} {R : Result → Shared → Prop} {s : Shared} {K : Frag} {mg : Str → Option Value} {xN : Str} {C fI : Addr}
theorem low_init (T : LowTxt K mg xN C fI) {x t0 : Addr} {v : Value} (X : K.In s.heap) (hlim : s.heap.NoLimit) (hx : s.heap.get? x = some (excO C t0)) (hnx : K.lookup x = none) (hroom : A.depth < recursionLimit)
    (hq : ∀ h' tk dx, InitEnd s.heap h' x C dx t0 v → R (.ok (.ret .none)) { s with heap := h', toks := tk }) :
    codeAny (model prog w) A (.call (.ref fI) ⟨[.ref x, v], []⟩) R s := by
  obtain ⟨oc, od, doc, pm, an, cdv, ct, osl, p1, p2, q1, q2, q3, q4, ho, hcd⟩ := T.fn
  obtain ⟨nm, q, N, bs, bm, sn, sub, ab, col, dd, k0, k1, k2, k3, k5, hC, hbm⟩ := T.cls
  have hcl : clsIn K C = some { name := nm, bases := bs, mro := .ref C :: bm, ns := N, qualname := q, hasDict := true, slotNames := sn, subclasses := sub, abstract := ab, collection := col, hasDel := false } := by unfold clsIn; rw [hC] <;> rfl
  refine Att.call_fn (binds := [("self", .ref x), ("at", v)]) X hlim ho hcd hroom (BindsTo.of_eq (by first | rfl | with_unfolding_all rfl)) (by first | rfl | decide | with_unfolding_all rfl) (fun s₁ IC => ?_) rfl rfl rfl
  obtain ⟨h₁, tk₁, rfl⟩ := IC.toInCall.same
  have k : ∀ b o, s.heap.get? b = some o → h₁.get? b = some o := IC.toInCall.keep
  have hn := IC.toInCall.ns
  have hxL : s.heap.objs.size ≠ x := Nat.ne_of_gt (Heap.lt_size hx)
  have X₁ : K.In h₁ := X.keeps k
  have hx₁ := k _ _ hx
  -- self.by = by
  show wpAny _ _ (execs _ _) _ _ _
  refine wpAny_execs_cons (plainObj_wpAny_Assign_Attribute ?_)
  refine ldC (v := v) hn (by first | rfl | with_unfolding_all rfl | kernel_rfl) (ldC (v := .ref x) hn (by first | rfl | with_unfolding_all rfl | kernel_rfl) ?_)
  refine set_plain X₁ (ox := excO C t0) (od := none) ⟨hx₁, rfl, rfl, trivial⟩ T.sa ?_
  refine exc_osa X₁ hx₁ hcl (show refsVE (.ref C :: bm) = true from hbm) rfl T.noN (fun h₃ tk₃ dx k₃ dn dne hx₃ hn₃ => ?_)
  show wpAny _ _ (execs _ _) _ _ _
  have z : s.heap.objs.size < h₁.objs.size := hn.lt
  exact wpAny_execs_nil (hq h₃ tk₃ dx ⟨fun b o hb e => k₃ b o hb (k b o e), hx₃, Nat.le_of_lt (Nat.lt_of_lt_of_le z dn), dne, hn₃⟩)
theorem low_made (T : LowTxt K mg xN C fI) {v : Value} (X : K.In s.heap) (hlim : s.heap.NoLimit) (hroom : A.depth + 1 < recursionLimit)
    (hq : ∀ h' tk e d, OwnMade s.heap h' e C d v → R (.ok (.ret (.ref e))) { s with heap := h', toks := tk }) :
    codeAny (model prog w) A (.call (.ref C) ⟨[v], []⟩) R s := by
  obtain ⟨nm, q, N, bs, bm, sn, sub, ab, col, dd, k0, k1, k2, k3, k5, hC, hbm⟩ := T.cls
  obtain ⟨hp, g, dr, tk, os⟩ := s
  have k : ∀ b o, hp.get? b = some o → ((hp.push (kdv_tup [v])).push (excO C hp.objs.size)).get? b = some o := fun b o e => Heap.get?_push_of_some _ (Heap.get?_push_of_some _ e)
  have hget : ((hp.push (kdv_tup [v])).push (excO C hp.objs.size)).get? (hp.objs.size + 1) = some (excO C hp.objs.size) := by heap_get
  have hnx : K.lookup (hp.objs.size + 1) = none := by
    cases e : K.lookup (hp.objs.size + 1) with
    | none => rfl
    | some o =>
      have z : hp.get? (hp.objs.size + 1) = some o := X _ _ e
      exact absurd (Nat.lt_of_succ_lt (Heap.lt_size z)) (Nat.lt_irrefl _)
  refine call_own F.excBase_ValueError (fun X => refsVE_contains X bm hbm) (X _ _ hC) (looks_findIn X T.iC) (fun self => bind_fn X self T.tC) (one_size v) ?_
  refine low_init (s := ⟨(hp.push (kdv_tup [v])).push (excO C hp.objs.size), g, dr, tk, os⟩) T (X.keeps k) (hlim.keeps k) hget hnx ?_ fun h' tk' dx ⟨k', hx, dn, dne, hns⟩ => ?_
  · show A.depth + 1 < recursionLimit
    exact hroom
  · have old : ∀ b o, hp.get? b = some o → h'.get? b = some o := fun b o e => k' b o (Nat.ne_of_lt (Nat.lt_succ_of_lt (Heap.lt_size e))) (k b o e)
    have z : hp.objs.size + 1 + 1 ≤ dx := by
      first
        | (simpa only [Heap.size_push] using dn)
        | exact dn
        | (have q := dn; rw [Heap.size_push, Heap.size_push] at q; exact q)
    exact ⟨rfl, hq h' tk' (hp.objs.size + 1) dx ⟨old, Nat.le_succ _, ⟨_, _, hx, rfl, rfl, rfl, rfl⟩, Nat.le_trans (Nat.le_trans (Nat.le_succ _) (Nat.le_succ _)) z, dne, hns⟩⟩
end
end LowX
end PySem
namespace L2
open PySem PySem.Spec PyProof.Rows
theorem relO_low {v : V} {v' : Value} (r : RelV v v') (f : Str) : RelO (List.lookup f [(("at" : Str), v)]) (if f = "at" then some v' else none) := by
  by_cases hw : f = "at"
  · subst hw
    rw [if_pos rfl]
    have q : List.lookup ("at" : Str) [(("at" : Str), v)] = some v := by simp [List.lookup]
    rw [q]
    exact r
  · rw [if_neg hw]
    have qw : (f == ("at" : Str)) = false := by simpa using hw
    have q2 : List.lookup f [(("at" : Str), v)] = none := by simp [List.lookup, qw]
    rw [q2]
    trivial
section
variable {X : Cx} {xN : Str} {C fI : Addr}
/-- Low(e) -/
def tMkLow (C : Addr) (ta : TA) : St → Hp → XK → Prop := fun σ H Q => ta σ H fun vs H1 => ∃ v, vs = [v] ∧ ∀ d, H1 d = none → Q (.ref C) (some d) (upd H1 d (.xd [(("at" : Str), v)]))
theorem pmk_low {a : Expr} {ta : TA} {p pos : Pos} {k : Nat} (T : PySem.LowX.LowTxt X.K X.mg xN C fI) (hr : Room k X.A) (ha : PA X [a] ta) (hg : Gl X xN := by rfl) (hdb : (xN == ("__debug__" : Str)) = false := by decide)
    (he : starEach (a :: []) X.env = (false, eval a X.env) :: starEach [] X.env := by rfl) (hpl : (backTo pos (starEach [] X.env)).any (·.1) = false := by rfl) :
    PMk X (.Call (.Name xN p) [a] [] pos) (tMkLow C ta) := by
  intro pins s σ H Q I h
  refine wpAny_Call_Name_kw (ld_glob I hg T.gC ?_ hdb)
  refine PySem.W.callWith_K (h₀ := X.base) I.ok.mod.kin T.kC (thn (ha.run pos pins s σ H _ I h) fun us s1 hh => ?_) he hpl
  obtain ⟨vs, H1, I1, r1, v, ev, q1⟩ := hh
  subst ev
  refine ⟨I1.kIn, ?_⟩
  cases r1 with
  | cons rv rn =>
    rename_i v' us'
    cases rn
    show wpAny _ _ (call (.ref C) [v']) _ _ _
    have hlim := I1.nolimit
    obtain ⟨hp, g, dr, tk, os⟩ := s1
    refine wpAny_call (PySem.LowX.low_made T I1.kIn hlim (by have := hr.dp; omega) fun h' tk' e d M => ?_)
    show MkP X pins σ Q (.ref e) ⟨h', g, dr, tk', os⟩
    obtain ⟨oe, fv, hoe, hc, hd, hdat, h1⟩ := M.obj
    have hns := M.ns
    obtain ⟨G', g1, g2⟩ := restrict h' fun b => decide (b ≠ e)
    have gk : ∀ b, b ≠ e → G'.get? b = h'.get? b := fun b hb => g1 b (decide_eq_true hb)
    have ge : G'.get? e = none := g2 e (by simp)
    have old : ∀ b o, hp.get? b = some o → G'.get? b = some o := fun b o q => (gk b (Nat.ne_of_lt (Nat.lt_of_lt_of_le (Heap.lt_size q) M.new))).trans (M.keep b o q)
    have ob : ObjOk X.prog X.w (upd H1 d (.xd [(("at" : Str), v)])) G' d (.xd [(("at" : Str), v)]) :=
      ⟨_, hns.at (fun o q => (gk d M.dne).trans q), fun f => relO_low rv f⟩
    have J : Inv X pins σ (upd H1 d (.xd [(("at" : Str), v)])) ⟨G', g, dr, tk', os⟩ := I1.laid (t' := tk') old M.dbig ob
    refine ⟨e, oe, fv, ⟨G', g, dr, tk', os⟩, _, .ref C, some d, rfl, J, fun b o q => ?_, ge, hoe, ⟨hc, hd⟩, hdat, h1, ?_, rfl, I1.bare, raises_own T.exC T.tyC, q1 d (I1.hok.fresh M.dbig)⟩
    · by_cases hb : b = e
      · have q' : G'.get? b = some o := q
        rw [hb, ge] at q'; cases q'
      · exact (gk b hb).symm.trans q
    · rw [upd_ne (Ne.symm M.dne)]
      exact I1.hok.fresh M.new
/-- raise Low(e) -/
def tRaiseLow (C : Addr) (W : WX) (ta : TA) : TS := fun _ σ H => tMkLow C ta σ H fun cls d H' => W cls d σ H'
theorem ps_raiseLow {a : Expr} {ta : TA} {W : WX} {p pos pos2 : Pos} {k : Nat} (hc : X.calm = true) (T : PySem.LowX.LowTxt X.K X.mg xN C fI) (hr : Room k X.A) (tk : Takes X W) (ha : PA X [a] ta) (hg : Gl X xN := by rfl) (hdb : (xN == ("__debug__" : Str)) = false := by decide)
    (he : starEach (a :: []) X.env = (false, eval a X.env) :: starEach [] X.env := by rfl) (hpl : (backTo pos (starEach [] X.env)).any (·.1) = false := by rfl) :
    PS X (.Raise (some (.Call (.Name xN p) [a] [] pos)) none pos2) (tRaiseLow C W ta) := ps_raise hc tk (pmk_low T hr ha hg hdb he hpl)
/-- low.by, low the exception that the suite holds (at a; its class cls, its dict d) -/
def tByLow (C : Addr) (a : Addr) (cls : Value) (d : Option Addr) (te : TE) : TE := fun σ H Q => te σ H fun x H1 => x = .ref a ∧ cls = .ref C ∧ ∃ (dd : Addr) (v : V), d = some dd ∧ H1 dd = some (.xd [(("at" : Str), v)]) ∧ Q v H1
theorem pe_byLow {a : Addr} {oe : Obj} {cls : Value} {d : Option Addr} {pn : List (Addr × Obj)} {e : Expr} {te : TE} {pos : Pos} (T : PySem.LowX.LowTxt X.K X.mg xN C fI) (hz : Zc cls d oe) (hf : ∃ vs, oe.data = .fields vs) (he : PE (X.suite a ((a, oe) :: pn)) e te)
    (hb : attributeBase e "at" X.env (eval e X.env) = eval e X.env := by rfl) :
    PE (X.suite a ((a, oe) :: pn)) (.Attribute e "at" pos) (tByLow C a cls d te) := by
  refine ⟨fun pins s σ H Q I h => ?_⟩
  refine attr_of hb (thn (he.run pins s σ H _ I h) fun u s1 hh => ?_)
  obtain ⟨x, H1, I1, rx, ex, ec, dd, v, ed, ea, q⟩ := hh
  subst ex
  obtain rfl : u = Value.ref a := rx
  subst ec
  subst ed
  obtain ⟨ha, _⟩ := I1.pin (a, oe) (List.mem_append_left _ List.mem_cons_self)
  obtain ⟨vs, hd⟩ := hf
  have hx : ObjOk X.prog X.w H1 s1.heap dd (.xd [(("at" : Str), v)]) := I1.hok dd _ ea
  obtain ⟨mA, hns, hr⟩ := hx
  obtain ⟨od, ho, hl⟩ := lookIn_ns hns
  have l : List.lookup ("at" : Str) [(("at" : Str), v)] = some v := by simp [List.lookup]
  obtain ⟨u, hu, ru⟩ := RelO.some_of (v := v) (o := mA "at") (by rw [← l]; exact hr "at")
  have J : PySem.W.InstAt s1.heap a oe C (some od) := ⟨ha, hz.1, by unfold PySem.W.notCls; rw [hd] <;> rfl, by rw [hz.2]; exact ho⟩
  exact HandSPX.exc_get I1.kIn J T.ga T.gg T.exC (PySem.W.findObj_own T.hdC T.noN rfl (by rw [hl, hu])) (handed_of ru) ⟨v, H1, I1.tok _, ru, q⟩
end
end L2

namespace L2
open PySem PySem.Spec PyProof.Rows
/-- an if whose test is known -/
theorem if_true_of {c : Bool} {A B : Prop} (hc : c = true) (h : A) : if c = true then A else B := by
  rw [if_pos hc]
  exact h
theorem if_false_of {c : Bool} {A B : Prop} (hc : c = false) (h : B) : if c = true then A else B := by
  rw [hc, if_neg Bool.false_ne_true]
  exact h
end L2
namespace Ovc
open PySem PySem.Spec PyProof.Rows L2
/-! ### try with several clauses, each with a name or without one -/
/-- the ends of a suite whose name's slot is emptied behind it -/
def endsAs (i : Nat) (D : Ends) : Ends := { nx := fun σ H => D.nx (σ.set i none) H, rt := D.rt, bk := fun σ H => D.bk (σ.set i none) H, ct := fun σ H => D.ct (σ.set i none) H }
abbrev Clause := Value × Option Nat × (Addr → Value → Option Addr → TS)
def runClause (q : Clause) (a : Addr) (cls : Value) (d : Option Addr) (D : Ends) (σ : L2.St) (H : Hp) : Prop :=
  match q.2.1 with
  | none => q.2.2 a cls d D σ H
  | some i => q.2.2 a cls d (endsAs i D) (σ.set i (some (.ref a))) H
def wClauses (K : PySem.W.Frag) (Wout : WX) (D : Ends) : List Clause → WX
  | [] => Wout
  | q :: r => fun cls d σ H => ∃ b, PySem.W.exmOne K cls q.1 = some b ∧ (b = true → ∀ a, H a = none → runClause q a cls d D σ H) ∧ (b = false → wClauses K Wout D r cls d σ H)
inductive ClOk (X : Cx) : List ExceptHandler → List Clause → Prop
  | nil : ClOk X [] []
  | bare {x : Str} {c : Value} {ts : Addr → Value → Option Addr → TS} {st₀ : Stmt} {sts : List Stmt} {p1 p2 : Pos} {hds : List ExceptHandler} {l : List Clause} (hc : Names X x c)
      (suite : ∀ (a : Addr) (ob : Obj) (cls : Value) (d : Option Addr) (pn : List (Addr × Obj)), Zc cls d ob → (∃ fv, ob.data = .fields fv) → PSs (X.suite a ((a, ob) :: pn)) (st₀ :: sts) (ts a cls d)) (more : ClOk X hds l) :
      ClOk X (.ExceptHandler (some (.Name x p1)) none (st₀ :: sts) p2 :: hds) ((c, none, ts) :: l)
  | named {x n : Str} {c : Value} {i : Nat} {ts : Addr → Value → Option Addr → TS} {st₀ : Stmt} {sts : List Stmt} {p1 p2 : Pos} {hds : List ExceptHandler} {l : List Clause} (hN : X.N.Nodup) (hi : X.N[i]? = some n) (hln : X.env.kindOf n = some .local) (hc : Names X x c)
      (suite : ∀ (a : Addr) (ob : Obj) (cls : Value) (d : Option Addr) (pn : List (Addr × Obj)), Zc cls d ob → (∃ fv, ob.data = .fields fv) → PSs (X.suite a ((a, ob) :: pn)) (st₀ :: sts) (ts a cls d)) (more : ClOk X hds l) :
      ClOk X (.ExceptHandler (some (.Name x p1)) (some n) (st₀ :: sts) p2 :: hds) ((c, some i, ts) :: l)
section
variable {X : Cx} {body : List Stmt} {hd₀ : ExceptHandler} {hds : List ExceptHandler} {l : List Clause} {pos : Pos} {tb : WX → TS} {Wout : WX}
theorem ps_try_cl (hsk : X.stack = X.env :: X.outer) (hfm : X.env.frame = some X.env.locals) (tk : Takes X Wout)
    (hb : ∀ (W : WX) (pn : List (Addr × Obj)) (xe : Value → Shared → Prop), Takes (X.tr pn xe) W → PassesOwn (model X.prog X.w) X.A X.env xe → PSs (X.tr pn xe) body (tb W))
    (hcl : ClOk X (hd₀ :: hds) l) : PS X (.Try body (hd₀ :: hds) [] [] pos) (fun D σ H => tb (wClauses X.K Wout D l) D σ H) := by
  refine ⟨fun pins s σ H D I0 hr => ?_⟩
  have okX := I0.ok
  have frA : X.A.frames = some (X.env :: X.outer) := by rw [okX.frames, hsk]
  refine wpAny_Try_except (wpAny_mono ((hb (wClauses X.K Wout D l) (X.pn ++ pins) (fun e t₁ => wpAny (model X.prog X.w) X.A (noteFrame e X.env) (fun _ t₂ => wpAny (model X.prog X.w) X.A (setFlight e none) (fun _ t₃ =>
    wpAny (model X.prog X.w) X.A (handleBy e X.env (hd₀ :: hds)) (SP X pins D) X.xe t₃) X.xe t₂) X.xe t₁) (fun u t xx => ?caught) PassesOwn.looking).run [] s σ H D (I0.toTry _) hr) (fun fl t hsp => ?after) (fun e t he => he))
  case after =>
    cases fl with
    | next => exact let ⟨σ1, H1, I1, z⟩ := hsp; wpAny_execs_nil ⟨σ1, H1, I1.ofTry okX, z⟩
    | brk => exact let ⟨σ1, H1, I1, z⟩ := hsp; ⟨σ1, H1, I1.ofTry okX, z⟩
    | cont => exact let ⟨σ1, H1, I1, z⟩ := hsp; ⟨σ1, H1, I1.ofTry okX, z⟩
    | ret u => exact let ⟨v, σ1, H1, I1, r, z⟩ := hsp; ⟨v, σ1, H1, I1.ofTry okX, r, z⟩
  case caught =>
    obtain ⟨a, B, sI, pins1, σ1, H1, cls, d, rfl, I1', nb, up, sky, na, os, ag, wish⟩ := xx
    have I1 : Inv X pins σ1 H1 sI := I1'.ofTry okX
    have skyF : Sky B (X.env :: X.outer) a (Zc cls d) X.env.locals t.heap := by rw [← hsk]; exact sky
    refine Sky.land Zc.steady frA hfm skyF fun h3 fl3 up3 => ?_
    have I3 : Inv X pins σ1 H1 { t with heap := h3 } := I1.landed nb fl3.1 (up.trans up3) os ag
    obtain ⟨ob3, fv3, at3, z3, dat3⟩ := fl3.there
    have off : a ∉ frs (X.env :: X.outer) := fun hm => by
      obtain ⟨_, o', e', hnf⟩ := fl3.2.2.1.mem hm
      rw [at3] at e'
      cases e'
      exact hnf _ dat3
    have offL : a ≠ X.env.locals := fun z => off (List.mem_filterMap.mpr ⟨X.env, List.mem_cons_self, by rw [hfm, z]⟩)
    have offF : a ∉ X.fs := fun hm => let ⟨en, hen, z⟩ := List.mem_filterMap.mp hm; off (List.mem_filterMap.mpr ⟨en, List.mem_cons_of_mem _ hen, z⟩)
    have SU3 := I3.suite at3 dat3 na offL offF
    have test : ∀ {x : Str} {c : Value} {p1 : Pos} {Q : Value → Shared → Prop} {E : Value → Shared → Prop}, Names X x c → Q c { t with heap := h3 } →
        wpAny (model X.prog X.w) (X.A.mark (some (.ref a))) (eval (.Name x p1) X.env) Q E { t with heap := h3 } := fun {x c p1 Q E} hc z => by
      obtain ⟨hg, hdb, hm | ⟨hm, hv, hne⟩⟩ := hc
      · exact ld_glob (X := X.suite a ((a, ob3) :: (X.pn ++ pins))) SU3 hg hm z hdb
      · exact ld_blt (X := X.suite a ((a, ob3) :: (X.pn ++ pins))) SU3 hg hm hv z hne hdb
    have looks : PySem.W.Looks (model X.prog X.w) h3 (typeOf (.ref a)) cls := fun A Q E s1 keep z => wpAny_typeOf_ref (keep _ _ at3) (by rw [z3.1]; exact z)
    suffices go : ∀ {hs1 : List ExceptHandler} {l1 : List Clause}, ClOk X hs1 l1 → wClauses X.K Wout D l1 cls d σ1 H1 → wpAny (model X.prog X.w) X.A (handleBy (.ref a) X.env hs1) (SP X pins D) X.xe { t with heap := h3 } from go hcl wish
    intro hs1 l1 hk
    induction hk with
    | nil =>
      intro wo
      refine wpAny_handleBy_nil ?_
      obtain ⟨k1, k2, k3, ob, fv, T, oT, tv, heT, hzT, hdT, hT1, hTr⟩ := id fl3
      unfold PySem.passOn
      refine wpAny_bind (wpAny_field heT hdT hT1 ?_)
      rw [if_neg (show ¬ (Value.ref T == Value.none) = true from by simp)]
      have fin : wpAny (model X.prog X.w) X.A (setFlight (.ref a) X.env.frame) (fun _ t4 => wpAny (model X.prog X.w) X.A (throw (.ref a) : Sem Flow) (SP X pins D) X.xe t4) X.xe { t with heap := h3 } := by
        rw [hfm]
        exact HandSPX.setFlight_upZ fl3 fun h4 held4 up4 => wpAny_throw (tk _ _ ⟨a, B, sI, pins, σ1, H1, cls, d, rfl, I1, nb, (up.trans up3).trans up4, .inr (.inr (by rw [hsk]; exact held4)), na, os, ag, wo⟩)
      first | exact wpAny_bind (wpAny_pure (wpAny_bind fin)) | exact wpAny_bind fin
    | @bare x c ts st₀ sts p1 p2 hs2 l2 hc suite more ih =>
      rintro ⟨b, hb1, yes, no⟩
      refine wpAny_handleBy_cons (codeAny_handlers_test (test hc ((PySem.W.exm_one (M := model X.prog X.w) I3.kIn looks hb1).here ?_))) (by intro q; cases q)
      cases b with
      | false => exact ih (no rfl)
      | true =>
        refine codeAny_handlers_suite (HandSPX.lands_againZ fl3 fun h4 fl4 up4 => ?_)
        have I4 : Inv X pins σ1 H1 { t with heap := h4 } := I1.landed nb fl4.1 ((up.trans up3).trans up4) os ag
        obtain ⟨ob4, fv4, at4, z4, dat4⟩ := fl4.there
        refine wpAny_mono ((suite a ob4 cls d (X.pn ++ pins) z4 ⟨_, dat4⟩).run [] _ _ H1 _ (I4.suite at4 dat4 na offL offF) (yes rfl a na)) (fun f t6 hsp => ?_) (fun _ _ z => False.elim z)
        cases f with
        | next => exact let ⟨σ6, H6, S6, z6⟩ := hsp; ⟨_, _, S6.unsuite okX, z6⟩
        | brk => exact let ⟨σ6, H6, S6, z6⟩ := hsp; ⟨_, _, S6.unsuite okX, z6⟩
        | cont => exact let ⟨σ6, H6, S6, z6⟩ := hsp; ⟨_, _, S6.unsuite okX, z6⟩
        | ret u => exact let ⟨v6, σ6, H6, S6, r6, z6⟩ := hsp; ⟨_, _, _, S6.unsuite okX, r6, z6⟩
    | @named x n c i ts st₀ sts p1 p2 hs2 l2 hN hi hln hc suite more ih =>
      rintro ⟨b, hb1, yes, no⟩
      refine wpAny_handleBy_cons (codeAny_handlers_test (test hc ((PySem.W.exm_one (M := model X.prog X.w) I3.kIn looks hb1).here ?_))) (by intro q; cases q)
      cases b with
      | false => exact ih (no rfl)
      | true =>
        refine codeAny_handlers_suite_as (HandSPX.lands_againZ fl3 fun h4 fl4 up4 => ?_)
        have I4 : Inv X pins σ1 H1 { t with heap := h4 } := I1.landed nb fl4.1 ((up.trans up3).trans up4) os ag
        obtain ⟨ob4, fv4, at4, z4, dat4⟩ := fl4.there
        refine store_ok (X := X.suite a ((a, ob4) :: (X.pn ++ pins))) (v := .ref a) (I4.suite at4 dat4 na offL offF) hN hi (.inl hln) rfl (fun t5 S5 => ?_) (.inr hln)
        refine wpAny_mono ((suite a ob4 cls d (X.pn ++ pins) z4 ⟨_, dat4⟩).run [] t5 _ H1 _ S5 (yes rfl a na)) (fun f t6 hsp => ?_) (fun _ _ z => False.elim z)
        have off6 : ∀ {σ6 : L2.St} {H6 : Hp} {Q : Shared → Prop}, Inv (X.suite a ((a, ob4) :: (X.pn ++ pins))) [] σ6 H6 t6 → (∀ t7, Inv X pins (σ6.set i none) H6 t7 → Q t7) →
            wpAny (model X.prog X.w) X.A (do bindName X.env n .none; unbindBehindTheSuite X.env n p2) (fun _ t7 => Q t7) X.xe t6 := fun {σ6 H6 Q} S6 hq => gone_ok (S6.unsuite okX) hN hi hln hq
        cases f with
        | next => exact let ⟨σ6, H6, S6, z6⟩ := hsp; off6 S6 fun t7 I7 => ⟨_, _, I7, z6⟩
        | brk => exact let ⟨σ6, H6, S6, z6⟩ := hsp; off6 S6 fun t7 I7 => ⟨_, _, I7, z6⟩
        | cont => exact let ⟨σ6, H6, S6, z6⟩ := hsp; off6 S6 fun t7 I7 => ⟨_, _, I7, z6⟩
        | ret u => exact let ⟨v6, σ6, H6, S6, r6, z6⟩ := hsp; off6 S6 fun t7 I7 => ⟨_, _, _, I7, r6, z6⟩
end
/-! ### a < b < c < d as a test -/
def tTest3 (r1 r2 r3 : R2) (ta tb tc td : TE) : TT := fun σ H Q => ta σ H fun x H1 => tb σ H1 fun y H2 => r1 x y H2 fun z H3 => ∃ k, z = .bl k ∧
  (if k = true then tc σ H3 fun u H4 => r2 y u H4 fun z2 H5 => ∃ k2, z2 = .bl k2 ∧ (if k2 = true then td σ H5 fun v H6 => r3 u v H6 fun z3 H7 => ∃ k3, z3 = .bl k3 ∧ Q k3 H7 else Q false H5) else Q false H3)
theorem pt_chain3 {X : Cx} {a b c d : Expr} {ta tb tc td : TE} {o1 o2 o3 : CmpOp} {r1 r2 r3 : R2} {pos : Pos} (h1 : OpR X (compareOp o1) r1) (h2 : OpR X (compareOp o2) r2) (h3 : OpR X (compareOp o3) r3) (ha : PE X a ta) (hb : PE X b tb) (hc : PE X c tc) (hd : PE X d td)
    (hm : lastMarks [o1, o2, o3] [b, c, d] = false := by with_unfolding_all rfl) : PT X (.Compare a [o1, o2, o3] [b, c, d] pos) (tTest3 r1 r2 r3 ta tb tc td) := by
  refine ⟨fun pins s σ H Q I0 hr => isTrue_chain (thn (ha.run pins s σ H _ I0 hr) fun v1 s1 ⟨x, H1, I1, e1, q1⟩ => test_link (thn (hb.run pins s1 σ H1 _ I1 q1) fun v2 s2 ⟨y, H2, I2, e2, q2⟩ =>
    thn (h1 pins s2 σ H2 x y v1 v2 _ I2 e1 e2 q2) fun v3 s3 ⟨z, H3, I3, e3, k, ez, q3⟩ => ?_)) hm⟩
  subst ez
  cases e3
  refine wpAny_truthy_bool ?_
  cases k with
  | false => exact ite_ff ⟨H3, I3, q3⟩
  | true =>
    refine ite_tt (test_link (thn (hc.run pins s3 σ H3 _ I3 q3) fun v4 s4 ⟨u, H4, I4, e4, q4⟩ => thn (h2 pins s4 σ H4 y u v2 v4 _ I4 e2 e4 q4) fun v5 s5 ⟨z2, H5, I5, e5, k2, ez2, q5⟩ => ?_))
    subst ez2
    cases e5
    refine wpAny_truthy_bool ?_
    cases k2 with
    | false => exact ite_ff ⟨H5, I5, q5⟩
    | true =>
      refine ite_tt (test_last (thn (hd.run pins s5 σ H5 _ I5 q5) fun v6 s6 ⟨v, H6, I6, e6, q6⟩ => thn (h3 pins s6 σ H6 u v v4 v6 _ I6 e4 e6 q6) fun v7 s7 ⟨z3, H7, I7, e7, k3, ez3, q7⟩ => ?_))
      subst ez3
      cases e7
      exact wpAny_truthy_bool ⟨H7, I7, q7⟩
theorem an_chain3 {σ : L2.St} {H : Hp} {g1 g2 g3 : Int → Int → Bool} {ta tb tc td : TE} {p q r s : Int} (ha : Vl ta σ H (.int p)) (hb : Vl tb σ H (.int q)) (hc : Vl tc σ H (.int r)) (hd : Vl td σ H (.int s)) :
    An (tTest3 (rI0 fun i j => .bl (g1 i j)) (rI0 fun i j => .bl (g2 i j)) (rI0 fun i j => .bl (g3 i j)) ta tb tc td) σ H (g1 p q && (g2 q r && g3 r s)) := fun Q k =>
  ha _ (hb _ ⟨p, q, rfl, rfl, _, rfl, by
    show if g1 p q = true then _ else _
    revert k
    cases g1 p q with
    | false => exact fun k => iteF k
    | true => exact fun k => iteT (hc _ ⟨q, r, rfl, rfl, _, rfl, by
        show if g2 q r = true then _ else _
        revert k
        cases g2 q r with
        | false => exact fun k => iteF k
        | true => exact fun k => iteT (hd _ ⟨r, s, rfl, rfl, _, rfl, k⟩)⟩)⟩)
/-! ### tests that make objects on their way -/
def Ax (t : TT) (σ : L2.St) (H : Hp) (b : Bool) : Prop := ∀ Q : Bool → Hp → Prop, (∀ H', Same H H' → Q b H') → t σ H Q
section
variable {K : PySem.W.Frag} {σ : L2.St} {H : Hp} {t u : TT} {D : Ends} {tz tu tw : TS} {ta tb tc : TE}
theorem ax_of {b : Bool} (h : An t σ H b) : Ax t σ H b := fun Q q => h Q (q H (Same.refl H))
theorem ax_not {b : Bool} (h : Ax t σ H b) : Ax (tNot t) σ H (!b) := fun Q q => h _ fun H' s => q H' s
theorem ax_and {k m : Bool} (h1 : Ax t σ H k) (h2 : k = true → ∀ H', Same H H' → Ax u σ H' m) : Ax (tAnd t u) σ H (k && m) := fun Q q => h1 _ fun H1 s1 => by
  cases k with
  | true => exact iteT (h2 rfl H1 s1 _ fun H2 s2 => q H2 (s1.trans s2))
  | false => exact iteF (q H1 s1)
theorem ax_or {k m : Bool} (h1 : Ax t σ H k) (h2 : k = false → ∀ H', Same H H' → Ax u σ H' m) : Ax (tOr t u) σ H (k || m) := fun Q q => h1 _ fun H1 s1 => by
  cases k with
  | true => exact iteT (q H1 s1)
  | false => exact iteF (h2 rfl H1 s1 _ fun H2 s2 => q H2 (s1.trans s2))
theorem Ax.is {k m : Bool} (h : Ax t σ H k) (e : k = m) : Ax t σ H m := e ▸ h
theorem g_ifx {b : Bool} (h : Ax t σ H b) (h1 : b = true → ∀ H', Same H H' → tz D σ H') (h2 : b = false → ∀ H', Same H H' → tu D σ H') : tIfS t tz tu D σ H := h _ fun H' s => by
  cases b with
  | true => exact iteT (h1 rfl H' s)
  | false => exact iteF (h2 rfl H' s)
theorem q_ifx {b : Bool} (h : Ax t σ H b) (h1 : b = true → ∀ H', Same H H' → tz { D with nx := tw D } σ H') (h2 : b = false → ∀ H', Same H H' → tu { D with nx := tw D } σ H') : tSeq (tIfS t tz tu) tw D σ H := g_ifx (D := { D with nx := tw D }) h h1 h2
theorem q_whenx {b : Bool} (h : Ax t σ H b) (h1 : b = true → ∀ H', Same H H' → tz { D with nx := tw D } σ H') (h2 : b = false → ∀ H', Same H H' → tw D σ H') : tSeq (tIfS t tz tNext) tw D σ H := g_ifx (D := { D with nx := tw D }) h h1 h2
theorem g_whenx {b : Bool} (h : Ax t σ H b) (h1 : b = true → ∀ H', Same H H' → tz D σ H') (h2 : b = false → ∀ H', Same H H' → D.nx σ H') : tIfS t tz tNext D σ H := g_ifx h h1 h2
theorem lexAt2 {a b c d : Int} : Ob.lexAt (fun j => decide ([a, b].getD j 0 = [c, d].getD j 0)) (fun j => decide ([a, b].getD j 0 ≤ [c, d].getD j 0)) (decide ([a, b].length ≤ [c, d].length)) 0 (min [a, b].length [c, d].length) = decide (a < c ∨ (a = c ∧ b ≤ d)) := by
  show (if decide (a = c) = true then (if decide (b = d) = true then decide (2 ≤ 2) else decide (b ≤ d)) else decide (a ≤ c)) = _
  by_cases h1 : a = c
  · rw [if_pos (decide_eq_true h1)]
    by_cases h2 : b = d
    · rw [if_pos (decide_eq_true h2), decide_eq_true (Nat.le_refl 2), decide_eq_true (.inr ⟨h1, by omega⟩)]
    · rw [if_neg (fun h => h2 (of_decide_eq_true h)), Bool.eq_iff_iff]
      simp only [decide_eq_true_eq]
      omega
  · rw [if_neg (fun h => h1 (of_decide_eq_true h)), Bool.eq_iff_iff]
    simp only [decide_eq_true_eq]
    omega
/-- (a, b) <= t, t a tuple of two ints -/
theorem ax_leT {a b c d : Int} {T : Addr} (ha : Vl ta σ H (.int a)) (hb : Vl tb σ H (.int b)) (hc : ∀ H', Same H H' → Vl tc σ H' (.ref T)) (hT : SqT K H T [.int c, .int d]) : Ax (tTest (tOp (rLeT K) (tTup (tCons ta (tCons tb tNil))) tc)) σ H (decide (a < c ∨ (a = c ∧ b ≤ d))) := fun Q q =>
  ha _ (hb _ ⟨by show 2 ≤ sizeLine; decide, fun S nS => hc _ (same_upd nS) _ ⟨S, T, [a, b], [c, d], rfl, rfl, .of upd_same, seqT (same_upd nS) hT, _, rfl, by
    rw [lexAt2]
    exact q _ (same_upd nS)⟩⟩)
/-- (a, b) == (c, d), the tuples made on the way -/
theorem ax_eqTT {td : TE} {p q r s : Int} (ha : ∀ H', Same H H' → Vl ta σ H' (.int p)) (hb : ∀ H', Same H H' → Vl tb σ H' (.int q)) (hc : ∀ H', Same H H' → Vl tc σ H' (.int r)) (hd : ∀ H', Same H H' → Vl td σ H' (.int s)) :
    Ax (tTest (tOp (rEqD K) (tTup (tCons ta (tCons tb tNil))) (tTup (tCons tc (tCons td tNil))))) σ H (decide (p = r ∧ q = s)) := fun Q k =>
  ha H (Same.refl H) _ (hb H (Same.refl H) _ ⟨by show 2 ≤ sizeLine; decide, fun T nT => by
    have s1 : Same H (upd H T (.tup [.int p, .int q])) := same_upd nT
    refine hc _ s1 _ (hd _ s1 _ ⟨by show 2 ≤ sizeLine; decide, fun S nS => ?_⟩)
    have s2 : Same (upd H T (.tup [.int p, .int q])) (upd (upd H T (.tup [.int p, .int q])) S (.tup [.int r, .int s])) := same_upd nS
    refine ⟨.tuple [.int p, .int q], .tuple [.int r, .int s], .tup (.of (s2 _ _ upd_same)) (.cons (.int _) (.cons (.int _) .nil)), .tup (.of upd_same) (.cons (.int _) (.cons (.int _) .nil)), by rfl, by rfl, _, rfl, ?_⟩
    rw [show PyData.eqv (.tuple [.int p, .int q]) (.tuple [.int r, .int s]) = decide (p = r ∧ q = s) by
      show (p == r && (q == s && true)) = _
      rw [Bool.and_true, Bool.eq_iff_iff]
      simp]
    exact k _ (s1.trans s2)⟩)
/-- t == (c, d), t a tuple of two ints -/
theorem ax_eqRT {p q r s : Int} {T : Addr} (ha : Vl ta σ H (.ref T)) (hT : SqT K H T [.int p, .int q]) (hb : Vl tb σ H (.int r)) (hc : Vl tc σ H (.int s)) :
    Ax (tTest (tOp (rEqD K) ta (tTup (tCons tb (tCons tc tNil))))) σ H (decide (p = r ∧ q = s)) := fun Q k =>
  ha _ (hb _ (hc _ ⟨by show 2 ≤ sizeLine; decide, fun S nS => by
    have s2 : Same H (upd H S (.tup [.int r, .int s])) := same_upd nS
    refine ⟨.tuple [.int p, .int q], .tuple [.int r, .int s], .tup (seqT s2 hT) (.cons (.int _) (.cons (.int _) .nil)), .tup (.of upd_same) (.cons (.int _) (.cons (.int _) .nil)), by rfl, by rfl, _, rfl, ?_⟩
    rw [show PyData.eqv (.tuple [.int p, .int q]) (.tuple [.int r, .int s]) = decide (p = r ∧ q = s) by
      show (p == r && (q == s && true)) = _
      rw [Bool.and_true, Bool.eq_iff_iff]
      simp]
    exact k _ s2⟩))
/-- (a, b) == t, t a tuple of two ints -/
theorem ax_eqTR {p q r s : Int} {T : Addr} (ha : Vl ta σ H (.int p)) (hb : Vl tb σ H (.int q)) (hc : ∀ H', Same H H' → Vl tc σ H' (.ref T)) (hT : SqT K H T [.int r, .int s]) :
    Ax (tTest (tOp (rEqD K) (tTup (tCons ta (tCons tb tNil))) tc)) σ H (decide (p = r ∧ q = s)) := fun Q k =>
  ha _ (hb _ ⟨by show 2 ≤ sizeLine; decide, fun S nS => by
    have s2 : Same H (upd H S (.tup [.int p, .int q])) := same_upd nS
    refine hc _ s2 _ ⟨.tuple [.int p, .int q], .tuple [.int r, .int s], .tup (.of upd_same) (.cons (.int _) (.cons (.int _) .nil)), .tup (seqT s2 hT) (.cons (.int _) (.cons (.int _) .nil)), by rfl, by rfl, _, rfl, ?_⟩
    rw [show PyData.eqv (.tuple [.int p, .int q]) (.tuple [.int r, .int s]) = decide (p = r ∧ q = s) by
      show (p == r && (q == s && true)) = _
      rw [Bool.and_true, Bool.eq_iff_iff]
      simp]
    exact k _ s2⟩)
/-- assignments of a new tuple -/
theorem q_asgTup {i : Nat} {tr : TA} {xs : List V} (h : Va tr σ H xs) (hz : xs.length ≤ sizeLine) (k : ∀ T, H T = none → tw D (σ.set i (some (.ref T))) (upd H T (.tup xs))) : tSeq (tAsg (tTup tr) (gName i)) tw D σ H := h _ ⟨hz, k⟩
theorem g_asgTup {i : Nat} {tr : TA} {xs : List V} (h : Va tr σ H xs) (hz : xs.length ≤ sizeLine) (k : ∀ T, H T = none → D.nx (σ.set i (some (.ref T))) (upd H T (.tup xs))) : tAsg (tTup tr) (gName i) D σ H := h _ ⟨hz, k⟩
end
/-! ### defs that may raise, by their names -/
structure KalX (P : Program) (w : World) (K : PySem.W.Frag) (mg : Str → Option Value) (base : Heap) (k : Nat) (x : Str) (ps : List Str) (sp : Sp) : Prop where
  ex : ∃ (f : Addr) (fd : FuncData), FnOk P w K mg base (L2.CX P w) k f fd ps sp ∧ mg x = some (.ref f) ∧ PySem.W.keepIn K (.ref f) = true ∧ Binds K fd ps []
theorem kalx_of {P : Program} {w : World} {K : PySem.W.Frag} {mg : Str → Option Value} {base : Heap} {k : Nat} {x : Str} {st : Stmt} {ps : List Str} {sp : Sp} (A : Df K mg x st ps)
    (ok : ∀ f fd, Fun K x x st f fd → FnOk P w K mg base (L2.CX P w) k f fd ps sp) : KalX P w K mg base k x ps sp := by
  obtain ⟨f, fd, F, g, b⟩ := A.ex
  exact ⟨f, fd, ok f fd F, g, F.kp, b⟩
/-- called in a def that may raise -/
theorem pe_kx {X : Cx} {k j : Nat} {x : Str} {ps : List Str} {sp : Sp} {p pos : Pos} {e : Expr} {es : List Expr} {t : TA} {E : XK} (c : KalX X.prog X.w X.K X.mg X.base k x ps sp) (hr : Room j X.A) (hk : k ≤ j) (hg : Gl X x) (tk : Takes X (fun cls d _ H => E cls d H)) (ha : PA X (e :: es) t)
    (hdb : (x == ("__debug__" : Str)) = false := by decide) (he : starEach (e :: es) X.env = (false, eval e X.env) :: starEach es X.env := by rfl) (hpl : (backTo pos (starEach es X.env)).any (·.1) = false := by rfl) :
    PE X (.Call (.Name x p) (e :: es) [] pos) (tCall sp [] E t) := by
  obtain ⟨f, fd, F, hm, kp, b⟩ := c.ex
  exact pe_call F (hr.mono hk) hg hm kp b .nil (passes_call tk fun _ _ _ _ h => h) ha hdb he hpl
/-- called within a try -/
theorem pe_ks {X : Cx} {k j : Nat} {x : Str} {ps : List Str} {sp : Sp} {p pos : Pos} {e : Expr} {es : List Expr} {t : TA} {W : WX} (c : KalX X.prog X.w X.K X.mg X.base k x ps sp) (hr : Room j X.A) (hk : k ≤ j) (hg : Gl X x) (tk : Takes X W) (ha : PA X (e :: es) t)
    (hdb : (x == ("__debug__" : Str)) = false := by decide) (he : starEach (e :: es) X.env = (false, eval e X.env) :: starEach es X.env := by rfl) (hpl : (backTo pos (starEach es X.env)).any (·.1) = false := by rfl) :
    PE X (.Call (.Name x p) (e :: es) [] pos) (tCallS sp (WE W) t) := by
  obtain ⟨f, fd, F, hm, kp, b⟩ := c.ex
  exact pe_callS F (hr.mono hk) hg hm kp b (fun σ => passAt tk σ) ha hdb he hpl
/-! ### for link in links -/
section
variable {K : PySem.W.Frag} {σ : L2.St} {H : Hp} {a : Addr} {D : Ends} {tz tw : TS}
theorem g_forLk {j : Nat} {Hb : Hp} {xs : List V} {ls : List Lnk} {tl : TE} (h : Vl tl σ H (.ref a)) (hx : SqL K Hb a xs) (hL : DpAll K Hb xs (ls.map lnkD)) (hb : Same Hb H) (Pv : Nat → L2.St → Hp → Prop) (h0 : Pv 0 σ H) (hl : ∀ i σ' H', Pv i σ' H' → Same Hb H')
    (hs : ∀ (i : Nat) l t σ H, ls[i]? = some l → SqT K Hb t (lnkV l) → Pv i σ H → tz { D with nx := Pv (i + 1), ct := Pv (i + 1), bk := D.nx } (σ.set j (some (.ref t))) H) (hd : ∀ σ H, Pv ls.length σ H → D.nx σ H) :
    tFor (iList K tl) (gName j) tz D σ H := h _ ⟨a, rfl, ⟨_, hb.seq hx⟩, for_list (xs := xs) Pv h0 (fun i σ H _ p => (hl i σ H p).seq hx) (fun i x σ H hi p => by
      have e := DpAll.len hL
      rw [List.length_map] at e
      have hlt := (List.getElem?_eq_some_iff.mp hi).1
      have hg : ls[i]? = some ls[i] := List.getElem?_eq_getElem (by omega)
      obtain ⟨v, hv, dv⟩ := DpAll.get (i := i) (d := lnkD ls[i]) hL (by
        rw [List.getElem?_map, hg]
        rfl)
      cases hi.symm.trans hv
      obtain ⟨t, rfl, ht⟩ := Dp.lnk_inv dv
      exact hs i _ t σ H hg ht p) (fun σ H p => by
      have e := DpAll.len hL
      rw [List.length_map] at e
      rw [e] at p
      exact hd σ H p)⟩
theorem q_forLk {j : Nat} {Hb : Hp} {xs : List V} {ls : List Lnk} {tl : TE} (h : Vl tl σ H (.ref a)) (hx : SqL K Hb a xs) (hL : DpAll K Hb xs (ls.map lnkD)) (hb : Same Hb H) (Pv : Nat → L2.St → Hp → Prop) (h0 : Pv 0 σ H) (hl : ∀ i σ' H', Pv i σ' H' → Same Hb H')
    (hs : ∀ (i : Nat) l t σ H, ls[i]? = some l → SqT K Hb t (lnkV l) → Pv i σ H → tz { D with nx := Pv (i + 1), ct := Pv (i + 1), bk := tw D } (σ.set j (some (.ref t))) H) (hd : ∀ σ H, Pv ls.length σ H → tw D σ H) :
    tSeq (tFor (iList K tl) (gName j) tz) tw D σ H := g_forLk (D := { D with nx := tw D }) h hx hL hb Pv h0 hl hs hd
/-- a, b, c, d = e, a link -/
theorem q_asgLnk {j1 j2 j3 j4 : Nat} {te : TE} {t : Addr} {l : Lnk} (h : Vl te σ H (.ref t)) (ht : SqT K H t (lnkV l)) (k : tw D ((((σ.set j1 (some (.int l.a))).set j2 (some (.int l.b))).set j3 (some (oV l.t))).set j4 (some (oV l.k))) H) :
    tSeq (tAsg te (gTup K 4 (gCons (gName j1) (gCons (gName j2) (gCons (gName j3) (gCons (gName j4) gNil)))))) tw D σ H := h _ ⟨t, _, rfl, ht, rfl, _, _, rfl, _, _, rfl, _, _, rfl, _, _, rfl, rfl, k⟩
/-- a tuple made in one of two ways -/
theorem if_tup {t : TT} {r1 r2 : TA} {b : Bool} {x1 x2 zs : List V} {Q : VK} (h : An t σ H b) (h1 : Va r1 σ H x1) (h2 : Va r2 σ H x2) (e1 : b = true → x1 = zs) (e2 : b = false → x2 = zs) (hz : zs.length ≤ sizeLine)
    (k : ∀ T, H T = none → Q (.ref T) (upd H T (.tup zs))) : tIf t (tTup r1) (tTup r2) σ H Q := h _ (by
  cases b with
  | true =>
    cases e1 rfl
    exact iteT (h1 _ ⟨hz, k⟩)
  | false =>
    cases e2 rfl
    exact iteF (h2 _ ⟨hz, k⟩))
end
/-! ### errors that leave a def -/
def RaiseTo (E : XK) (H : Hp) (C : Addr) (i : Int) : Prop := ∀ H' d, Same H H' → H' d = some (.xd [("at", .int i)]) → E (.ref C) (some d) H'
theorem RaiseTo.to {E : XK} {H H' : Hp} {C : Addr} {i : Int} (h : RaiseTo E H C i) (s : Same H H') : RaiseTo E H' C i := fun H2 d s2 hd => h H2 d (s.trans s2) hd
theorem raise_now {E : XK} {C : Addr} {i : Int} {ta : TA} {σ : L2.St} {H : Hp} {D : Ends} (h : Va ta σ H [.int i]) (r : RaiseTo E H C i) : tRaiseLow C (fun cls d _ H => E cls d H) ta D σ H := h _ ⟨_, rfl, fun d nd => r _ d (same_upd nd) upd_same⟩
/-- for i, x in enumerate(xs) -/
theorem for_en {K : PySem.W.Frag} {a : Addr} {xs : List V} {g : TG} {tb : TS} {D : Ends} {σ : L2.St} {H : Hp} (Pv : Nat → L2.St → Hp → Prop) (h0 : Pv 0 σ H) (hq : ∀ i σ H, Pv i σ H → SqL K H a xs)
    (hs : ∀ (i : Nat) x T σ H, xs[i]? = some x → Pv i σ H → H T = none → g (.ref T) σ (upd H T (.tup [.int (i : Nat), x])) fun σ2 H2 => tb { D with nx := Pv (i + 1), ct := Pv (i + 1), bk := D.nx } σ2 H2) (hd : ∀ σ H, Pv xs.length σ H → D.nx σ H) :
    ∃ W : Nat → Nat → L2.St → Hp → Prop, (∃ m, W 0 m σ H) ∧ ∀ i m σ H, W i m σ H → ((Ite K a).stop i H ∧ D.nx σ H) ∨
      ((Ite K a).go i H ∧ ∃ N : L2.St → Hp → Prop, (∀ σ' H', N σ' H' → ∃ m', m' < m ∧ W (i + 1) m' σ' H') ∧ ∀ v H', (Ite K a).yld i H v H' → g v σ H' fun σ2 H2 => tb { D with nx := N, ct := N, bk := D.nx } σ2 H2) := by
  refine ⟨fun i m σ H => m + i = xs.length ∧ Pv i σ H, ⟨xs.length, rfl, h0⟩, fun i m σ H hW => ?_⟩
  obtain ⟨em, p⟩ := hW
  have qx := hq i σ H p
  by_cases hlt : i < xs.length
  · refine .inr ⟨⟨xs, xs[i], qx, List.getElem?_eq_getElem hlt⟩, Pv (i + 1), fun σ' H' p' => ⟨m - 1, by omega, by omega, p'⟩, fun v H' yy => ?_⟩
    obtain ⟨T, x', rfl, hT, rfl, f1⟩ := yy
    exact hs i x' T σ H (f1 xs qx) p hT
  · have e : i = xs.length := by omega
    rw [e] at p
    exact .inl ⟨⟨xs, qx, by omega⟩, hd σ H p⟩
theorem take_snoc {α : Type} {xs : List α} {i : Nat} {x : α} (h : xs[i]? = some x) : xs.take (i + 1) = xs.take i ++ [x] := by
  rw [List.take_add_one, h]
  rfl
theorem vl_orV {K : PySem.W.Frag} {σ : L2.St} {H : Hp} {ta tb : TE} {k m : Bool} (h1 : Vl ta σ H (.bl k)) (h2 : k = false → Vl tb σ H (.bl m)) : Vl (tOrV ta tb) σ H (.bl (k || m)) := fun Q q => h1 _ ⟨k, rfl, by
  cases k with
  | true => exact iteT q
  | false => exact iteF (h2 rfl _ q)⟩
/-! ### values with a heap that grows on the way -/
def Ve (te : TE) (σ : L2.St) (H : Hp) (v : V) : Prop := ∀ Q : VK, (∀ H', Same H H' → Q v H') → te σ H Q
section
variable {K : PySem.W.Frag} {σ : L2.St} {H : Hp} {ta tb te tl t0 t1 t2 t3 : TE} {D : Ends} {tw : TS} {v x y z : V} {tt : TT}
theorem ve_of (h : Vl te σ H v) : Ve te σ H v := fun Q q => h Q (q H (Same.refl H))
theorem Ve.is {w : V} (h : Ve te σ H v) (e : v = w) : Ve te σ H w := e ▸ h
theorem q_asgV {i : Nat} (h : Ve te σ H v) (k : ∀ H', Same H H' → tw D (σ.set i (some v)) H') : tSeq (tAsg te (gName i)) tw D σ H := h _ k
theorem g_asgV {i : Nat} (h : Ve te σ H v) (k : ∀ H', Same H H' → D.nx (σ.set i (some v)) H') : tAsg te (gName i) D σ H := h _ k
theorem g_retV (h : Ve te σ H v) (k : ∀ H', Same H H' → D.rt v H') : tRet te D σ H := h _ k
theorem ve_ixNew {xs : List V} {p : Int} (ha : Vn ta σ H xs) (hb : ∀ H', Same H H' → Vl tb σ H' (.int p)) (hg : atI xs p = some z) : Ve (tOp (rIxL K) ta tb) σ H z := fun Q k =>
  ha _ fun a H1 s1 np e => hb H1 s1 _ ⟨a, xs, p, z, rfl, rfl, .of e, hg, k H1 s1⟩
theorem vn_lc {j : Nat} {xs ys : List V} (hl : ∀ Q : VK, (∀ a H1, Same H H1 → SqL K H1 a xs → Q (.ref a) H1) → tl σ H Q) (hxy : xs.length = ys.length) (hz : ys.length ≤ 1000000)
    (he : ∀ (i : Nat) x y H', Same H H' → xs[i]? = some x → ys[i]? = some y → Ve te ((σ.set j none).set j (some x)) H' y) : Vn (tLc (iList K tl) (gName j) tYes te [j]) σ H ys := fun Q q => by
  refine hl _ fun a H1 s1 hx => ⟨a, rfl, ⟨xs, hx⟩, fun D nD => lc_list (xs := xs) (fun i H' => H' D = some (.lst (ys.take i)) ∧ Same H1 H') ⟨upd_same, same_upd nD⟩ (fun i H' _ hP => hP.2.seq hx) (fun i x H2 hi hP => ?_) (fun H2 hP => ?_)⟩
  · obtain ⟨hD, s2⟩ := hP
    have hi2 := (List.getElem?_eq_some_iff.mp hi).1
    have hy : ys[i]? = some ys[i] := List.getElem?_eq_getElem (by omega)
    refine ⟨?_, ?_⟩
    · show ((σ.set j none).set j (some x)).set j none = σ.set j none
      rw [List.set_set, List.set_set]
    · refine iteT (B := H2 D = some (.lst (ys.take (i + 1))) ∧ Same H1 H2) (he i x _ H2 (s1.trans s2) hi hy _ fun H3 s3 => ⟨_, s3 _ _ hD, ?_, ?_, ?_⟩)
      · exact Nat.lt_of_le_of_lt (m := 1000000) (Nat.le_trans (by rw [List.length_take]; exact Nat.min_le_right _ _) hz) (by decide)
      · rw [upd_same, take_snoc hy]
      · exact same_upd' (s2.trans s3) nD
  · obtain ⟨hD, s2⟩ := hP
    rw [hxy, List.take_length] at hD
    exact q D H2 (s1.trans s2) (Same.free s1 nD) hD
theorem vx_list {a : Addr} {xs : List V} (h : Vl tl σ H (.ref a)) (hx : SqL K H a xs) : ∀ Q : VK, (∀ a H1, Same H H1 → SqL K H1 a xs → Q (.ref a) H1) → tl σ H Q := fun Q q => h _ (q a H (Same.refl H) hx)
theorem vx_new {xs : List V} (h : Vn tl σ H xs) : ∀ Q : VK, (∀ a H1, Same H H1 → SqL K H1 a xs → Q (.ref a) H1) → tl σ H Q := fun Q q => h _ fun a H1 s1 _ e => q a H1 s1 (.of e)
end
section
variable {K : PySem.W.Frag} {σ : L2.St} {H : Hp} {te : TE} {D : Ends} {tz tw : TS} {P : Int → Prop}
theorem q_forRI {j : Nat} (h : Vi te σ H P) (hb : ∀ n, P n → -(2 ^ 62) ≤ n ∧ n < 2 ^ 62) (Pv : Nat → L2.St → Hp → Prop) (h0 : Pv 0 σ H)
    (hs : ∀ n, P n → ∀ (i : Nat) σ H, (i : Int) < n → Pv i σ H → tz { D with nx := Pv (i + 1), ct := Pv (i + 1), bk := tw D } (σ.set j (some (.int i))) H) (hd : ∀ n, P n → ∀ σ H, Pv n.toNat σ H → tw D σ H) :
    tSeq (tFor (iRng1 (tCons te tNil)) (gName j) tz) tw D σ H := h _ fun n hn => ⟨n, rfl, (hb n hn).1, (hb n hn).2, for_range (lo := 0) (n := n.toNat) Pv h0 (fun i σ H hi p => by
      show tz _ (σ.set j (some (.int (0 + i)))) H
      rw [Int.zero_add]
      exact hs n hn i σ H (by omega) p) (hd n hn)⟩
end
section
variable {K : PySem.W.Frag} {σ : L2.St} {H : Hp} {ta tb te tl t0 t1 t2 t3 : TE} {D : Ends} {tw : TS} {v x y z : V} {tt : TT}
theorem g_appV {l : Addr} {xs : List V} (ho : Vl ta σ H (.ref l)) (hl : H l = some (.lst xs)) (h : Ve te σ H v) (hz : xs.length < sizeLine) (k : ∀ H', Same H H' → D.nx σ (upd H' l (.lst (xs ++ [v])))) :
    tDrop (tBM K "list" rAppend ta (tCons te tNil)) D σ H := ho _ ⟨.inl ⟨rfl, _, .inl (.inl hl)⟩, h _ fun H' s' => ⟨l, xs, v, rfl, rfl, s' _ _ hl, hz, k H' s'⟩⟩
theorem lc_filter {j : Nat} {xs : List V} {pb : V → Bool} (hj : j < σ.length) (hl : ∀ Q : VK, (∀ a H1, Same H H1 → SqL K H1 a xs → Q (.ref a) H1) → tl σ H Q) (hz : xs.length ≤ 1000000)
    (ht : ∀ x ∈ xs, ∀ H', An tt ((σ.set j none).set j (some x)) H' (pb x)) (Q : VK) (q : ∀ D H' acc, Same H H' → H' D = some (.lst acc) → acc.length = (xs.filter pb).length → Q (.ref D) H') : tLc (iList K tl) (gName j) tt (tVar j) [j] σ H Q := by
  refine hl _ fun a H1 s1 hx => ⟨a, rfl, ⟨xs, hx⟩, fun D nD => lc_list (xs := xs) (fun i H' => ∃ acc, H' D = some (.lst acc) ∧ Same H1 H' ∧ acc.length = ((xs.take i).filter pb).length) ⟨[], upd_same, same_upd nD, rfl⟩ (fun i H' _ hP => hP.choose_spec.2.1.seq hx) (fun i x H2 hi hP => ?_) (fun H2 hP => ?_)⟩
  · obtain ⟨acc, hD, s2, ha⟩ := hP
    have e : (xs.take (i + 1)).filter pb = (xs.take i).filter pb ++ [x].filter pb := by
      rw [take_snoc hi]
      exact List.filter_append ..
    refine ⟨?_, ht x (List.mem_of_getElem? hi) H2 _ ?_⟩
    · show ((σ.set j none).set j (some x)).set j none = σ.set j none
      rw [List.set_set, List.set_set]
    · cases hp : pb x with
      | true =>
        have e2 : [x].filter pb = [x] := by
          rw [List.filter_cons, hp]
          rfl
        refine iteT ⟨x, ?_, acc, hD, ?_, _, upd_same, same_upd' s2 nD, ?_⟩
        · exact List.getElem?_set_self (by
            show j < (σ.set j none).length
            rw [List.length_set]
            exact hj)
        · have h1 : ((xs.take i).filter pb).length ≤ xs.length := Nat.le_trans (List.length_filter_le _ _) (by rw [List.length_take]; exact Nat.min_le_right _ _)
          exact Nat.lt_of_le_of_lt (m := 1000000) (by omega) (by decide)
        · rw [e, e2, List.length_append, List.length_append, ha]
      | false =>
        have e2 : [x].filter pb = [] := by
          rw [List.filter_cons, hp]
          rfl
        refine iteF ⟨acc, hD, s2, ?_⟩
        rw [e, e2, List.append_nil]
        exact ha
  · obtain ⟨acc, hD, s2, ha⟩ := hP
    rw [List.take_length] at ha
    exact q D H2 acc (s1.trans s2) hD ha
theorem vl_inL {a : Addr} {xs : List V} (h : Vl te σ H (.ref a)) (hx : SqL K H a xs) (f1 : flatV x = true) (f2 : xs.all flatV = true) : Vl (tOp (rIn K false) (tC x) te) σ H (.bl (inV x xs)) := vl_op vl_c h fun _ k => ⟨a, xs, rfl, .inl hx, f1, f2, k⟩
theorem flat_o (o : Option Int) : flatV (oV o) = true := by cases o <;> rfl
theorem ax_leLT {a T : Addr} {p q r s : Int} (h : Vl te σ H (.ref a)) (hx : SqL K H a [.int p, .int q]) (hb : ∀ H', Same H H' → Vl tb σ H' (.ref T)) (hT : SqT K H T [.int r, .int s]) :
    Ax (tTest (tOp (rLeT K) (tCB (fun xs H Q => ∃ p ys, xs = [V.ref p] ∧ ((SqL K H p ys ∧ ∀ l, H l = none → Q (.ref l) (upd H l (.tup ys))) ∨ (SqT K H p ys ∧ Q (.ref p) H))) (tCons te tNil)) tb)) σ H (decide (p < r ∨ (p = r ∧ q ≤ s))) := fun Q k =>
  h _ ⟨a, _, rfl, .inl ⟨hx, fun S nS => hb _ (same_upd nS) _ ⟨S, T, [p, q], [r, s], rfl, rfl, .of upd_same, seqT (same_upd nS) hT, _, rfl, by
    rw [lexAt2]
    exact k _ (same_upd nS)⟩⟩⟩
theorem ve_tup4 {v0 v1 v2 v3 : V} (h0 : Ve t0 σ H v0) (h1 : ∀ H', Same H H' → Ve t1 σ H' v1) (h2 : ∀ H', Same H H' → Ve t2 σ H' v2) (h3 : ∀ H', Same H H' → Ve t3 σ H' v3) (Q : VK) (q : ∀ R H', Same H H' → H' R = some (.tup [v0, v1, v2, v3]) → Q (.ref R) H') :
    tTup (tCons t0 (tCons t1 (tCons t2 (tCons t3 tNil)))) σ H Q := h0 _ fun H1 s1 => h1 H1 s1 _ fun H2 s2 => h2 H2 (s1.trans s2) _ fun H3 s3 => h3 H3 ((s1.trans s2).trans s3) _ fun H4 s4 => ⟨by show 4 ≤ sizeLine; decide, fun R nR => q R _ ((((s1.trans s2).trans s3).trans s4).trans (same_upd nR)) upd_same⟩
end
theorem ret_pairE {te : TE} {x : Str} {D : Ends} {σ : L2.St} {H : Hp} (h : te σ H fun v H1 => [V.str x, v].length ≤ sizeLine ∧ ∀ p, H1 p = none → D.rt (.ref p) (upd H1 p (.tup [.str x, v]))) : tRet (tTup (tCons (tC (.str x)) (tCons te tNil))) D σ H := h
theorem nx_of {f : L2.St → Hp → Prop} {a b c} {σ : L2.St} {H : Hp} (h : f σ H) : (Ends.mk f a b c).nx σ H := h
theorem ax_isNV {σ : L2.St} {H : Hp} {te : TE} {v : V} (h : Ve te σ H v) : Ax (tTest (tOp (fun x y H Q => y = V.non ∧ Q (V.bl (decide (x = V.non))) H) te (tC .non))) σ H (decide (v = .non)) := fun Q k => h _ fun H' s' => ⟨rfl, _, rfl, k H' s'⟩
theorem last_get {α : Type} {l : List α} {d : α} (h : l ≠ []) : l[l.length - 1]? = some (l.getLast?.getD d) := by
  rw [List.getLast?_eq_getElem?]
  have : l.length - 1 < l.length := by
    have := List.length_pos_iff.mpr h
    omega
  rw [List.getElem?_eq_getElem this]
  rfl
theorem seqT_but {K : PySem.W.Frag} {H : Hp} {o R : Addr} {ys zs : List V} (h : SqT K H R zs) (ho : H o = some (.lst ys)) : SqT K (but H o) R zs := by
  rcases h with (h | ⟨u, h⟩) | h
  · have ne : R ≠ o := fun z => by
      rw [z, ho] at h
      cases h
    exact .inl (.inl (by rw [but_ne ne]; exact h))
  · have ne : R ≠ o := fun z => by
      rw [z, ho] at h
      cases h
    exact .inl (.inr ⟨u, by rw [but_ne ne]; exact h⟩)
  · exact .inr h
theorem vl_byLow {C a d : Addr} {te : TE} {σ : L2.St} {H : Hp} {v : V} (h : Vl te σ H (.ref a)) (hd : H d = some (.xd [("at", v)])) : Vl (tByLow C a (.ref C) (some d) te) σ H v := fun Q q => h _ ⟨rfl, rfl, d, v, rfl, hd, q⟩
def pairD (x : Str) (d : PyData) : PyData := .tuple [.str x, d]
theorem ret_pair {K : PySem.W.Frag} {σ : L2.St} {H : Hp} {D : Ends} {te : TE} {x : Str} {v : V} {d : PyData} (h : Vl te σ H v) (hd : Dp K H v d) (k : ∀ p H', Same H H' → Dp K H' (.ref p) (pairD x d) → D.rt (.ref p) H') :
    tRet (tTup (tCons (tC (.str x)) (tCons te tNil))) D σ H := h _ ⟨by show 2 ≤ sizeLine; decide, fun p np => k p _ (same_upd np) (.tup (.of upd_same) (.cons (.str x) (.cons (Dp.to hd (same_upd np)) .nil)))⟩
structure Apart (K : PySem.W.Frag) (C C' : Addr) : Prop where
  no : PySem.W.exmOne K (.ref C) (.ref C') = some false
structure NmAt (mg : Str → Option Value) (x : Str) (C : Addr) : Prop where
  gC : mg x = some (.ref C)
theorem lay_net (N : Net) : (netD N).canLay0 = true ∧ (netD N).depth ≤ 3 := by
  have h := lay_lnks N.ls
  constructor
  · show (true && (PyData.canLayAll0 (N.ls.map lnkD) && true)) = true
    rw [h.1]
    rfl
  · show max 0 (max (PyData.depthAll (N.ls.map lnkD) + 1) 0) + 1 ≤ 3
    have := h.2
    omega
theorem shaped_pair {x : Str} {d : PyData} (hx : PyData.canLay0 (.str x) = true) (h : d.canLay0 = true) (h2 : d.depth ≤ 3) : SeqAt.shaped (pairD x d) = true := by
  show ((PyData.canLay0 (.str x) && (d.canLay0 && true)) && decide (max 0 (max d.depth 0) + 1 ≤ 64)) = true
  rw [hx, h, decide_eq_true (by omega)]
  rfl
theorem refl_of {d : PyData} (h : SeqAt.shaped d = true) : PyData.eqv d d = true := SeqAt.eqv_refl _ (Bool.and_eq_true_iff.mp h).1
theorem ax_ne {K : PySem.W.Frag} {σ : L2.St} {H : Hp} {te te2 : TE} {d : PyData} (hd : SeqAt.shaped d = true) (h1 : ∀ Q : VK, (∀ v H', Same H H' → Dp K H' v d → Q v H') → te σ H Q) (h2 : ∀ H', Same H H' → ∀ Q : VK, (∀ v H2, Same H' H2 → Dp K H2 v d → Q v H2) → te2 σ H' Q) :
    Ax (tTest (tOp (rNeD K) te te2)) σ H false := fun Q k => h1 _ fun v H1 s1 d1 => h2 H1 s1 _ fun u H2 s2 d2 => ⟨d, d, Dp.to d1 s2, d2, hd, hd, _, rfl, by
  rw [refl_of hd]
  exact k H2 (s1.trans s2)⟩
theorem ax_neV {σ : L2.St} {H : Hp} {ta tb : TE} {x y : V} (ha : Vl ta σ H x) (hb : Ve tb σ H y) (hs : scal x y = true) : Ax (tTest (tOp rNe ta tb)) σ H (!decide (x = y)) := fun Q k => ha _ (hb _ fun H' s' => ⟨hs, _, rfl, k H' s'⟩)
theorem lay_ints : ∀ ns : List Int, PyData.canLayAll0 (ns.map PyData.int) = true ∧ PyData.depthAll (ns.map PyData.int) = 0
  | [] => ⟨rfl, rfl⟩
  | n :: ns => by
    have h := lay_ints ns
    constructor
    · show (true && PyData.canLayAll0 (ns.map PyData.int)) = true
      rw [h.1]
      rfl
    · show max 0 (PyData.depthAll (ns.map PyData.int)) = 0
      rw [h.2]
      rfl
theorem shaped_ints (ns : List Int) : SeqAt.shaped (.list (ns.map PyData.int)) = true := by
  have h := lay_ints ns
  show (PyData.canLayAll0 (ns.map PyData.int) && decide (PyData.depthAll (ns.map PyData.int) + 1 ≤ 64)) = true
  rw [h.1, h.2]
  rfl
/-! ### heaps with two objects that change -/
def B2 (H : Hp) (o q : Addr) : Hp := but (but H o) q
theorem b2_same {H : Hp} {o q : Addr} : Same (B2 H o q) H := but_same.trans but_same
theorem same_b2 {G H : Hp} {o q : Addr} (s : Same G H) (n : G o = none) (m : G q = none) : Same G (B2 H o q) := same_but (same_but s n) m
theorem b2_mono {H H' : Hp} {o q : Addr} (s : Same H H') : Same (B2 H o q) (B2 H' o q) := but_mono (but_mono s)
theorem b2_upd1 {H : Hp} {o q : Addr} {u : HO} : B2 (upd H o u) o q = B2 H o q := by
  unfold B2
  rw [but_upd]
theorem b2_upd2 {H : Hp} {o q : Addr} {u : HO} : B2 (upd H q u) o q = B2 H o q := by
  funext b
  unfold B2
  by_cases h : b = q
  · rw [h, but_at, but_at]
  · rw [but_ne h, but_ne h]
    by_cases h2 : b = o
    · rw [h2, but_at, but_at]
    · rw [but_ne h2, but_ne h2, upd_ne h]
theorem b2_get {H : Hp} {o q a : Addr} {u : HO} (h : H a = some u) (h1 : a ≠ o) (h2 : a ≠ q) : B2 H o q a = some u := by
  unfold B2
  rw [but_ne h2, but_ne h1]
  exact h
/-! ### comprehensions over ints -/
section
variable {K : PySem.W.Frag} {σ : L2.St} {H : Hp} {ta tb te tl td ty tv : TE} {tr : TA} {D : Ends} {tw : TS} {tt : TT} {v : V}
theorem an_yes : An tYes σ H true := fun _ q => q
theorem vn_lcI {j : Nat} {ns : List Int} {pb : Int → Bool} {f : Int → V} (hl : ∀ Q : VK, (∀ a H1, Same H H1 → SqL K H1 a (ns.map V.int) → Q (.ref a) H1) → tl σ H Q) (hz : ns.length ≤ 1000000)
    (ht : ∀ x ∈ ns, ∀ H', Same H H' → An tt ((σ.set j none).set j (some (.int x))) H' (pb x)) (he : ∀ x ∈ ns, ∀ H', Same H H' → Vl te ((σ.set j none).set j (some (.int x))) H' (f x)) :
    Vn (tLc (iList K tl) (gName j) tt te [j]) σ H ((ns.filter pb).map f) := fun Q q => by
  refine hl _ fun a H1 s1 hx => ⟨a, rfl, ⟨_, hx⟩, fun D nD => lc_list (xs := ns.map V.int) (fun i H' => H' D = some (.lst (((ns.take i).filter pb).map f)) ∧ Same H1 H') ⟨upd_same, same_upd nD⟩ (fun i H' _ hP => hP.2.seq hx) (fun i x H2 hi hP => ?_) (fun H2 hP => ?_)⟩
  · obtain ⟨hD, s2⟩ := hP
    rw [List.getElem?_map] at hi
    cases hg : ns[i]? with
    | none =>
      rw [hg] at hi
      cases hi
    | some n =>
      rw [hg] at hi
      cases hi
      have hm := List.mem_of_getElem? hg
      have e : (ns.take (i + 1)).filter pb = (ns.take i).filter pb ++ [n].filter pb := by
        rw [take_snoc hg]
        exact List.filter_append ..
      refine ⟨?_, ht n hm H2 (s1.trans s2) _ ?_⟩
      · show ((σ.set j none).set j (some (V.int n))).set j none = σ.set j none
        rw [List.set_set, List.set_set]
      · cases hp : pb n with
        | true =>
          have e2 : [n].filter pb = [n] := by
            rw [List.filter_cons, hp]
            rfl
          refine iteT (B := H2 D = some (.lst (((ns.take (i + 1)).filter pb).map f)) ∧ Same H1 H2) (he n hm H2 (s1.trans s2) _ ⟨_, hD, ?_, ?_, same_upd' s2 nD⟩)
          · rw [List.length_map]
            have h1 : ((ns.take i).filter pb).length ≤ ns.length := Nat.le_trans (List.length_filter_le _ _) (by rw [List.length_take]; exact Nat.min_le_right _ _)
            exact Nat.lt_of_le_of_lt (m := 1000000) (by omega) (by decide)
          · rw [upd_same, e, e2, List.map_append]
            rfl
        | false =>
          have e2 : [n].filter pb = [] := by
            rw [List.filter_cons, hp]
            rfl
          refine iteF ⟨?_, s2⟩
          rw [e, e2, List.append_nil]
          exact hD
  · obtain ⟨hD, s2⟩ := hP
    rw [List.length_map, List.take_length] at hD
    exact q D H2 (s1.trans s2) (Same.free s1 nD) hD
theorem vn_lcR {j : Nat} {n : Int} {pb : Int → Bool} {f : Int → V} (hl : Va tr σ H [.int n]) (h0 : 0 ≤ n) (hz : n ≤ 1000000)
    (ht : ∀ x : Int, 0 ≤ x → x < n → ∀ H', Same H H' → An tt ((σ.set j none).set j (some (.int x))) H' (pb x)) (he : ∀ x : Int, 0 ≤ x → x < n → ∀ H', Same H H' → Vl te ((σ.set j none).set j (some (.int x))) H' (f x)) :
    Vn (tLc (iRng1 tr) (gName j) tt te [j]) σ H (((((List.range n.toNat).map fun (i : Nat) => (i : Int))).filter pb).map f) := fun Q q => by
  refine hl _ ⟨n, rfl, by omega, by omega, fun D nD => lc_range (lo := 0) (n := n.toNat) (fun i H' => H' D = some (.lst ((((List.range i).map fun (i : Nat) => (i : Int)).filter pb).map f)) ∧ Same H H') ⟨upd_same, same_upd nD⟩ (fun i H2 hi hP => ?_) (fun H2 hP => ?_)⟩
  · obtain ⟨hD, s2⟩ := hP
    have e : (((List.range (i + 1)).map fun (i : Nat) => (i : Int)).filter pb) = ((List.range i).map fun (i : Nat) => (i : Int)).filter pb ++ [(i : Int)].filter pb := by
      rw [List.range_succ, List.map_append]
      exact List.filter_append ..
    rw [Int.zero_add]
    refine ⟨?_, ht i (by omega) (by omega) H2 s2 _ ?_⟩
    · show ((σ.set j none).set j (some (V.int i))).set j none = σ.set j none
      rw [List.set_set, List.set_set]
    · cases hp : pb (i : Int) with
      | true =>
        have e2 : [(i : Int)].filter pb = [(i : Int)] := by
          rw [List.filter_cons, hp]
          rfl
        refine iteT (B := H2 D = some (.lst ((((List.range (i + 1)).map fun (i : Nat) => (i : Int)).filter pb).map f)) ∧ Same H H2) (he i (by omega) (by omega) H2 s2 _ ⟨_, hD, ?_, ?_, same_upd' s2 nD⟩)
        · rw [List.length_map]
          have h1 : (((List.range i).map fun (i : Nat) => (i : Int)).filter pb).length ≤ i := Nat.le_trans (List.length_filter_le _ _) (by rw [List.length_map, List.length_range]; exact Nat.le_refl _)
          exact Nat.lt_of_le_of_lt (m := 1000000) (by omega) (by decide)
        · rw [upd_same, e, e2, List.map_append]
          rfl
      | false =>
        have e2 : [(i : Int)].filter pb = [] := by
          rw [List.filter_cons, hp]
          rfl
        refine iteF ⟨?_, s2⟩
        rw [e, e2, List.append_nil]
        exact hD
  · obtain ⟨hD, s2⟩ := hP
    exact q D H2 s2 nD hD
/-! ### dicts by ints -/
theorem vl_dgetI {o : Addr} {p : Int} {kvs : List (Key × V)} (ho : Vl td σ H (.ref o)) (hk : Vl ty σ H (.int p)) (hd : H o = some (.dK kvs)) (hv : valV kvs (.inl p) = some v) : Vl (tDGet td ty) σ H v := fun Q q => ho _ (hk _ ⟨o, v, rfl, by
  rw [← hv]
  exact DGet.k (k := .inl p) hd, q⟩)
theorem q_dnewK {i : Nat} (k : ∀ p, H p = none → tw D (σ.set i (some (.ref p))) (upd H p (.dK []))) : tSeq (tAsg tDNewK (gName i)) tw D σ H := k
theorem g_dputN {o : Addr} {p : Int} {kvs : List (Key × V)} {xs : List V} (hv : Vn tv σ H xs) (ho : ∀ H', Same H H' → Vl td σ H' (.ref o)) (hk : ∀ H', Same H H' → Vl ty σ H' (.int p)) (hd : H o = some (.dK kvs)) (hl : kvs.length < sizeLine)
    (k : ∀ a H', Same H H' → H a = none → H' a = some (.lst xs) → D.nx σ (upd H' o (.dK (putK kvs (.inl p) (.ref a))))) : sDPut td ty tv D σ H := hv _ fun a H' s' na ea => ho H' s' _ (hk H' s' _ ⟨o, _, rfl, DPut.k (k := .inl p) (s' _ _ hd) hl, k a H' s' na ea⟩)
theorem g_dputV {o : Addr} {p : Int} {kvs : List (Key × V)} (hv : Vl tv σ H v) (ho : Vl td σ H (.ref o)) (hk : Vl ty σ H (.int p)) (hd : H o = some (.dK kvs)) (hl : kvs.length < sizeLine)
    (k : D.nx σ (upd H o (.dK (putK kvs (.inl p) v)))) : sDPut td ty tv D σ H := hv _ (ho _ (hk _ ⟨o, _, rfl, DPut.k (k := .inl p) hd hl, k⟩))
end
theorem hu_of {k : Nat} {A : Around} (r : Room k A) : A.units + 1 < cLine := by
  have := r.units
  omega
theorem dI {i j : Int} : decide (V.int i = V.int j) = decide (i = j) := by
  rw [Bool.eq_iff_iff, decide_eq_true_eq, decide_eq_true_eq]
  exact ⟨fun z => V.int.inj z, fun z => by rw [z]⟩
theorem vn_catV {K : PySem.W.Frag} {σ : L2.St} {H : Hp} {ta tb : TE} {a : Addr} {xs ys : List V} (ha : Vn ta σ H xs) (hb : ∀ H', Same H H' → Vl tb σ H' (.ref a)) (hA : H a = some (.lst ys)) (hz : xs.length + ys.length ≤ sizeLine) : Vn (tOp rCat ta tb) σ H (xs ++ ys) := fun Q q => ha _ fun p H1 s1 np hp => hb H1 s1 _
  ⟨p, a, xs, ys, rfl, rfl, hp, s1 _ _ hA, hz, fun t nt => q t _ (s1.trans (same_upd nt)) (Same.free s1 nt) upd_same⟩
theorem putK_len {κ : Type} [DecidableEq κ] {kvs : List (κ × V)} {k : κ} {v : V} (h : (valV kvs k).isSome = true) : (putK kvs k v).length = kvs.length := by
  unfold putK
  rw [valV_any, if_pos h, List.length_map]
/-! ### a law's own def, called from without: nothing is being shown there -/
structure FnG (P : Program) (w : World) (K : PySem.W.Frag) (mg : Str → Option Value) (base : Heap) (f : Addr) (fd : FuncData) (ps : List Str) (sp : Sp) : Prop where
  go : ∀ (s : Shared) (H : Hp) (us : List Value) (vs : List V) (Q : VK) (E : XK), Env0 P w K mg base callerA [] s H → BindsTo s fd ⟨us, []⟩ (ps.zip us) → Vals vs us → sp vs H Q E → codeAny (model P w) callerA (.call (.ref f) ⟨us, []⟩) (CR CX0 [] P w H s Q E) s
section
variable {P : Program} {w : World} {K : PySem.W.Frag} {mg : Str → Option Value} {base : Heap}
theorem okG {x qual : Str} {st : Stmt} {f : Addr} {fd : FuncData} {N ps : List Str} {k : Nat} {sp : Sp} (F : Fun K x qual st f fd) (S : FnScope N ps (defScope st)) (room : Room (k + 1) callerA) (count : ∀ vs H Q E, sp vs H Q E → vs.length = ps.length)
    (body : ∀ (cdv : Value) (s : Shared) (H : Hp) (vs : List V) (Q : VK) (E : XK), Room k (callerA.deeper (envOfC qual (defScope st) s.heap.objs.size f cdv)) → sp vs H Q E →
      ∃ t, PSs (cxOf CX0 P w K mg base N qual (defScope st) f cdv callerA [] s H E).nox (defBody st) t ∧ t { nx := fun _ H' => Q .non H', rt := Q } (start N vs) H) : FnG P w K mg base f fd ps sp := by
  obtain ⟨oc, od, kV, doc, pm, an, cdv, ct, osl, efd, look, code⟩ := F.ex
  subst efd
  refine ⟨fun s H us vs Q E env bnd rel want => ?_⟩
  have old : ∀ b o, base.get? b = some o → s.heap.get? b = some o := fun b o e => (env.bs b o e).1
  have kin : K.In s.heap := env.mod.kin.keeps old
  have lims : s.heap.NoLimit := env.mod.nolimit.keeps old
  refine codeAny_call_function room.depth (kin _ _ look) rfl S.co S.gen rfl (PySem.W.codeRec_of kin code) (bnd _ _ _ _ ?_)
  refine wpAny_newFunctionEnv_cells S.kind (fun y hy => ?_) fun fresh same s1 made => ?_
  · obtain ⟨n, v⟩ := y
    cases S.par n (List.of_mem_zip hy).1 with
    | inl q => exact .inl q
    | inr q => exact .inr ⟨q, PySem.W.cellsFrom_some _ _ _ (.inl q)⟩
  cases same
  refine ⟨lims.keeps made.toInCall.keep, codeAny_func ?_⟩
  obtain ⟨t, prog, ends⟩ := body cdv s H vs Q E (room.deeper _) want
  have inv : Inv (cxOf CX0 P w K mg base N qual (defScope st) f cdv callerA [] s H E) [] (start N vs) H s1 := inv_start S room.hd env (count _ _ _ _ want) rel made
  refine wpAny_mono (prog.nox.run [] s1 (start N vs) H _ inv ends) (fun fl s2 got => ?_) fun e s2 got => got
  cases fl with
  | ret u => exact let ⟨v, _, H2, J, rv, q⟩ := got; ⟨v, H2, J.os, J.bare, J.base, J.hok, rv, q⟩
  | next => exact let ⟨_, H2, J, q⟩ := got; ⟨V.non, H2, J.os, J.bare, J.base, J.hok, rfl, q⟩
  | brk => exact let ⟨_, _, _, q⟩ := got; False.elim q
  | cont => exact let ⟨_, _, _, q⟩ := got; False.elim q
variable {mb : Str → Option Value} {fa a : Addr} {fd : FuncData} {x : Str} {sp : Sp} {s1 : Shared} {vs : List Value} {ns : List Int}
abbrev scr (vs : List Value) : Obj := { cls := .type "list", data := .seq vs.toArray }
/-- from a heap in which at most the script is told -/
theorem runG_core (kin : K.In s1.heap) (gl : s1.heap.Ns mainGlobals mg) (bl : s1.heap.Ns builtinsNs mb) (bo : ∀ x : Str, x ≠ "__name__" → mb x = bootBuiltins x) (lim : s1.heap.NoLimit) (gen : s1.gens = #[]) (ha : s1.heap.get? a = some (scr vs))
    (F : ∀ base : Heap, K.In base → base.Ns mainGlobals mg → FnG P w K mg base fa fd [x] sp) (bind : ∀ (s : Shared) (u : Value), BindsTo s fd ⟨[u], []⟩ [(x, u)]) {H : Hp} (only : Only H) (want : sp [.ref a] H (fun v _ => v = .bl true) fun _ _ _ => False) (hok : HOk P w H s1.heap)
    (alone : ∀ b, H b ≠ none → b = a) (free : H a ≠ none → K.lookup a = none) :
    codeAny (model P w) callerA (.call (.ref fa) ⟨[.ref a], []⟩) (fun r s' => r = .ok (.ret (.bool true)) ∧ OldK s1.heap s'.heap ∧ s'.os = s1.os ∧ AllBare s'.gens) s1 := by
  have none_of : ∀ {b : Addr} {o : Obj}, s1.heap.get? b = some o → (b = a → H a ≠ none → False) → (hidT s1.heap H).get? b = some o := fun {b o} e no => hidT_get e (by
    cases q : H b with
    | none => rfl
    | some u =>
      have n : H b ≠ none := by rw [q]; exact fun z => nomatch z
      have eb := alone b n
      subst eb
      exact (no rfl n).elim)
  have names : ∀ {b : Addr} {m : Str → Option Value}, s1.heap.Ns b m → (hidT s1.heap H).Ns b m := fun {b m} ⟨o, es, ep, e, d, r⟩ => ⟨o, es, ep, none_of e (fun eb _ => by
    subst eb
    rw [ha] at e
    cases e
    have d : Data.seq vs.toArray _ = Data.dict es ep := d
    cases d), d, r⟩
  have kin2 : K.In (hidT s1.heap H) := fun b o e => none_of (kin b o e) fun eb n => by
    subst eb
    rw [free n] at e
    cases e
  have mod : Mod K mg (hidT s1.heap H) := ⟨kin2, names gl, ⟨mb, names bl, bo⟩, let ⟨mc, h1, h2⟩ := lim; ⟨mc, names h1, h2⟩⟩
  have env : Env0 P w K mg (hidT s1.heap H) callerA [] s1 H := ⟨rfl, mod, fun b o e => of_hidT e, Nat.le_of_eq (hidT_size _ _), trivial, fun b hb => (nomatch (show b ∈ ([] : List Addr) from hb)), hok, .of_eq gen⟩
  refine codeAny_mono ((F _ kin2 (names gl)).go s1 H [.ref a] [.ref a] _ _ env (bind s1 (.ref a)) (.cons rfl .nil) want) fun r s2 got => ?_
  match r, got with
  | .ok (.ret u), got =>
    obtain ⟨v, H2, os, bare, un, hok2, rel, q⟩ := got
    have q : v = .bl true := q
    cases q
    have rel : u = Value.bool true := rel
    cases rel
    refine ⟨rfl, OldK.of_keep fun b o e => ?_, os, bare⟩
    rcases only b with z | ⟨ob, xs, z⟩
    · exact un.keep b o e z (fun m => (nomatch (show b ∈ ([] : List Addr) from m))) (fun m => (nomatch m))
    · obtain ⟨e1, _⟩ := hok b _ z
      obtain ⟨e2, _⟩ := hok2 b _ (un.frzs b ob _ z)
      rw [e] at e1
      cases e1
      exact e2
theorem runG (kin : K.In s1.heap) (gl : s1.heap.Ns mainGlobals mg) (bl : s1.heap.Ns builtinsNs mb) (bo : ∀ x : Str, x ≠ "__name__" → mb x = bootBuiltins x) (lim : s1.heap.NoLimit) (gen : s1.gens = #[]) (ha : s1.heap.get? a = some (scr vs)) (hin : IntsAre vs ns) (hl : ns.length ≤ sizeLine)
    (F : ∀ base : Heap, K.In base → base.Ns mainGlobals mg → FnG P w K mg base fa fd [x] sp) (bind : ∀ (s : Shared) (u : Value), BindsTo s fd ⟨[u], []⟩ [(x, u)]) (want : ∀ H : Hp, Only H → SqL K H a (ns.map V.int) → sp [.ref a] H (fun v _ => v = .bl true) fun _ _ _ => False) :
    codeAny (model P w) callerA (.call (.ref fa) ⟨[.ref a], []⟩) (fun r s' => r = .ok (.ret (.bool true)) ∧ OldK s1.heap s'.heap ∧ s'.os = s1.os ∧ AllBare s'.gens) s1 := by
  have rel := vals_ints hin
  have size : vs.toArray.size ≤ sizeLine := by
    rw [List.size_toArray, hin.length]
    exact hl
  cases hk : K.lookup a with
  | some o =>
    have e := (kin a o hk).symm.trans ha
    cases e
    have only : Only (fun _ : Addr => (none : Option HO)) := fun _ => .inl rfl
    exact runG_core kin gl bl bo lim gen ha F bind only (want _ only (.inr ⟨_, vs.toArray, _, hk, rfl, rfl, rfl, size, by simpa using rel⟩)) (fun b u z => (nomatch (show (none : Option HO) = some u from z))) (fun b z => absurd rfl z) fun z => absurd rfl z
  | none =>
    let H : Hp := fun b => if b = a then some (.frz (scr vs) (.lst (ns.map V.int))) else none
    have at_ : H a = some (.frz (scr vs) (.lst (ns.map V.int))) := if_pos rfl
    have off : ∀ b, b ≠ a → H b = none := fun b hb => if_neg hb
    have only : Only H := fun b => by
      by_cases hb : b = a
      · subst hb
        exact .inr ⟨_, _, at_⟩
      · exact .inl (off b hb)
    refine runG_core kin gl bl bo lim gen ha F bind only (want _ only (.inl (.inr ⟨scr vs, at_⟩))) (fun b u z => ?_) (fun b z => ?_) fun _ => hk
    · by_cases hb : b = a
      · subst hb
        cases at_.symm.trans z
        exact ⟨ha, by rw [List.length_map]; exact hl, vs, _, rel, ha⟩
      · cases (off b hb).symm.trans z
    · by_cases hb : b = a
      · exact hb
      · exact absurd (off b hb) z
end
/-- the head -/
theorem walkG {l : PySem.W.OpenLaw} {n : Nat} {q : Program} {loose : List Str} {XP : (Str → Option Value) → Heap → Prop} {YP : World → Heap → Prop} {d : DefRec} {K : Params → PySem.W.Frag} {sp : World → Sp} {x : Str} (hn : l.most = some n) (hn2 : n ≤ sizeLine) (hdf : d.params.defaults = []) (hY : ∀ (w : World) (h : Heap), YP w h → (K w.params).In h)
    (F : ∀ (w : World) (mg : Str → Option Value) (fa : Addr) (h : Heap), (K w.params).In h → h.Ns mainGlobals mg → mg d.name = some (.ref fa) → ∃ fd : FuncData, (∀ (s : Shared) (u : Value), BindsTo s fd ⟨[u], []⟩ [(x, u)]) ∧ ∀ base : Heap, (K w.params).In base → base.Ns mainGlobals mg → FnG l.prog w (K w.params) mg base fa fd [x] (sp w))
    (want : ∀ (w : World) (H : Hp) (a : Addr) (ns : List Int), ns.length ≤ n → Only H → SqL (K w.params) H a (ns.map V.int) → sp w [.ref a] H (fun v _ => v = .bl true) fun _ _ _ => False) : PySem.W.WalkO q loose XP YP l.row.toRowW d [] (fun f vs => PySem.call f vs) :=
  Att.attach_call hn hdf fun w s₀ s₁ mg mb fa o pm cd doc a vs ns G Y ho hd hcd hmg hobj hints hlen hg => by
    obtain ⟨fd, bnd, fn⟩ := F w mg fa _ (hY w _ Y) G.T.g hmg
    exact runG (hY w _ Y) G.T.g G.T.b G.T.builtins G.T.nolimit hg hobj hints (Nat.le_trans hlen hn2) fn bnd fun H o q => want w H a ns hlen o q
/-! ### repr of data -/
def rRepr (K : PySem.W.Frag) : List V → Hp → VK → Prop := fun xs H Q => ∃ a d, xs = [.ref a] ∧ Dp K H (.ref a) d ∧ d.showable = true ∧ d.hasDict = false ∧ d.depth ≤ 60 ∧ d.shown.length ≤ sizeLine ∧ Q (.str d.shown) H
theorem call_reprD {X : Cx} (hg : X.A.guards = some []) (hu : X.A.units + 64 < cLine) : CallR X (.builtin "repr") (rRepr X.K) := by
  intro pins s σ H xs us Q I r h
  obtain ⟨a, d, rfl, hd, sh, nd, dep, len, q⟩ := h
  obtain ⟨u, rfl, e⟩ := vals1 r
  cases e
  obtain ⟨as, rd⟩ := Dp.reads I d _ _ hd rfl
  exact repr_of_reads' rd sh (PyData.noDict_hsm nd) hg (by omega) (fun _ _ e => e) (fun h' u tk keep => ⟨.str d.shown, H, I.kept keep, ⟨u, rfl⟩, q⟩) len
theorem ve_repr {K : PySem.W.Frag} {σ : L2.St} {H : Hp} {tr : TA} {xs : List V} {d : PyData} (h : Va tr σ H xs) (hz : xs.length ≤ sizeLine) (hd : ∀ T H', Same H H' → H' T = some (.tup xs) → Dp K H' (.ref T) d) (h1 : d.showable = true) (h2 : d.hasDict = false) (h3 : d.depth ≤ 60) (h4 : d.shown.length ≤ sizeLine) :
    Ve (tCB (rRepr K) (tCons (tTup tr) tNil)) σ H (.str d.shown) := fun Q q => h _ ⟨hz, fun T nT => ⟨T, d, rfl, hd T _ (same_upd nT) upd_same, h1, h2, h3, h4, q _ (same_upd nT)⟩⟩
theorem ve_repr1 {K : PySem.W.Frag} {σ : L2.St} {H : Hp} {te : TE} {a : Addr} {d : PyData} (h : Vl te σ H (.ref a)) (hd : Dp K H (.ref a) d) (h1 : d.showable = true) (h2 : d.hasDict = false) (h3 : d.depth ≤ 60) (h4 : d.shown.length ≤ sizeLine) :
    Ve (tCB (rRepr K) (tCons te tNil)) σ H (.str d.shown) := fun Q q => h _ ⟨a, d, rfl, hd, h1, h2, h3, h4, q _ (Same.refl _)⟩
/-! ### orders -/
def rng (n : Int) : List Int := (List.range n.toNat).map fun (i : Nat) => (i : Int)
def OrdOk (n : Int) (os : List Int) : Prop := os.Perm (rng n)
theorem mem_rng {n x : Int} : x ∈ rng n ↔ 0 ≤ x ∧ x < n := by
  unfold rng
  rw [List.mem_map]
  constructor
  · rintro ⟨i, hi, rfl⟩
    rw [List.mem_range] at hi
    omega
  · intro h
    exact ⟨x.toNat, List.mem_range.mpr (by omega), by omega⟩
theorem len_rng {n : Int} : (rng n).length = n.toNat := by
  unfold rng
  rw [List.length_map, List.length_range]
theorem nodup_rng {n : Int} : (rng n).Nodup := by
  unfold rng
  show List.Pairwise (· ≠ ·) _
  rw [List.pairwise_map]
  exact List.Pairwise.imp (fun h z => h (Int.ofNat.inj z)) List.nodup_range
theorem rng_succ (i : Nat) : rng ((i + 1 : Nat) : Int) = rng (i : Nat) ++ [(i : Int)] := by
  unfold rng
  rw [Int.toNat_natCast, Int.toNat_natCast, List.range_succ, List.map_append]
  rfl
theorem OrdOk.mem {n x : Int} {os : List Int} (h : OrdOk n os) : x ∈ os ↔ 0 ≤ x ∧ x < n := (h.mem_iff).trans mem_rng
theorem OrdOk.nodup {n : Int} {os : List Int} (h : OrdOk n os) : os.Nodup := (List.Perm.nodup_iff h).mpr nodup_rng
theorem OrdOk.len {n : Int} {os : List Int} (h : OrdOk n os) : os.length = n.toNat := (List.Perm.length_eq h).trans len_rng
theorem perm_of_sub : ∀ (xs ys : List Int), xs.Nodup → (∀ x ∈ xs, x ∈ ys) → ys.length ≤ xs.length → xs.Perm ys
  | [], ys, _, _, hl => by
    rw [List.eq_nil_of_length_eq_zero (Nat.le_zero.mp hl)]
  | x :: xs, ys, hn, hs, hl => by
    have hx := hs x List.mem_cons_self
    have hn := List.nodup_cons.mp hn
    have e := List.length_erase_of_mem hx
    have h := perm_of_sub xs (ys.erase x) hn.2 (fun y hy => (List.mem_erase_of_ne (fun z => hn.1 (by rw [← z]; exact hy))).mpr (hs y (List.mem_cons_of_mem _ hy))) (by
      rw [e]
      rw [List.length_cons] at hl
      omega)
    exact (h.cons x).trans (List.perm_cons_erase hx).symm
theorem ord_of {n : Int} {os : List Int} (hn : os.Nodup) (hm : ∀ x ∈ os, 0 ≤ x ∧ x < n) (hl : os.length = n.toNat) : OrdOk n os :=
  perm_of_sub _ _ hn (fun x hx => mem_rng.mpr (hm x hx)) (by rw [len_rng, hl]; exact Nat.le_refl _)
section
variable {K : PySem.W.Frag} {σ : L2.St} {H : Hp} {ta tb te : TE} {D : Ends} {tw : TS} {xs : List V}
theorem g_asgN {i : Nat} (h : Vn te σ H xs) (k : ∀ p H', Same H H' → H p = none → H' p = some (.lst xs) → D.nx (σ.set i (some (.ref p))) H') : tAsg te (gName i) D σ H := h _ k
/-- slices and sums of lists of ints -/
theorem vn_toI {ns : List Int} {a : Addr} {j : Nat} (h : Vl te σ H (.ref a)) (hj : Vl tb σ H (.int (j : Nat))) (hx : SqL K H a (ns.map V.int)) (hl : j ≤ ns.length) : Vn (tSl (rSlL K) te tNoPart (tPart tb)) σ H ((ns.take j).map V.int) := by
  have e : cutV (ns.map V.int) none (some ((j : Nat) : Int)) = (ns.take j).map V.int := by
    rw [cut_to (by rw [List.length_map]; exact hl), List.map_take]
  rw [← e]
  exact vn_slice h (fun _ q => q) (fun Q q => hj _ ⟨_, rfl, q⟩) hx
theorem vn_fromI {ns : List Int} {a : Addr} {j : Nat} (h : Vl te σ H (.ref a)) (hj : Vl tb σ H (.int (j : Nat))) (hx : SqL K H a (ns.map V.int)) (hl : j ≤ ns.length) : Vn (tSl (rSlL K) te (tPart tb) tNoPart) σ H ((ns.drop j).map V.int) := by
  have e : cutV (ns.map V.int) (some ((j : Nat) : Int)) none = (ns.drop j).map V.int := by
    rw [cut_from (by rw [List.length_map]; exact hl), List.map_drop]
  rw [← e]
  exact vn_slice h (fun Q q => hj _ ⟨_, rfl, q⟩) (fun _ q => q) hx
theorem vn_oneI {n : Int} (h : Vl te σ H (.int n)) : Vn (tLst (tCons te tNil)) σ H (([n] : List Int).map V.int) := vn_lst (va_cons h va_nil) (by show 1 ≤ sizeLine; decide)
theorem vn_catI {ms ns : List Int} (ha : Vn ta σ H (ms.map V.int)) (hb : ∀ H', Same H H' → Vn tb σ H' (ns.map V.int)) (hz : ms.length + ns.length ≤ 1000000) : Vn (tOp rCat ta tb) σ H ((ms ++ ns).map V.int) := by
  rw [List.map_append]
  exact vn_cat ha hb (by
    rw [List.length_map, List.length_map]
    exact Nat.le_trans hz (by decide))
theorem inV_int {x : Int} {ns : List Int} : inV (.int x) (ns.map V.int) = decide (x ∈ ns) := by
  unfold inV
  induction ns with
  | nil => rfl
  | cons n r ih =>
    rw [List.map_cons, List.any_cons, ih]
    show ((n == x) || decide (x ∈ r)) = _
    rw [Bool.eq_iff_iff, Bool.or_eq_true, beq_iff_eq, decide_eq_true_eq, decide_eq_true_eq, List.mem_cons]
    constructor
    · rintro (h | h)
      · exact .inl h.symm
      · exact .inr h
    · rintro (h | h)
      · exact .inl h.symm
      · exact .inr h
theorem flat_ints (ns : List Int) : (ns.map V.int).all flatV = true := by
  rw [List.all_map, List.all_eq_true]
  intro x _
  rfl
theorem vl_inI {a : Addr} {x : Int} {ns : List Int} (ha : Vl ta σ H (.int x)) (h : Vl te σ H (.ref a)) (hx : SqL K H a (ns.map V.int)) : Vl (tOp (rIn K false) ta te) σ H (.bl (decide (x ∈ ns))) := vl_op ha h fun _ k => ⟨a, _, rfl, .inl hx, rfl, flat_ints ns, by
  rw [inV_int]
  exact k⟩
theorem vl_notInI {a : Addr} {x : Int} {ns : List Int} (ha : Vl ta σ H (.int x)) (h : Vl te σ H (.ref a)) (hx : SqL K H a (ns.map V.int)) : Vl (tOp (rIn K true) ta te) σ H (.bl (!decide (x ∈ ns))) := vl_op ha h fun _ k => ⟨a, _, rfl, .inl hx, rfl, flat_ints ns, by
  rw [inV_int]
  exact k⟩
theorem vl_ixI {a : Addr} {ns : List Int} {j : Nat} {x : Int} (ha : Vl ta σ H (.ref a)) (hb : Vl tb σ H (.int (j : Nat))) (h : SqL K H a (ns.map V.int)) (hg : ns[j]? = some x) : Vl (tOp (rIxL K) ta tb) σ H (.int x) := vl_ixL ha hb h (atI_nat (by
  rw [List.getElem?_map, hg]
  rfl))
theorem vl_lenI {a : Addr} {ns : List Int} (ha : Vl ta σ H (.ref a)) (h : SqL K H a (ns.map V.int)) : Vl (tCB (fun xs H Q => ∃ p ys, xs = [V.ref p] ∧ (SqL K H p ys ∨ SqT K H p ys) ∧ Q (V.int ys.length) H) (tCons ta tNil)) σ H (.int ns.length) := (vl_lenL ha h).is (by rw [List.length_map])
end
section
variable {K : PySem.W.Frag} {σ : L2.St} {H : Hp} {ta tb te : TE} {b k m : Bool}
theorem vn_catL {a : Addr} {ms ns : List Int} (ha : Vl ta σ H (.ref a)) (hA : H a = some (.lst (ms.map V.int))) (hb : Vn tb σ H (ns.map V.int)) (hz : ms.length + ns.length ≤ 1000000) : Vn (tOp rCat ta tb) σ H ((ms ++ ns).map V.int) := fun Q q =>
  ha _ (hb _ fun p H1 s1 np hp => ⟨a, p, _, _, rfl, rfl, s1 _ _ hA, hp, by
    rw [List.length_map, List.length_map]
    exact Nat.le_trans hz (by decide), fun t nt => by
    rw [← List.map_append]
    exact q t _ (s1.trans (same_upd nt)) (Same.free s1 nt) upd_same⟩)
theorem vn_lstRg {n : Int} (h : Vl ta σ H (.int n)) (h0 : 0 ≤ n) (h1 : n ≤ 1000000) : Vn (tLstRg (tRg1 ta)) σ H ((rng n).map V.int) := fun Q q => h _ ⟨n, rfl, RgOk.of_le (by omega) (by omega) (by omega) h0, fun p np => by
  have e : rgV 0 n = (rng n).map V.int := by
    unfold rgV rng
    rw [List.map_map, Int.sub_zero]
    exact List.map_congr_left fun i _ => by
      rw [Int.zero_add]
      rfl
  rw [e]
  exact q p _ (same_upd np) np upd_same⟩
theorem vl_andV (h1 : Vl ta σ H (.bl k)) (h2 : k = true → Vl tb σ H (.bl m)) : Vl (tAndV ta tb) σ H (.bl (k && m)) := fun Q q => h1 _ ⟨k, rfl, by
  cases k with
  | true => exact iteT (h2 rfl _ q)
  | false => exact iteF q⟩
theorem dB {i j : Bool} : decide (V.bl i = V.bl j) = decide (i = j) := by
  rw [Bool.eq_iff_iff, decide_eq_true_eq, decide_eq_true_eq]
  exact ⟨fun z => V.bl.inj z, fun z => by rw [z]⟩
end
theorem q_dputN {σ : L2.St} {H : Hp} {td ty tv : TE} {D : Ends} {tw : TS} {o : Addr} {p : Int} {kvs : List (Key × V)} {xs : List V} (hv : Vn tv σ H xs) (ho : ∀ H', Same H H' → Vl td σ H' (.ref o)) (hk : ∀ H', Same H H' → Vl ty σ H' (.int p)) (hd : H o = some (.dK kvs)) (hl : kvs.length < sizeLine)
    (k : ∀ a H', Same H H' → H a = none → H' a = some (.lst xs) → tw D σ (upd H' o (.dK (putK kvs (.inl p) (.ref a))))) : tSeq (sDPut td ty tv) tw D σ H := g_dputN (D := { D with nx := tw D }) hv ho hk hd hl k
def spOrder (K : PySem.W.Frag) : Sp := fun vs H Q _ => ∃ (d : Addr) (ds : List Int) (k n : Int), vs = [.ref d, .int k, .int n] ∧ SqL K H d (ds.map V.int) ∧ 0 ≤ k ∧ 0 ≤ n ∧ n ≤ 40 ∧ ∀ H' p os, Same H H' → H p = none → H' p = some (.lst (os.map V.int)) → OrdOk n os → Q (.ref p) H'
/-! ### ranks -/
def fb (m : Int) : List Int → List Int → Nat → Option Nat
  | _, [], _ => none
  | seen, x :: xs, k => if (0 ≤ x ∧ x < m) ∧ x ∉ seen then fb m (seen ++ [x]) xs (k + 1) else some k
def badAt (os : List Int) : Option Nat := fb os.length [] os 0
def posOf (x : Int) : List Int → Nat
  | [] => 0
  | y :: ys => if y = x then 0 else posOf x ys + 1
def rk (os : List Int) : List Int := (rng os.length).map fun p => (posOf p os : Int)
theorem posOf_get : ∀ {os : List Int} {i : Nat} {x : Int}, os.Nodup → os[i]? = some x → posOf x os = i
  | [], _, _, _, h => by simp at h
  | y :: ys, 0, x, _, h => if_pos (Option.some.inj h)
  | y :: ys, i + 1, x, hn, h => by
    have hn := List.nodup_cons.mp hn
    have h : ys[i]? = some x := h
    have ne : ¬ y = x := fun z => hn.1 (by rw [z]; exact List.mem_of_getElem? h)
    show (if y = x then 0 else posOf x ys + 1) = i + 1
    rw [if_neg ne, posOf_get hn.2 h]
theorem posOf_lt : ∀ {os : List Int} {x : Int}, x ∈ os → os[posOf x os]? = some x
  | y :: ys, x, h => by
    show (y :: ys)[if y = x then 0 else posOf x ys + 1]? = some x
    by_cases e : y = x
    · rw [if_pos e, e]
      rfl
    · rw [if_neg e]
      rcases List.mem_cons.mp h with h | h
      · exact absurd h.symm e
      · exact posOf_lt h
theorem fb_ok {m : Int} : ∀ {xs seen : List Int} {k : Nat}, fb m seen xs k = none → seen.Nodup → (∀ x ∈ seen, 0 ≤ x ∧ x < m) → (seen ++ xs).Nodup ∧ ∀ x ∈ seen ++ xs, 0 ≤ x ∧ x < m
  | [], seen, k, _, hn, hm => by
    rw [List.append_nil]
    exact ⟨hn, hm⟩
  | x :: xs, seen, k, h, hn, hm => by
    have h : (if (0 ≤ x ∧ x < m) ∧ x ∉ seen then fb m (seen ++ [x]) xs (k + 1) else some k) = none := h
    by_cases c : (0 ≤ x ∧ x < m) ∧ x ∉ seen
    · rw [if_pos c] at h
      have := fb_ok h (List.nodup_append.mpr ⟨hn, List.nodup_cons.mpr ⟨List.not_mem_nil, .nil⟩, fun a ha b hb e => c.2 (by
        rw [List.mem_singleton] at hb
        rw [← hb, ← e]
        exact ha)⟩) (fun y hy => by
        rcases List.mem_append.mp hy with hy | hy
        · exact hm y hy
        · rw [List.mem_singleton.mp hy]
          exact c.1)
      rw [List.append_assoc] at this
      exact this
    · rw [if_neg c] at h
      cases h
theorem bad_none {os : List Int} (h : badAt os = none) : OrdOk os.length os := by
  have := fb_ok h .nil (fun _ h => nomatch h)
  exact ord_of this.1 this.2 (Int.toNat_natCast _).symm
theorem fb_none {m : Int} : ∀ {xs seen : List Int} {k : Nat}, (seen ++ xs).Nodup → (∀ x ∈ xs, 0 ≤ x ∧ x < m) → fb m seen xs k = none
  | [], _, _, _, _ => rfl
  | x :: xs, seen, k, hn, hm => by
    have c : (0 ≤ x ∧ x < m) ∧ x ∉ seen := ⟨hm x List.mem_cons_self, fun z => (List.nodup_append.mp hn).2.2 x z x List.mem_cons_self rfl⟩
    show (if (0 ≤ x ∧ x < m) ∧ x ∉ seen then fb m (seen ++ [x]) xs (k + 1) else some k) = none
    rw [if_pos c]
    exact fb_none (by
      rw [List.append_assoc]
      exact hn) fun y hy => hm y (List.mem_cons_of_mem _ hy)
theorem bad_iff {os : List Int} : badAt os = none ↔ OrdOk os.length os := ⟨bad_none, fun h => fb_none (by
  rw [List.nil_append]
  exact h.nodup) fun x hx => h.mem.mp hx⟩
def outAt (os : List Int) (i : Nat) : List Int := (rng os.length).map fun p => if p ∈ os.take i then (posOf p os : Int) else 0
theorem rng_get {n : Int} {p : Nat} (h : p < (rng n).length) : (rng n)[p] = (p : Int) := by
  simp only [rng, List.getElem_map, List.getElem_range]
theorem out_zero {os : List Int} : outAt os 0 = os.map fun _ => (0 : Int) := by
  refine List.ext_getElem ?_ fun p h1 h2 => ?_
  · unfold outAt
    rw [List.length_map, List.length_map, len_rng, Int.toNat_natCast]
  · simp only [outAt, List.getElem_map, List.take_zero, List.not_mem_nil, if_false]
theorem out_succ {os : List Int} {i : Nat} {x : Int} (ok : OrdOk os.length os) (h : os[i]? = some x) : outAt os (i + 1) = (outAt os i).set x.toNat i := by
  have hx := ok.mem.mp (List.mem_of_getElem? h)
  refine List.ext_getElem ?_ fun p h1 h2 => ?_
  · unfold outAt
    rw [List.length_set, List.length_map, List.length_map]
  · rw [List.getElem_set]
    simp only [outAt, List.getElem_map, rng_get]
    rw [take_snoc h]
    by_cases e : x.toNat = p
    · have e2 : (p : Int) = x := by omega
      rw [if_pos e, e2, if_pos (List.mem_append.mpr (.inr (List.mem_singleton.mpr rfl))), posOf_get ok.nodup h]
    · have e2 : ¬ (p : Int) = x := fun z => e (by omega)
      rw [if_neg e]
      by_cases c : (p : Int) ∈ os.take i
      · rw [if_pos c, if_pos (List.mem_append.mpr (.inl c))]
      · rw [if_neg c, if_neg (fun z => by
          rcases List.mem_append.mp z with z | z
          · exact c z
          · exact e2 (List.mem_singleton.mp z))]
theorem out_end {os : List Int} (ok : OrdOk os.length os) : outAt os os.length = rk os := by
  unfold outAt rk
  rw [List.take_length]
  exact List.map_congr_left fun p hp => if_pos (ok.mem.mpr (mem_rng.mp hp))
def dueD (os : List Int) : PyData := match badAt os with
  | some k => .tuple [.str "bad", .int (k : Nat)]
  | none => .tuple [.str "ranks", .list ((rk os).map PyData.int)]
theorem shaped_due (os : List Int) : SeqAt.shaped (dueD os) = true := by
  unfold dueD
  split
  · exact shaped_pair (x := "bad") (by decide +kernel) rfl (Nat.zero_le _)
  · refine shaped_pair (x := "ranks") (by decide +kernel) ?_ ?_
    · exact (lay_ints _).1
    · show PyData.depthAll _ + 1 ≤ 3
      rw [(lay_ints _).2]
      decide
/-- what due's tuple holds -/
def DueAt (K : PySem.W.Frag) (H : Hp) (T : Addr) (os : List Int) : Prop := match badAt os with
  | some k => SqT K H T [.str "bad", .int (k : Nat)]
  | none => ∃ q, SqT K H T [.str "ranks", .ref q] ∧ SqL K H q ((rk os).map V.int)
theorem DueAt.dp {K : PySem.W.Frag} {H : Hp} {T : Addr} {os : List Int} (h : DueAt K H T os) : Dp K H (.ref T) (dueD os) := by
  unfold DueAt at h
  unfold dueD
  cases e : badAt os with
  | some k =>
    rw [e] at h
    exact .tup h (.cons (.str _) (.cons (.int _) .nil))
  | none =>
    rw [e] at h
    obtain ⟨q, h1, h2⟩ := h
    exact .tup h1 (.cons (.str _) (.cons (Dp.ints h2) .nil))
/-! ### neighbours -/
def nearF (a : Int) (l : Lnk) : Option Int := if l.a = a then some l.b else if l.b = a then some l.a else none
def nearOf (a : Int) (ls : List Lnk) : List Int := ls.filterMap (nearF a)
theorem nearF_sum {a : Int} {l : Lnk} : nearF a l = if (l.a = a ∨ l.b = a) then some (l.a + l.b - a) else none := by
  unfold nearF
  by_cases h1 : l.a = a
  · rw [if_pos h1, if_pos (.inl h1)]
    congr 1
    omega
  · rw [if_neg h1]
    by_cases h2 : l.b = a
    · rw [if_pos h2, if_pos (.inr h2)]
      congr 1
      omega
    · rw [if_neg h2, if_neg (by omega)]
theorem nearF_iff {a o : Int} {l : Lnk} (h : l.a < l.b) : nearF a l = some o ↔ (l.a = a ∧ l.b = o) ∨ (l.a = o ∧ l.b = a) := by
  rw [nearF_sum]
  by_cases c : l.a = a ∨ l.b = a
  · rw [if_pos c]
    constructor
    · intro e
      have := Option.some.inj e
      omega
    · intro e
      congr 1
      omega
  · rw [if_neg c]
    constructor
    · intro e
      cases e
    · intro e
      omega
def adj0 (ls : List Lnk) (x y : Int) : Bool := ls.any fun l => decide ((l.a = x ∧ l.b = y) ∨ (l.a = y ∧ l.b = x))
theorem adj0_iff {ls : List Lnk} {x y : Int} : adj0 ls x y = true ↔ ∃ l ∈ ls, (l.a = x ∧ l.b = y) ∨ (l.a = y ∧ l.b = x) := by
  unfold adj0
  rw [List.any_eq_true]
  constructor
  · rintro ⟨l, h, e⟩
    exact ⟨l, h, of_decide_eq_true e⟩
  · rintro ⟨l, h, e⟩
    exact ⟨l, h, decide_eq_true e⟩
theorem split_at {α : Type} {xs : List α} {i : Nat} {x : α} (h : xs[i]? = some x) : xs = xs.take i ++ x :: xs.drop (i + 1) := by
  have hi := (List.getElem?_eq_some_iff.mp h).1
  have e := List.take_append_drop i xs
  rw [List.drop_eq_getElem_cons hi, (List.getElem?_eq_some_iff.mp h).2] at e
  exact e.symm
theorem near_mem {N : Net} (ok : NetOk N) {a o : Int} : o ∈ nearOf a N.ls ↔ adj0 N.ls a o = true := by
  unfold nearOf
  rw [List.mem_filterMap, adj0_iff]
  constructor
  · rintro ⟨l, h, e⟩
    exact ⟨l, h, (nearF_iff (ok.ok l h).ab).mp e⟩
  · rintro ⟨l, h, e⟩
    exact ⟨l, h, (nearF_iff (ok.ok l h).ab).mpr e⟩
theorem near_lt {N : Net} (ok : NetOk N) (a : Int) : (nearOf a N.ls).Pairwise (· < ·) := by
  unfold nearOf
  rw [List.pairwise_filterMap]
  refine List.Pairwise.imp_of_mem (fun {l m} hl hm hlt x hx y hy => ?_) ok.lt
  have h1 := (ok.ok l hl).ab
  have h2 := (ok.ok m hm).ab
  have hx := (nearF_iff h1).mp hx
  have hy := (nearF_iff h2).mp hy
  unfold LnkLt at hlt
  omega
theorem near_nodup {N : Net} (ok : NetOk N) (a : Int) : (nearOf a N.ls).Nodup := (near_lt ok a).imp fun h z => by omega
theorem adj0_in {N : Net} (ok : NetOk N) {x y : Int} (h : adj0 N.ls x y = true) : (0 ≤ x ∧ x < N.n) ∧ (0 ≤ y ∧ y < N.n) ∧ x ≠ y := by
  obtain ⟨l, hl, e⟩ := adj0_iff.mp h
  have := (ok.ok l hl).a0
  have := (ok.ok l hl).ab
  have := (ok.ok l hl).bn
  omega
theorem adj0_sym {ls : List Lnk} {x y : Int} : adj0 ls x y = adj0 ls y x := by
  rw [Bool.eq_iff_iff, adj0_iff, adj0_iff]
  constructor
  · rintro ⟨l, h, e⟩
    exact ⟨l, h, e.symm⟩
  · rintro ⟨l, h, e⟩
    exact ⟨l, h, e.symm⟩
/-! ### the greedy order -/
def joinB (adj : Int → Int → Bool) (b x y : Int) : Bool := adj x y || (adj b x && (adj b y && !decide (x = y)))
def deg (L : List Int) (adj : Int → Int → Bool) (p : Int) : Nat := (L.filter (adj p)).length
def pick (f : Int → Nat) (b : Int) (xs : List Int) : Int := xs.foldl (fun b p => if f p < f b then p else b) b
def gr : Nat → List Int → (Int → Int → Bool) → List Int
  | 0, _, _ => []
  | _ + 1, [], _ => []
  | k + 1, p :: r, adj => pick (deg (p :: r) adj) p (p :: r) :: gr k ((p :: r).erase (pick (deg (p :: r) adj) p (p :: r))) (joinB adj (pick (deg (p :: r) adj) p (p :: r)))
def greedyOf (N : Net) : List Int := gr N.n.toNat (rng N.n) (adj0 N.ls)
theorem pick_or {f : Int → Nat} : ∀ {xs : List Int} {b : Int}, pick f b xs = b ∨ pick f b xs ∈ xs
  | [], b => .inl rfl
  | x :: xs, b => by
    show pick f (if f x < f b then x else b) xs = b ∨ pick f (if f x < f b then x else b) xs ∈ x :: xs
    by_cases c : f x < f b
    · rw [if_pos c]
      rcases pick_or (f := f) (xs := xs) (b := x) with h | h
      · right
        rw [h]
        exact List.mem_cons_self
      · exact .inr (List.mem_cons_of_mem _ h)
    · rw [if_neg c]
      rcases pick_or (f := f) (xs := xs) (b := b) with h | h
      · exact .inl h
      · exact .inr (List.mem_cons_of_mem _ h)
theorem pick_mem {f : Int → Nat} {p : Int} {r : List Int} : pick f p (p :: r) ∈ p :: r := by
  rcases pick_or (f := f) (xs := p :: r) (b := p) with h | h
  · rw [h]
    exact List.mem_cons_self
  · exact h
theorem pick_congr {f g : Int → Nat} : ∀ {xs : List Int} {b : Int}, (∀ x ∈ b :: xs, f x = g x) → pick f b xs = pick g b xs
  | [], _, _ => rfl
  | x :: xs, b, h => by
    show pick f (if f x < f b then x else b) xs = pick g (if g x < g b then x else b) xs
    rw [h x (List.mem_cons_of_mem _ List.mem_cons_self), h b List.mem_cons_self]
    refine pick_congr fun y hy => ?_
    rcases List.mem_cons.mp hy with e | e
    · by_cases c : g x < g b
      · rw [if_pos c] at e
        rw [e]
        exact h x (List.mem_cons_of_mem _ List.mem_cons_self)
      · rw [if_neg c] at e
        rw [e]
        exact h b List.mem_cons_self
    · exact h y (List.mem_cons_of_mem _ (List.mem_cons_of_mem _ e))
structure AdjOk (adj : Int → Int → Bool) : Prop where
  sym : ∀ x y, adj x y = adj y x
  irr : ∀ x, adj x x = false
theorem AdjOk.join {adj : Int → Int → Bool} (h : AdjOk adj) (b : Int) : AdjOk (joinB adj b) where
  sym := fun x y => by
    unfold joinB
    rw [h.sym x y, Bool.and_left_comm, show decide (x = y) = decide (y = x) by
      rw [Bool.eq_iff_iff, decide_eq_true_eq, decide_eq_true_eq]
      exact eq_comm]
  irr := fun x => by
    unfold joinB
    rw [h.irr x, decide_eq_true rfl]
    simp
theorem adj0_ok {N : Net} (ok : NetOk N) : AdjOk (adj0 N.ls) := ⟨fun _ _ => adj0_sym, fun x => by
  cases e : adj0 N.ls x x with
  | false => rfl
  | true => exact absurd rfl (adj0_in ok e).2.2⟩
/-- lists of neighbours that say what adj says of the places left -/
structure NearOk (L : List Int) (adj : Int → Int → Bool) (near : Int → List Int) : Prop where
  nd : ∀ p ∈ L, (near p).Nodup
  mem : ∀ p ∈ L, ∀ o, o ∈ near p ↔ o ∈ L ∧ adj p o = true
theorem sub_len : ∀ {xs ys : List Int}, xs.Nodup → (∀ x ∈ xs, x ∈ ys) → xs.length ≤ ys.length
  | [], _, _, _ => Nat.zero_le _
  | x :: xs, ys, hn, hs => by
    have hn := List.nodup_cons.mp hn
    have hx := hs x List.mem_cons_self
    have e := List.length_erase_of_mem hx
    have h := sub_len (ys := ys.erase x) hn.2 (fun y hy => (List.mem_erase_of_ne (fun z => hn.1 (by rw [← z]; exact hy))).mpr (hs y (List.mem_cons_of_mem _ hy)))
    have := List.length_pos_of_mem hx
    rw [List.length_cons]
    omega
theorem NearOk.deg {L : List Int} {adj : Int → Int → Bool} {near : Int → List Int} (h : NearOk L adj near) (hL : L.Nodup) {p : Int} (hp : p ∈ L) : (near p).length = Ovc.deg L adj p := by
  unfold Ovc.deg
  have hf : (L.filter (adj p)).Nodup := hL.filter _
  have m : ∀ o, o ∈ near p ↔ o ∈ L.filter (adj p) := fun o => by
    rw [h.mem p hp o, List.mem_filter]
  refine Nat.le_antisymm ?_ ?_
  · exact sub_len (h.nd p hp) fun o ho => (m o).mp ho
  · exact sub_len hf fun o ho => (m o).mpr ho
def nearTo (near : Int → List Int) (b p : Int) : List Int := (near p).filter (fun o => !decide (o = b)) ++ (near b).filter fun o => !decide (o = p) && !decide (o ∈ near p)
theorem NearOk.step {L : List Int} {adj : Int → Int → Bool} {near : Int → List Int} (h : NearOk L adj near) (ha : AdjOk adj) (hL : L.Nodup) {b : Int} (hb : b ∈ L) :
    NearOk (L.erase b) (joinB adj b) (fun p => if p ∈ near b then nearTo near b p else near p) where
  nd := fun p hp => by
    have hp2 := (hL.mem_erase_iff.mp hp).2
    show (if p ∈ near b then nearTo near b p else near p).Nodup
    by_cases c : p ∈ near b
    · rw [if_pos c]
      refine List.nodup_append.mpr ⟨(h.nd p hp2).filter _, (h.nd b hb).filter _, fun x hx y hy e => ?_⟩
      have h1 := (List.mem_filter.mp hx).1
      have h2 := (List.mem_filter.mp hy).2
      rw [Bool.and_eq_true, Bool.not_eq_true', Bool.not_eq_true', decide_eq_false_iff_not, decide_eq_false_iff_not] at h2
      exact h2.2 (by rw [← e]; exact h1)
    · rw [if_neg c]
      exact h.nd p hp2
  mem := fun p hp o => by
    have hpb := (hL.mem_erase_iff.mp hp).1
    have hp2 := (hL.mem_erase_iff.mp hp).2
    show o ∈ (if p ∈ near b then nearTo near b p else near p) ↔ o ∈ L.erase b ∧ joinB adj b p o = true
    have j : joinB adj b p o = true ↔ adj p o = true ∨ (adj b p = true ∧ adj b o = true ∧ o ≠ p) := by
      unfold joinB
      rw [Bool.or_eq_true, Bool.and_eq_true, Bool.and_eq_true, Bool.not_eq_true', decide_eq_false_iff_not]
      constructor
      · rintro (h | ⟨h1, h2, h3⟩)
        · exact .inl h
        · exact .inr ⟨h1, h2, fun z => h3 z.symm⟩
      · rintro (h | ⟨h1, h2, h3⟩)
        · exact .inl h
        · exact .inr ⟨h1, h2, fun z => h3 z.symm⟩
    rw [j, hL.mem_erase_iff]
    by_cases c : p ∈ near b
    · rw [if_pos c]
      unfold nearTo
      have hbp := ((h.mem b hb p).mp c).2
      rw [List.mem_append, List.mem_filter, List.mem_filter, Bool.and_eq_true, Bool.not_eq_true', Bool.not_eq_true', Bool.not_eq_true', decide_eq_false_iff_not, decide_eq_false_iff_not, decide_eq_false_iff_not, h.mem p hp2 o, h.mem b hb o]
      constructor
      · rintro (⟨⟨h1, h2⟩, h3⟩ | ⟨⟨h1, h2⟩, h3, h4⟩)
        · exact ⟨⟨h3, h1⟩, .inl h2⟩
        · have ne : o ≠ b := fun z => by
            rw [z, ha.irr] at h2
            cases h2
          exact ⟨⟨ne, h1⟩, .inr ⟨hbp, h2, h3⟩⟩
      · rintro ⟨⟨h1, h2⟩, h3 | ⟨h3, h4, h5⟩⟩
        · exact .inl ⟨⟨h2, h3⟩, h1⟩
        · by_cases d : adj p o = true
          · exact .inl ⟨⟨h2, d⟩, h1⟩
          · exact .inr ⟨⟨h2, h4⟩, h5, fun z => d z.2⟩
    · rw [if_neg c, h.mem p hp2 o]
      have hbp : adj b p ≠ true := fun z => c ((h.mem b hb p).mpr ⟨hp2, z⟩)
      constructor
      · rintro ⟨h1, h2⟩
        have ne : o ≠ b := fun z => by
          rw [z, ha.sym] at h2
          exact hbp h2
        exact ⟨⟨ne, h1⟩, .inl h2⟩
      · rintro ⟨⟨h1, h2⟩, h3 | ⟨h3, _⟩⟩
        · exact ⟨h2, h3⟩
        · exact absurd h3 hbp
theorem left_snoc {n b : Int} {acc : List Int} : (rng n).filter (fun p => !decide (p ∈ acc ++ [b])) = ((rng n).filter fun p => !decide (p ∈ acc)).erase b := by
  rw [List.Nodup.erase_eq_filter (show List.Nodup _ from nodup_rng.filter _) b, List.filter_filter]
  refine List.filter_congr fun p _ => ?_
  rw [Bool.eq_iff_iff]
  simp only [List.mem_append, List.mem_singleton, Bool.not_eq_true', decide_eq_false_iff_not, Bool.and_eq_true, bne_iff_ne, ne_eq, not_or]
  exact And.comm
/-! ### pairs of an order -/
inductive Rch (adj : Int → Int → Bool) (low : Int → Prop) : Int → Int → Prop
  | one {x y : Int} : adj x y = true → Rch adj low x y
  | step {x z y : Int} : Rch adj low x z → low z → adj z y = true → Rch adj low x y
section
variable {adj : Int → Int → Bool} {low low' : Int → Prop} {x y z : Int}
theorem Rch.mono (h : Rch adj low x y) (m : ∀ z, low z → low' z) : Rch adj low' x y := by
  induction h with
  | one a => exact .one a
  | step _ l a ih => exact .step ih (m _ l) a
theorem Rch.trans (h : Rch adj low x z) (l : low z) (k : Rch adj low z y) : Rch adj low x y := by
  induction k with
  | one a => exact .step h l a
  | step _ l2 a ih => exact .step ih l2 a
theorem Rch.sym (ok : AdjOk adj) (h : Rch adj low x y) : Rch adj low y x := by
  induction h with
  | one a => exact .one (by rw [ok.sym]; exact a)
  | step _ l a ih => exact Rch.trans (.one (by rw [ok.sym]; exact a)) l ih
theorem Rch.last (h : Rch adj low x y) : ∃ a, adj a y = true := by
  cases h with
  | one a => exact ⟨_, a⟩
  | step _ _ a => exact ⟨_, a⟩
theorem Rch.first (h : Rch adj low x y) : ∃ a, adj x a = true := by
  induction h with
  | one a => exact ⟨_, a⟩
  | step _ _ _ ih => exact ih
end
section
variable {adj : Int → Int → Bool} {pos : Int → Nat}
theorem floyd1 (inj : ∀ x y a b, adj a x = true → adj b y = true → pos x = pos y → x = y) {k : Nat} {x y : Int} (h : Rch adj (fun z => pos z < k + 1) x y) :
    Rch adj (fun z => pos z < k) x y ∨ ∃ w, pos w = k ∧ Rch adj (fun z => pos z < k) x w ∧ Rch adj (fun z => pos z < k) w y := by
  induction h with
  | one a => exact .inl (.one a)
  | @step z y hz l a ih =>
    by_cases e : pos z = k
    · rcases ih with h | ⟨w, hw, h1, h2⟩
      · exact .inr ⟨z, e, h, .one a⟩
      · obtain ⟨b, hb⟩ := h1.last
        obtain ⟨c, hc⟩ := hz.last
        have : w = z := inj w z b c hb hc (by omega)
        subst this
        exact .inr ⟨w, hw, h1, .one a⟩
    · rcases ih with h | ⟨w, hw, h1, h2⟩
      · exact .inl (.step h (by omega) a)
      · exact .inr ⟨w, hw, h1, .step h2 (by omega) a⟩
theorem floyd (inj : ∀ x y a b, adj a x = true → adj b y = true → pos x = pos y → x = y) : ∀ {k : Nat} {x y : Int}, Rch adj (fun z => pos z < k) x y →
    adj x y = true ∨ ∃ w, pos w < k ∧ Rch adj (fun z => pos z < pos w) x w ∧ Rch adj (fun z => pos z < pos w) w y
  | 0, x, y, h => by
    cases h with
    | one a => exact .inl a
    | step _ l _ => exact absurd l (Nat.not_lt_zero _)
  | k + 1, x, y, h => by
    rcases floyd1 inj h with h | ⟨w, hw, h1, h2⟩
    · rcases floyd inj h with h | ⟨w, hw, h1, h2⟩
      · exact .inl h
      · exact .inr ⟨w, by omega, h1, h2⟩
    · exact .inr ⟨w, by omega, by rw [hw]; exact h1, by rw [hw]; exact h2⟩
end
def PairP (ls : List Lnk) (os : List Int) (u v : Int) : Prop := posOf u os < posOf v os ∧ Rch (adj0 ls) (fun z => posOf z os < posOf u os) u v
theorem pos_inj {os : List Int} {x y : Int} (hx : x ∈ os) (hy : y ∈ os) (h : posOf x os = posOf y os) : x = y := by
  have h1 := posOf_lt hx
  rw [h, posOf_lt hy] at h1
  exact (Option.some.inj h1).symm
theorem pos_len {os : List Int} {x : Int} (hx : x ∈ os) : posOf x os < os.length := (List.getElem?_eq_some_iff.mp (posOf_lt hx)).1
section
variable {N : Net} {os : List Int} {u v w : Int}
theorem adj_inj (ok : NetOk N) (oo : OrdOk N.n os) : ∀ x y a b, adj0 N.ls a x = true → adj0 N.ls b y = true → posOf x os = posOf y os → x = y := fun x y a b h1 h2 h3 =>
  pos_inj (oo.mem.mpr (adj0_in ok h1).2.1) (oo.mem.mpr (adj0_in ok h2).2.1) h3
theorem PairP.ins (ok : NetOk N) (h : PairP N.ls os u v) : (0 ≤ u ∧ u < N.n) ∧ (0 ≤ v ∧ v < N.n) := by
  obtain ⟨a, ha⟩ := h.2.last
  obtain ⟨b, hb⟩ := h.2.first
  exact ⟨(adj0_in ok hb).1, (adj0_in ok ha).2.1⟩
theorem PairP.ne (h : PairP N.ls os u v) : u ≠ v := fun e => by
  have := h.1
  rw [e] at this
  exact Nat.lt_irrefl _ this
theorem pair_clique (ok : NetOk N) (h1 : PairP N.ls os u v) (h2 : PairP N.ls os u w) (hvw : posOf v os < posOf w os) : PairP N.ls os v w := by
  have m : ∀ z, posOf z os < posOf u os → posOf z os < posOf v os := fun z hz => Nat.lt_trans hz h1.1
  exact ⟨hvw, ((h1.2.sym (adj0_ok ok)).mono m).trans h1.1 (h2.2.mono m)⟩
theorem pair_rec (ok : NetOk N) (oo : OrdOk N.n os) : PairP N.ls os u v ↔ posOf u os < posOf v os ∧ (adj0 N.ls u v = true ∨ ∃ w, PairP N.ls os w u ∧ PairP N.ls os w v) := by
  constructor
  · intro h
    refine ⟨h.1, ?_⟩
    rcases floyd (adj_inj ok oo) h.2 with h2 | ⟨w, hw, h1, h2⟩
    · exact .inl h2
    · exact .inr ⟨w, ⟨hw, h1.sym (adj0_ok ok)⟩, ⟨Nat.lt_trans hw h.1, h2⟩⟩
  · rintro ⟨hl, h | ⟨w, h1, h2⟩⟩
    · exact ⟨hl, .one h⟩
    · have m : ∀ z, posOf z os < posOf w os → posOf z os < posOf u os := fun z hz => Nat.lt_trans hz h1.1
      exact ⟨hl, ((h1.2.sym (adj0_ok ok)).mono m).trans h1.1 (h2.2.mono m)⟩
theorem pair_link (ok : NetOk N) (oo : OrdOk N.n os) (h : adj0 N.ls u v = true) : PairP N.ls os u v ∨ PairP N.ls os v u := by
  have hi := adj0_in ok h
  have hne : posOf u os ≠ posOf v os := fun e => hi.2.2 (pos_inj (oo.mem.mpr hi.1) (oo.mem.mpr hi.2.1) e)
  rcases Nat.lt_or_gt_of_ne hne with h1 | h1
  · exact .inl ⟨h1, .one h⟩
  · exact .inr ⟨h1, .one (by rw [adj0_sym]; exact h)⟩
end
open Classical in
/-- the upper neighbours of a place, in the order of ranks -/
noncomputable def upP (ls : List Lnk) (os : List Int) (u : Int) : List Int := os.filter fun v => decide (PairP ls os u v)
section
variable {N : Net} {ls : List Lnk} {os : List Int} {u v w : Int}
open Classical in
theorem mem_up : v ∈ upP ls os u ↔ v ∈ os ∧ PairP ls os u v := by
  unfold upP
  rw [List.mem_filter, decide_eq_true_eq]
theorem mem_upP (ok : NetOk N) (oo : OrdOk N.n os) : v ∈ upP N.ls os u ↔ PairP N.ls os u v := by
  rw [mem_up]
  exact ⟨fun h => h.2, fun h => ⟨oo.mem.mpr (h.ins ok).2, h⟩⟩
open Classical in
theorem up_eq {fs : List Int} (oo : OrdOk N.n os) (h : ∀ v ∈ os, v ∈ fs ↔ PairP N.ls os u v) : os.filter (fun v => decide (v ∈ fs)) = upP N.ls os u := by
  unfold upP
  refine List.filter_congr fun v hv => ?_
  rw [Bool.eq_iff_iff, decide_eq_true_eq, decide_eq_true_eq]
  exact h v hv
theorem up_nodup (oo : OrdOk N.n os) : (upP N.ls os u).Nodup := oo.nodup.filter _
theorem up_len (ok : NetOk N) (oo : OrdOk N.n os) : (upP N.ls os u).length ≤ 40 := by
  have e := oo.len
  have := ok.n40
  have h2 : (upP N.ls os u).length ≤ os.length := List.length_filter_le _ _
  omega
theorem pos_sorted {os : List Int} (h : os.Nodup) : os.Pairwise fun a b => posOf a os < posOf b os := by
  rw [List.pairwise_iff_getElem]
  intro i j hi hj hij
  rw [posOf_get h (List.getElem?_eq_getElem hi), posOf_get h (List.getElem?_eq_getElem hj)]
  exact hij
theorem up_sorted (oo : OrdOk N.n os) : (upP N.ls os u).Pairwise fun a b => posOf a os < posOf b os := (pos_sorted oo.nodup).filter _
end
/-! ### the other drawing of nets and orders -/
abbrev sPrice2 : Stmt := topS 28
abbrev sNet2 : Stmt := topS 29
abbrev sOrder2 : Stmt := topS 30
theorem scPrice2 : FnScope ["cell"] ["cell"] (defScope sPrice2) := ⟨rfl, rfl, rfl, by decide +kernel, rfl, by decide +kernel, by decide +kernel⟩
theorem scNet2 : FnScope ["draws", "first", "most", "count", "dense", "links", "a", "b", "cell"] ["draws", "first", "most"] (defScope sNet2) := ⟨rfl, rfl, rfl, by decide +kernel, rfl, by decide +kernel, by decide +kernel⟩
theorem scOrder2 : FnScope ["draws", "first", "count", "rows", "key", "k"] ["draws", "first", "count"] (defScope sOrder2) := ⟨rfl, rfl, rfl, by decide +kernel, rfl, by decide +kernel, by decide +kernel⟩
def spPrice2 : Sp := fun vs H Q _ => ∃ c : Int, vs = [.int c] ∧ 0 ≤ c ∧ c ≤ 60000 ∧ ∀ H' o, Same H H' → PriceOk o → Q (oV o) H'
section
variable {P : Program} {w : World} {K : PySem.W.Frag} {mg : Str → Option Value} {base : Heap}
theorem ok_price2 {f : Addr} {fd : FuncData} {k : Nat} (F : Fun K "_law_price" "_law_price" sPrice2 f fd) (mi : mg "int" = none) : FnOk P w K mg base CX0 (k + 1) f fd ["cell"] spPrice2 := by
  refine F.ok scPrice2 (fun vs H Q E h => ?_) (fun cdv A outer s H vs Q E hr h => ?_)
  · obtain ⟨c, rfl, _⟩ := h
    rfl
  · obtain ⟨c, rfl, h0, h1, q⟩ := h
    refine ⟨_, pss_cons (ps_if (pt_cmpR op_eq (pe_op op_mod (pe_callTy call_int1 (by rfl) mi (by decide +kernel) (pa_cons (pv 0) pa_nil)) pe_int) pe_int (nomark _))
      (pss_one (ps_ret pe_non))
      pss_nil)
      (pss_one (ps_ret (pe_ix ix_list (pe_lst (pa_cons (pe_op op_add pe_int (pe_op op_mod (pe_callTy call_int1 (by rfl) mi (by decide +kernel) (pa_cons (pe_op op_fdiv (pv 0) pe_int) pa_nil)) pe_int)) (pa_cons (pe_op op_add pe_int (pe_op op_mod (pe_callTy call_int1 (by rfl) mi (by decide +kernel) (pa_cons (pe_op op_fdiv (pv 0) pe_int) pa_nil)) pe_int)) (pa_cons (pe_op op_add pe_int (pe_op op_mul (pe_callTy call_int1 (by rfl) mi (by decide +kernel) (pa_cons (pe_op op_fdiv (pv 0) pe_int) pa_nil)) pe_int)) pa_nil)))) (pe_op op_mod (pe_callTy call_int1 (by rfl) mi (by decide +kernel) (pa_cons (pe_op op_fdiv (pv 0) pe_int) pa_nil)) pe_int) (fun _ _ => rfl)))), ?_⟩
    refine q_when (b := decide (V.int (c % 6) = V.int 5)) (an_test (vl_eq (vl_I (vl_int1 (vl_var rfl)) vl_c (by decide)) vl_c rfl)) (fun _ => ?_) (fun _ => ?_)
    · exact g_ret vl_c (q H none (Same.refl H) (fun x e => by cases e))
    · obtain ⟨d, g', hd⟩ := at_int (ds := [1 + (c / 6) % 3, 1 + (c / 6) % 12, 1 + (c / 6) * 97]) (k := (c / 3) % 3) (by omega) (by show (c / 3) % 3 < 3; omega)
      have hd1 : 1 ≤ d ∧ d ≤ 1000000 := by
        have := List.mem_of_getElem? hd
        simp only [List.mem_cons, List.not_mem_nil, or_false] at this
        omega
      refine g_retV (v := .int d) (ve_ixNew (xs := [1 + (c / 6) % 3, 1 + (c / 6) % 12, 1 + (c / 6) * 97].map V.int) (p := (c / 3) % 3) (vn_lst (va_cons (vl_I0 vl_c (vl_I (vl_int1 (vl_I (vl_var rfl) vl_c ⟨by decide, by decide⟩)) vl_c (by decide))) (va_cons (vl_I0 vl_c (vl_I (vl_int1 (vl_I (vl_var rfl) vl_c ⟨by decide, by decide⟩)) vl_c (by decide))) (va_cons (vl_I0 vl_c (vl_I (vl_int1 (vl_I (vl_var rfl) vl_c ⟨by decide, by decide⟩)) vl_c (.inr ⟨by decide, by decide⟩))) va_nil))) (by show 3 ≤ sizeLine; decide)) (fun H' s' => vl_I (vl_int1 (vl_I (vl_var rfl) vl_c ⟨by decide, by decide⟩)) vl_c (by decide)) g') fun H' s' => q H' (some d) s' (fun x e => by
        cases e
        exact hd1)
theorem ok_net2 {f : Addr} {fd : FuncData} (F : Fun K "_law_net" "_law_net" sNet2 f fd) (c_law_at : Kal P w K mg base 1 "_law_at" ["draws", "k", "many"] (spAt K)) (c_law_price : Kal P w K mg base 1 "_law_price" ["cell"] spPrice2) (mr : mg "range" = none) (mi : mg "int" = none) :
    FnOk P w K mg base CX0 2 f fd ["draws", "first", "most"] (spNet K) := by
  refine F.ok scNet2 (fun vs H Q E h => ?_) (fun cdv A outer s H vs Q E hr h => ?_)
  · obtain ⟨a, ds, k, m, rfl, _⟩ := h
    rfl
  · obtain ⟨a, ds, k, m, rfl, hS, hk, hm1, hm2, q⟩ := h
    refine ⟨_, pss_cons (ps_set (i := 3) scNet2.nd rfl (.inl rfl) (pe_op op_add pe_int (pe_k c_law_at hr (by first | decide | omega) (by rfl) (pa_cons (pv 0) (pa_cons (pv 1) (pa_cons (pv 2) pa_nil))))))
      (pss_cons (ps_set (i := 4) scNet2.nd rfl (.inl rfl) (pe_op op_add pe_int (pe_k c_law_at hr (by first | decide | omega) (by rfl) (pa_cons (pv 0) (pa_cons (pe_op op_add (pv 1) pe_int) (pa_cons pe_int pa_nil))))))
      (pss_cons (ps_set (i := 5) scNet2.nd rfl (.inl rfl) (pe_lst pa_nil))
      (pss_cons (ps_for PassesOwn.never rfl (pi_range1 (by rfl) mr (pa_cons (pv 3) pa_nil)) (pg_name (i := 6) scNet2.nd rfl (.inl rfl))
      (pss_one (ps_for PassesOwn.never rfl (pi_range2 (by rfl) mr (pa_cons (pe_op op_add (pv 6) pe_int) (pa_cons (pv 3) pa_nil))) (pg_name (i := 7) scNet2.nd rfl (.inl rfl))
        (pss_cons (ps_set (i := 8) scNet2.nd rfl (.inl rfl) (pe_op op_add (pe_op op_add (pe_k c_law_at hr (by first | decide | omega) (by rfl) (pa_cons (pv 0) (pa_cons (pe_op op_add (pe_op op_add (pv 1) pe_int) (pe_op op_mod (pe_callTy call_int1 (by rfl) mi (by decide +kernel) (pa_cons (pe_op op_add (pe_op op_mul (pv 6) pe_int) (pe_op op_mul (pv 7) pe_int)) pa_nil)) pe_int)) (pa_cons pe_int pa_nil)))) (pe_op op_mul pe_int (pv 6))) (pe_op op_mul pe_int (pv 7))))
          (pss_one (ps_if (pt_cmpR op_lt (pe_op op_mod (pe_callTy call_int1 (by rfl) mi (by decide +kernel) (pa_cons (pv 8) pa_nil)) pe_int) (pv 4) (nomark _))
          (pss_one (ps_expr (pe_bm PySem.F.plainAttrs_list PySem.F.slot_list_append PySem.F.type_list_append mt_append (pv 5) (pa_cons (pe_tup (pa_cons (pv 6) (pa_cons (pv 7) (pa_cons (pe_k c_law_price hr (by first | decide | omega) (by rfl) (pa_cons (pe_callTy call_int1 (by rfl) mi (by decide +kernel) (pa_cons (pe_op op_fdiv (pv 8) pe_int) pa_nil)) pa_nil)) (pa_cons (pe_k c_law_price hr (by first | decide | omega) (by rfl) (pa_cons (pe_op op_add (pe_callTy call_int1 (by rfl) mi (by decide +kernel) (pa_cons (pe_op op_fdiv (pv 8) pe_int) pa_nil)) (pv 6)) pa_nil)) pa_nil))))) pa_nil))))
          pss_nil))))))
      (pss_one (ps_ret (pe_tup (pa_cons (pv 3) (pa_cons (pv 5) pa_nil)))))))), ?_⟩
    refine q_asgI (P := fun r => 1 ≤ r ∧ r ≤ m) (vi_I0 (vi_of vl_c) (vi_call (P := fun r => 0 ≤ r ∧ r < m) (va_cons (vl_var rfl) (va_cons (vl_var rfl) (va_cons (vl_var rfl) va_nil))) fun Q E q => ⟨a, ds, k, m, rfl, hS, hk, by omega, q⟩) (fun p r hp hr => by omega)) (fun n hn => ?_)
    refine q_asgI (P := fun _ => True) (vi_I0 (vi_of vl_c) (vi_call (P := fun r => 0 ≤ r ∧ r < 9) (va_cons (vl_var rfl) (va_cons (vl_I0 (vl_var rfl) vl_c) (va_cons vl_c va_nil))) fun Q E q => ⟨a, ds, k + 1, 9, rfl, hS, by omega, by decide, q⟩) (fun p r hp hr => trivial)) (fun dn _ => ?_)
    refine q_lnew fun o no => ?_
    refine q_forR (n := n) (va_cons (vl_var rfl) va_nil) ⟨by omega, by omega⟩
      (fun i σ H3 => ∃ y6 y7 y8 xs ls, σ = [some (.ref a), some (.int k), some (.int m), some (.int n), some (.int dn), some (.ref o), y6, y7, y8] ∧ H3 o = some (.lst xs) ∧ Same H (but H3 o) ∧ DpAll K (but H3 o) xs (ls.map lnkD) ∧ LsAt n i 0 ls ∧ ls.length ≤ i * 40)
      ⟨none, none, none, [], [], rfl, upd_same, same_but (same_upd no) no, .nil, .nil, by simp⟩ (fun i σ H3 hi hP => ?_) (fun σ H3 hP => ?_)
    · obtain ⟨y6, y7, y8, xs, ls, rfl, ho, sm, hx, hl, hlen⟩ := hP
      refine g_forR2 (lo := (i : Int) + 1) (n := n) (va_cons (vl_I0 (vl_var rfl) vl_c) (va_cons (vl_var rfl) va_nil)) ⟨by omega, by omega, by omega, by omega⟩
        (fun j σ H3 => ∃ y7 y8 xs ls, σ = [some (.ref a), some (.int k), some (.int m), some (.int n), some (.int dn), some (.ref o), some (.int i), y7, y8] ∧ H3 o = some (.lst xs) ∧ Same H (but H3 o) ∧ DpAll K (but H3 o) xs (ls.map lnkD) ∧ LsAt n i ((i : Int) + 1 + j) ls ∧ ls.length ≤ i * 40 + j)
        ⟨y7, y8, xs, ls, rfl, ho, sm, hx, hl.mono (.inr ⟨rfl, by omega⟩), hlen⟩ (fun j σ H3 hj hP => ?_) (fun σ H3 hP => ?_)
      · obtain ⟨y7, y8, xs, ls, rfl, ho, sm, hx, hl, hlen⟩ := hP
        have sH : Same H H3 := sm.trans but_same
        refine q_asgI (P := fun r => 0 ≤ r ∧ r ≤ 68000) ?_ (fun cell hc => ?_)
        · refine vi_I0 (P1 := fun r => 0 ≤ r ∧ r ≤ 67200) (P2 := fun r => r = 17 * ((i : Int) + 1 + j)) (vi_I0 (P1 := fun r => 0 ≤ r ∧ r < 65536) (P2 := fun r => r = 41 * (i : Int)) (vi_call (va_cons (vl_var rfl) (va_cons (x := .int (k + 2 + ((i : Int) * 5 + ((i : Int) + 1 + j) * 3) % 23)) ?_ (va_cons vl_c va_nil))) fun Q E q => ⟨a, ds, k + 2 + ((i : Int) * 5 + ((i : Int) + 1 + j) * 3) % 23, 65536, rfl, sH.seq hS, by omega, by decide, q⟩) (vi_of ?_) (fun p r hp hr => by omega)) (vi_of ?_) (fun p r hp hr => by omega)
          · exact vl_I0 (vl_I0 (vl_var rfl) vl_c) (vl_I (vl_int1 (vl_I0 (vl_I (vl_var rfl) vl_c (.inr ⟨by decide, by decide⟩)) (vl_I (vl_var rfl) vl_c (.inr ⟨by decide, by decide⟩)))) vl_c (by decide))
          · exact vl_I vl_c (vl_var rfl) (.inl ⟨by decide, by decide⟩)
          · exact vl_I vl_c (vl_var rfl) (.inl ⟨by decide, by decide⟩)
        refine g_if (b := decide (cell % 11 < dn)) (an_test (vl_I0 (vl_I (vl_int1 (vl_var rfl)) vl_c (by decide)) (vl_var rfl))) (fun _ => ?_) (fun _ => ?_)
        · refine ⟨.ref o, rfl, .inl ⟨rfl, _, .inl (.inl ho)⟩, .int i, rfl, .int ((i : Int) + 1 + j), rfl, ?_⟩
          refine ⟨.int cell, rfl, cell, 11, rfl, rfl, ⟨by decide, by decide⟩, .inl ⟨cell / 11, rfl, cell / 11, rfl, by omega, by omega, fun H5 t s5 ht => ?_⟩⟩
          refine ⟨.int cell, rfl, cell, 5, rfl, rfl, ⟨by decide, by decide⟩, .inl ⟨cell / 5, rfl, .int i, rfl, cell / 5, (i : Int), rfl, rfl, cell / 5 + (i : Int), rfl, by omega, by omega, fun H6 u s6 hu => ?_⟩⟩
          refine ⟨by show 4 ≤ sizeLine; decide, fun T nT => ?_⟩
          have s36 : Same H3 H6 := s5.trans s6
          have ho6 := s36 _ _ ho
          have nTo : o ≠ T := ne_of_none ho6 nT
          have s7 : Same H6 (upd H6 T (.tup [.int i, .int ((i : Int) + 1 + j), oV t, oV u])) := same_upd nT
          refine ⟨o, xs, .ref T, rfl, rfl, s7 _ _ ho6, ?_, ?_⟩
          · rw [DpAll.len hx, List.length_map]
            exact Nat.lt_of_le_of_lt (show ls.length ≤ 10000 by omega) (by decide)
          · have sb : Same (but H3 o) (but (upd (upd H6 T (.tup [.int i, .int ((i : Int) + 1 + j), oV t, oV u])) o (.lst (xs ++ [.ref T]))) o) := by
              rw [but_upd]
              exact but_mono (s36.trans s7)
            refine ⟨_, _, xs ++ [.ref T], ls ++ [⟨i, (i : Int) + 1 + j, t, u⟩], rfl, upd_same, sm.trans sb, ?_, ?_, ?_⟩
            · rw [List.map_append]
              refine DpAll.app (DpAll.to hx sb) (DpAll.one (Dp.lnk (l := ⟨i, (i : Int) + 1 + j, t, u⟩) (.of ?_)))
              rw [but_upd, but_ne nTo.symm, upd_same]
              rfl
            · rw [show (i : Int) + 1 + ((j + 1 : Nat) : Int) = (i : Int) + 1 + j + 1 by omega]
              exact hl.app (by omega) (by omega) (by omega) ht hu
            · rw [List.length_append]
              show ls.length + 1 ≤ i * 40 + (j + 1)
              omega
        · exact ⟨_, _, xs, ls, rfl, ho, sm, hx, hl.mono (.inr ⟨rfl, by omega⟩), by omega⟩
      · obtain ⟨y7, y8, xs, ls, rfl, ho, sm, hx, hl, hlen⟩ := hP
        exact ⟨_, _, _, xs, ls, rfl, ho, sm, hx, hl.mono (.inl (by omega)), by omega⟩
    · obtain ⟨y6, y7, y8, xs, ls, rfl, ho, sm, hx, hl, hlen⟩ := hP
      refine ⟨.int n, rfl, .ref o, rfl, by show 2 ≤ sizeLine; decide, fun T nT => ?_⟩
      have s3 : Same H3 (upd H3 T (.tup [.int n, .ref o])) := same_upd nT
      exact q _ _ ⟨n, ls⟩ ((sm.trans but_same).trans s3) ⟨T, o, xs, rfl, upd_same, s3 _ _ ho, DpAll.to hx (but_same.trans s3)⟩ ⟨by show 1 ≤ n; omega, by show n ≤ 40; omega, hl.ok, hl.lt, by show ls.length ≤ 1600; omega⟩ (by show n ≤ m; omega)
/-- the second of a tuple of two ints -/
def sndOf (H : Hp) : V → Int
  | .ref t => match H t with
    | some (.tup [_, .int k]) => k
    | _ => 0
  | _ => 0
theorem sndOf_eq {H : Hp} {t : Addr} {x : V} {k : Int} (h : H t = some (.tup [x, .int k])) : sndOf H (.ref t) = k := by
  show (match H t with
    | some (.tup [_, .int k]) => k
    | _ => 0) = k
  rw [h]
theorem ok_order2 {f : Addr} {fd : FuncData} (F : Fun K "_law_order" "_law_order" sOrder2 f fd) (c_law_at : Kal P w K mg base 1 "_law_at" ["draws", "k", "many"] (spAt K)) (mr : mg "range" = none) (mi : mg "int" = none) (mo : mg "sorted" = none) : FnOk P w K mg base CX0 2 f fd ["draws", "first", "count"] (spOrder K) := by
  refine F.ok scOrder2 (fun vs H Q E h => ?_) (fun cdv A outer s H vs Q E hr h => ?_)
  · obtain ⟨d, ds, k, n, rfl, _⟩ := h
    rfl
  · obtain ⟨d, ds, k, n, rfl, hS, hk, hn0, hn40, q⟩ := h
    refine ⟨_, pss_cons (ps_set (i := 3) scOrder2.nd rfl (.inl rfl) (pe_callB cr_sortedP (by rfl) mo (by decide +kernel) (pa_cons (pe_lc (own := [("k", 5)]) (g := gName 5) (tt := tYes) (te := (tTup (tCons (tOp (rI0 fun i j => .int (Builtin.bitAnd i j)) (tOp (rI (fun i j => (-18446744073709551616 < i ∧ i < 18446744073709551616) ∨ (-18446744073709551616 < j ∧ j < 18446744073709551616)) fun i j => .int (i * j)) (tCall (spAt K) [] E0 (tCons (tVar 0) (tCons (tOp (rI0 fun i j => .int (i + j)) (tVar 1) (tOp (rI (fun _ j => 0 < j) fun i j => .int (i % j)) (tCB (fun xs H Q => (∃ i, xs = [V.int i] ∧ Q (V.int i) H) ∨ ∃ k, xs = [V.bl k] ∧ Q (V.int (if k then 1 else 0)) H) (tCons (tVar 5) tNil)) (tC (.int 9)))) (tCons (tC (.int 65536)) tNil)))) (tOp (rI0 fun i j => .int (i + j)) (tVar 5) (tC (.int 1)))) (tC (.int 1023))) (tCons (tVar 5) tNil)))) (by rfl) scOrder2.nd (pi_range1 (by rfl) mr (pa_cons (pv 2) pa_nil)) (blkOk_by (own := [("k", 5)]) (N := ["draws", "first", "count", "rows", "key", "k"]) (sc := defScope sOrder2) (by decide +kernel)) (fun _ _ _ _ _ => pg_name (i := 5) scOrder2.nd rfl (Or.inl rfl)) (fun _ _ _ _ _ => by exact pts_nil) (fun _ _ _ _ _ => by exact (pe_tup (pa_cons (pe_op op_and (pe_op op_mul (pe_k c_law_at hr (by first | decide | omega) (by rfl) (pa_cons (pv 0) (pa_cons (pe_op op_add (pv 1) (pe_op op_mod (pe_callTy call_int1 (by rfl) mi (by decide +kernel) (pa_cons (pv 5) pa_nil)) pe_int)) (pa_cons pe_int pa_nil)))) (pe_op op_add (pv 5) pe_int)) pe_int) (pa_cons (pv 5) pa_nil))))) pa_nil)))
      (pss_one (ps_ret (pe_lc (own := [("key", 4), ("k", 5)]) (g := gTup K 2 (gCons (gName 4) (gCons (gName 5) (gNil)))) (tt := tYes) (te := (tVar 5)) (by rfl) scOrder2.nd (pi_list (pv 3)) (blkOk_by (own := [("key", 4), ("k", 5)]) (N := ["draws", "first", "count", "rows", "key", "k"]) (sc := defScope sOrder2) (by decide +kernel)) (fun _ _ _ _ _ => pg_tup rfl (pgs_cons (pg_name (i := 4) scOrder2.nd rfl (Or.inl rfl)) (pgs_cons (pg_name (i := 5) scOrder2.nd rfl (Or.inl rfl)) pgs_nil))) (fun _ _ _ _ _ => by exact pts_nil) (fun _ _ _ _ _ => by exact (pv 5))))), ?_⟩
    refine q_asgE ?_
    refine ⟨.int n, rfl, n, rfl, by omega, by omega, fun D nD => lc_range (lo := 0) (n := n.toNat) (fun i H' => ∃ zs : List V, H' D = some (.lst zs) ∧ Same H (but H' D) ∧ zs.length = i ∧ ∀ j x, zs[j]? = some x → ∃ t key, x = .ref t ∧ but H' D t = some (.tup [.int key, .int (j : Nat)])) ⟨[], upd_same, same_but (same_upd nD) nD, rfl, fun j x e => by simp at e⟩ (fun i H2 hi hP => ?_) (fun H2 hP => ?_)⟩
    · obtain ⟨zs, hD, s2, hz, hA⟩ := hP
      have sH := s2.trans but_same
      rw [Int.zero_add]
      refine ⟨rfl, iteT (B := ∃ zs : List V, H2 D = some (.lst zs) ∧ Same H (but H2 D) ∧ zs.length = i + 1 ∧ ∀ (j : Nat) x, zs[j]? = some x → ∃ t key, x = .ref t ∧ but H2 D t = some (.tup [.int key, .int (j : Nat)])) ?_⟩
      refine ⟨.ref d, rfl, ?_⟩
      refine (vl_I0 (vl_var rfl) (vl_I (vl_int1 (vl_var rfl)) vl_c (by decide))) _ ⟨d, ds, k + (i : Int) % 9, 65536, rfl, sH.seq hS, by omega, by decide, fun r hr => ?_⟩
      refine ⟨.int i, rfl, (i : Int), 1, rfl, rfl, r, (i : Int) + 1, rfl, rfl, .inl ⟨by omega, by omega⟩, _, _, rfl, rfl, .int i, rfl, by show 2 ≤ sizeLine; decide, fun T nT => ?_⟩
      dsimp only
      generalize Builtin.bitAnd (r * ((i : Int) + 1)) 1023 = key
      have DT : D ≠ T := ne_of_none hD nT
      have sT : Same H2 (upd H2 T (.tup [.int key, .int i])) := same_upd nT
      refine ⟨zs, sT _ _ hD, ?_, zs ++ [.ref T], upd_same, ?_, ?_, fun j x hj => ?_⟩
      · exact Nat.lt_of_le_of_lt (m := 10000) (by omega) (by decide)
      · rw [but_upd]
        exact s2.trans (but_mono sT)
      · rw [List.length_append, hz]
        rfl
      · rw [but_upd]
        by_cases hji : j < zs.length
        · rw [List.getElem?_append_left hji] at hj
          obtain ⟨t, key', h1, h2⟩ := hA j x hj
          exact ⟨t, key', h1, but_mono sT _ _ h2⟩
        · rw [List.getElem?_append_right (by omega)] at hj
          have e0 : j - zs.length = 0 := by
            have := (List.getElem?_eq_some_iff.mp hj).1
            simp at this
            omega
          rw [e0] at hj
          cases Option.some.inj hj
          refine ⟨T, key, rfl, ?_⟩
          rw [but_ne DT.symm, upd_same, show j = i by omega]
    · obtain ⟨zs, hD, s2, hz, hA⟩ := hP
      have sH := s2.trans but_same
      refine ⟨D, zs, rfl, .of hD, fun x hx => ?_, fun ys p hp np => ?_⟩
      · obtain ⟨j, hj, e⟩ := List.getElem_of_mem hx
        obtain ⟨t, key, h1, h2⟩ := hA j x (by rw [List.getElem?_eq_getElem hj, e])
        exact ⟨t, key, (j : Nat), h1, but_same _ _ h2⟩
      · have sp : Same H2 (upd H2 p (.lst ys)) := same_upd np
        have perm : OrdOk n (ys.map (sndOf H2)) := by
          unfold OrdOk
          refine (hp.map _).trans ?_
          have e : zs.map (sndOf H2) = rng n := by
            refine List.ext_getElem? fun j => ?_
            rw [List.getElem?_map]
            cases hj : zs[j]? with
            | none =>
              have := List.getElem?_eq_none_iff.mp hj
              rw [List.getElem?_eq_none (by rw [len_rng]; omega)]
              rfl
            | some x =>
              have hjl := (List.getElem?_eq_some_iff.mp hj).1
              obtain ⟨t, key, h1, h2⟩ := hA j x hj
              subst h1
              have e2 : sndOf H2 (.ref t) = (j : Int) := sndOf_eq (but_same _ _ h2)
              rw [List.getElem?_eq_getElem (by rw [len_rng]; omega), rng_get]
              show some (sndOf H2 (.ref t)) = _
              rw [e2]
          rw [e]
        have all : ∀ x ∈ ys, ∃ t key, x = .ref t ∧ H2 t = some (.tup [.int key, .int (sndOf H2 x)]) := fun x hx => by
          obtain ⟨j, hj, e⟩ := List.getElem_of_mem (hp.mem_iff.mp hx)
          obtain ⟨t, key, h1, h2⟩ := hA j x (by rw [List.getElem?_eq_getElem hj, e])
          subst h1
          have h3 := but_same _ _ h2
          refine ⟨t, key, rfl, ?_⟩
          rw [sndOf_eq h3]
          exact h3
        refine ⟨.ref p, rfl, p, rfl, ⟨_, .of upd_same⟩, fun D2 nD2 => lc_list (K := K) (a := p) (xs := ys) (fun i H' => H' D2 = some (.lst (((ys.take i).map (sndOf H2)).map V.int)) ∧ Same (upd H2 p (.lst ys)) H') ⟨upd_same, same_upd nD2⟩ (fun i H' _ hP => .of (hP.2 _ _ upd_same)) (fun i x H' hi hP => ?_) (fun H' hP => ?_)⟩
        · obtain ⟨hD2, s'⟩ := hP
          obtain ⟨t, key, h1, h2⟩ := all x (List.mem_of_getElem? hi)
          have hil := (List.getElem?_eq_some_iff.mp hi).1
          have yl : ys.length ≤ 40 := by
            rw [hp.length_eq]
            omega
          refine ⟨t, _, h1, .of ((sp.trans s') _ _ h2), rfl, _, _, rfl, _, _, rfl, rfl, rfl, iteT (B := H' D2 = some (.lst (((ys.take (i + 1)).map (sndOf H2)).map V.int)) ∧ Same (upd H2 p (.lst ys)) H') ⟨_, rfl, _, hD2, ?_, ?_, same_upd' s' nD2⟩⟩
          · rw [List.length_map, List.length_map, List.length_take]
            exact Nat.lt_of_le_of_lt (m := 10000) (by omega) (by decide)
          · rw [upd_same, take_snoc hi, List.map_append, List.map_append]
            rfl
        · obtain ⟨hD2, s'⟩ := hP
          rw [List.take_length] at hD2
          exact q H' D2 _ ((sH.trans sp).trans s') (Same.free (sH.trans sp) nD2) hD2 perm
end
/-! ### a list of lists that are changed -/
structure NearL (G H : Hp) (o : Addr) (n : Nat) (refs : List V) (near : Int → List Int) : Prop where
  ho : H o = some (.lst refs)
  len : refs.length = n
  row : ∀ k : Nat, k < n → ∃ a, refs[k]? = some (.ref a) ∧ G a = none ∧ a ≠ o ∧ H a = some (.lst ((near k).map V.int))
  inj : ∀ (i j : Nat) (a : Addr), refs[i]? = some (.ref a) → refs[j]? = some (.ref a) → i = j
section
variable {G H H' : Hp} {o : Addr} {n : Nat} {refs : List V} {near : Int → List Int}
theorem NearL.to (h : NearL G H o n refs near) (s : Same H H') : NearL G H' o n refs near := ⟨s _ _ h.ho, h.len, fun k hk => let ⟨a, h1, h2, h3, h4⟩ := h.row k hk; ⟨a, h1, h2, h3, s _ _ h4⟩, h.inj⟩
theorem NearL.app (h : NearL G H o n refs near) {k : Nat} {a : Addr} {b : Int} (ha : refs[k]? = some (.ref a)) (hk : k < n) (hH : H a = some (.lst ((near k).map V.int))) : NearL G (upd H a (.lst ((near k).map V.int ++ [.int b]))) o n refs (fun x => if x = (k : Int) then near k ++ [b] else near x) := by
  obtain ⟨a', h1, h2, h3, h4⟩ := h.row k hk
  cases Option.some.inj (ha.symm.trans h1)
  refine ⟨by rw [upd_ne h3.symm]; exact h.ho, h.len, fun j hj => ?_, h.inj⟩
  obtain ⟨c, c1, c2, c3, c4⟩ := h.row j hj
  refine ⟨c, c1, c2, c3, ?_⟩
  by_cases e : j = k
  · subst e
    cases Option.some.inj (c1.symm.trans ha)
    rw [upd_same, if_pos rfl, List.map_append]
    rfl
  · have ne : c ≠ a := fun z => by
      subst z
      exact e (h.inj _ _ _ c1 ha)
    rw [upd_ne ne, if_neg (fun z => e (by omega))]
    exact c4
theorem NearL.put (h : NearL G H o n refs near) {k : Nat} {b : Addr} {ns : List Int} (s : Same H H') (hk : k < n) (nb : H b = none) (eb : H' b = some (.lst (ns.map V.int))) (nG : G b = none) : NearL G (upd H' o (.lst (refs.set k (.ref b)))) o n (refs.set k (.ref b)) (fun x => if x = (k : Int) then ns else near x) := by
  have bo : b ≠ o := (ne_of_none h.ho nb).symm
  have old : ∀ (j : Nat) (a : Addr), refs[j]? = some (.ref a) → j < n → a ≠ b := fun j a e hj z => by
    obtain ⟨c, c1, _, _, c4⟩ := h.row j hj
    cases Option.some.inj (e.symm.trans c1)
    rw [z, nb] at c4
    cases c4
  refine ⟨upd_same, by rw [List.length_set]; exact h.len, fun j hj => ?_, fun i j a e1 e2 => ?_⟩
  · by_cases e : j = k
    · subst e
      refine ⟨b, List.getElem?_set_self (by rw [h.len]; exact hk), nG, bo, ?_⟩
      rw [upd_ne bo, if_pos rfl]
      exact eb
    · obtain ⟨c, c1, c2, c3, c4⟩ := h.row j hj
      refine ⟨c, by rw [List.getElem?_set_ne (fun z => e z.symm)]; exact c1, c2, c3, ?_⟩
      rw [upd_ne c3, if_neg (fun z => e (by omega))]
      exact s _ _ c4
  · have il : ∀ {m : Nat}, (refs.set k (.ref b))[m]? = some (.ref a) → m < n := fun {m} e => by
      have := (List.getElem?_eq_some_iff.mp e).1
      rw [List.length_set, h.len] at this
      exact this
    by_cases ei : i = k
    · subst ei
      rw [List.getElem?_set_self (by rw [h.len]; exact hk)] at e1
      cases Option.some.inj e1
      by_cases ej : j = i
      · exact ej.symm
      · have := il e2
        rw [List.getElem?_set_ne (fun z => ej z.symm)] at e2
        exact absurd rfl (old j b e2 this)
    · have hi := il e1
      rw [List.getElem?_set_ne (fun z => ei z.symm)] at e1
      by_cases ej : j = k
      · subst ej
        rw [List.getElem?_set_self (by rw [h.len]; exact hk)] at e2
        cases Option.some.inj e2
        exact absurd rfl (old i b e1 hi)
      · rw [List.getElem?_set_ne (fun z => ej z.symm)] at e2
        exact h.inj _ _ _ e1 e2
theorem NearL.congr {near' : Int → List Int} (h : NearL G H o n refs near) (e : ∀ k : Nat, k < n → near k = near' k) : NearL G H o n refs near' := ⟨h.ho, h.len, fun k hk => let ⟨a, h1, h2, h3, h4⟩ := h.row k hk; ⟨a, h1, h2, h3, by rw [← e k hk]; exact h4⟩, h.inj⟩
end
/-! ### pairs by taking places out -/
def NearI (N : Net) (os : List Int) (i : Nat) (near : Int → List Int) : Prop := ∀ x y, x ∈ os → y ∈ os → i ≤ posOf x os → i ≤ posOf y os → (y ∈ near x ↔ x ≠ y ∧ (adj0 N.ls x y = true ∨ ∃ w, posOf w os < i ∧ PairP N.ls os w x ∧ PairP N.ls os w y))
section
variable {N : Net} {os : List Int} {i : Nat} {near : Int → List Int} {u : Int}
theorem near_up (ok : NetOk N) (oo : OrdOk N.n os) (h : NearI N os i near) (hu : os[i]? = some u) {x : Int} (hx : x ∈ os) (lt : i < posOf x os) : x ∈ near u ↔ PairP N.ls os u x := by
  have hp := posOf_get oo.nodup hu
  rw [h u x (List.mem_of_getElem? hu) hx (by omega) (by omega), pair_rec ok oo]
  constructor
  · rintro ⟨_, h1 | ⟨w, _, h2, h3⟩⟩
    · exact ⟨by omega, .inl h1⟩
    · exact ⟨by omega, .inr ⟨w, h2, h3⟩⟩
  · rintro ⟨_, h1 | ⟨w, h2, h3⟩⟩
    · exact ⟨fun z => by rw [z] at hp; omega, .inl h1⟩
    · have := h2.1
      exact ⟨fun z => by rw [z] at hp; omega, .inr ⟨w, by omega, h2, h3⟩⟩
open Classical in
theorem ups_eq (ok : NetOk N) (oo : OrdOk N.n os) (h : NearI N os i near) (hu : os[i]? = some u) : (os.drop (i + 1)).filter (fun x => decide (x ∈ near u)) = upP N.ls os u := by
  have hp := posOf_get oo.nodup hu
  unfold upP
  have e := List.take_append_drop (i + 1) os
  have e2 : os.filter (fun v => decide (PairP N.ls os u v)) = (os.take (i + 1)).filter (fun v => decide (PairP N.ls os u v)) ++ (os.drop (i + 1)).filter (fun v => decide (PairP N.ls os u v)) := by
    rw [← List.filter_append, e]
  have e3 : (os.take (i + 1)).filter (fun v => decide (PairP N.ls os u v)) = [] := by
    rw [List.filter_eq_nil_iff]
    intro x hx
    rw [decide_eq_true_eq]
    intro p
    obtain ⟨j, hj, ej⟩ := List.getElem_of_mem hx
    rw [List.length_take] at hj
    have hg : os[j]? = some x := by
      rw [List.getElem?_eq_getElem (by omega), ← ej, List.getElem_take]
    have := posOf_get oo.nodup hg
    have := p.1
    omega
  rw [e2, e3, List.nil_append]
  refine List.filter_congr fun x hx => ?_
  rw [Bool.eq_iff_iff, decide_eq_true_eq, decide_eq_true_eq]
  obtain ⟨j, hj, ej⟩ := List.getElem_of_mem hx
  rw [List.length_drop] at hj
  have hg : os[i + 1 + j]? = some x := by
    rw [List.getElem?_eq_getElem (by omega), ← ej, List.getElem_drop]
  have := posOf_get oo.nodup hg
  exact near_up ok oo h hu (List.mem_of_getElem? hg) (by omega)
def nearUp (near : Int → List Int) (ups : List Int) (x : Int) : List Int := near x ++ ups.filter fun w => !decide (w = x) && !decide (w ∈ near x)
theorem near_step (ok : NetOk N) (oo : OrdOk N.n os) (h : NearI N os i near) (hu : os[i]? = some u) : NearI N os (i + 1) (fun x => if x ∈ upP N.ls os u then nearUp near (upP N.ls os u) x else near x) := fun x y hx hy h1 h2 => by
  have hp := posOf_get oo.nodup hu
  have hI := h x y hx hy (by omega) (by omega)
  have key : (∃ w, posOf w os < i + 1 ∧ PairP N.ls os w x ∧ PairP N.ls os w y) ↔ (∃ w, posOf w os < i ∧ PairP N.ls os w x ∧ PairP N.ls os w y) ∨ (PairP N.ls os u x ∧ PairP N.ls os u y) := by
    constructor
    · rintro ⟨w, hw, p1, p2⟩
      by_cases e : posOf w os = i
      · have : w = u := pos_inj (oo.mem.mpr (p1.ins ok).1) (List.mem_of_getElem? hu) (by omega)
        subst this
        exact .inr ⟨p1, p2⟩
      · exact .inl ⟨w, by omega, p1, p2⟩
    · rintro (⟨w, hw, p⟩ | p)
      · exact ⟨w, by omega, p⟩
      · exact ⟨u, by omega, p⟩
  rw [key]
  show y ∈ (if x ∈ upP N.ls os u then nearUp near (upP N.ls os u) x else near x) ↔ _
  by_cases c : x ∈ upP N.ls os u
  · rw [if_pos c]
    unfold nearUp
    rw [List.mem_append, List.mem_filter, Bool.and_eq_true, Bool.not_eq_true', Bool.not_eq_true', decide_eq_false_iff_not, decide_eq_false_iff_not, mem_upP ok oo, hI]
    have cx := (mem_upP ok oo).mp c
    constructor
    · rintro (⟨h1, h2 | h2⟩ | ⟨h1, h2, _⟩)
      · exact ⟨h1, .inl h2⟩
      · exact ⟨h1, .inr (.inl h2)⟩
      · exact ⟨fun z => h2 z.symm, .inr (.inr ⟨cx, h1⟩)⟩
    · rintro ⟨h1, h2 | h2 | h2⟩
      · exact .inl ⟨h1, .inl h2⟩
      · exact .inl ⟨h1, .inr h2⟩
      · by_cases d : adj0 N.ls x y = true ∨ ∃ w, posOf w os < i ∧ PairP N.ls os w x ∧ PairP N.ls os w y
        · exact .inl ⟨h1, d⟩
        · exact .inr ⟨h2.2, fun z => h1 z.symm, fun z => d z.2⟩
  · rw [if_neg c, hI]
    have cx : ¬ PairP N.ls os u x := fun p => c ((mem_upP ok oo).mpr p)
    constructor
    · rintro ⟨h1, h2 | h2⟩
      · exact ⟨h1, .inl h2⟩
      · exact ⟨h1, .inr (.inl h2)⟩
    · rintro ⟨h1, h2 | h2 | h2⟩
      · exact ⟨h1, .inl h2⟩
      · exact ⟨h1, .inr h2⟩
      · exact absurd h2.1 cx
end
/-! ### lists of pairs -/
noncomputable def pairsL (ls : List Lnk) (os : List Int) : List (Int × Int) := os.flatMap fun u => (upP ls os u).map fun v => (u, v)
theorem mem_pairsL {N : Net} {os : List Int} (ok : NetOk N) (oo : OrdOk N.n os) {u v : Int} : (u, v) ∈ pairsL N.ls os ↔ PairP N.ls os u v := by
  unfold pairsL
  rw [List.mem_flatMap]
  constructor
  · rintro ⟨x, hx, h⟩
    obtain ⟨y, hy, e⟩ := List.mem_map.mp h
    cases e
    exact (mem_up.mp hy).2
  · intro h
    exact ⟨u, oo.mem.mpr (h.ins ok).1, List.mem_map.mpr ⟨v, (mem_upP ok oo).mpr h, rfl⟩⟩
/-- a list of new tuples of two ints -/
structure TupsAt (H : Hp) (ts : List V) (L : List (Int × Int)) : Prop where
  len : ts.length = L.length
  at_ : ∀ (i : Nat) (u v : Int), L[i]? = some (u, v) → ∃ t, ts[i]? = some (.ref t) ∧ H t = some (.tup [.int u, .int v])
theorem TupsAt.to {H H' : Hp} {ts : List V} {L : List (Int × Int)} (h : TupsAt H ts L) (s : Same H H') : TupsAt H' ts L := ⟨h.len, fun i u v e => let ⟨t, h1, h2⟩ := h.at_ i u v e; ⟨t, h1, s _ _ h2⟩⟩
def pairD2 (x : Int × Int) : PyData := .tuple [.int x.1, .int x.2]
theorem TupsAt.dp {K : PySem.W.Frag} {H : Hp} : ∀ {ts : List V} {L : List (Int × Int)}, TupsAt H ts L → DpAll K H ts (L.map pairD2)
  | [], [], _ => .nil
  | [], _ :: _, h => absurd h.len (by simp)
  | _ :: _, [], h => absurd h.len (by simp)
  | x :: ts, (u, v) :: L, h => by
    obtain ⟨t, h1, h2⟩ := h.at_ 0 u v rfl
    cases Option.some.inj h1
    exact .cons (.tup (.of h2) (.cons (.int u) (.cons (.int v) .nil))) (TupsAt.dp ⟨Nat.succ.inj h.len, fun i a b e => h.at_ (i + 1) a b e⟩)
theorem pairsL_len {N : Net} {os : List Int} (ok : NetOk N) (oo : OrdOk N.n os) : (pairsL N.ls os).length ≤ 1600 := by
  unfold pairsL
  have h : ∀ xs : List Int, (xs.flatMap fun u => (upP N.ls os u).map fun v => (u, v)).length ≤ xs.length * 40 := by
    intro xs
    induction xs with
    | nil => exact Nat.zero_le _
    | cons x r ih =>
      rw [List.flatMap_cons, List.length_append, List.length_map, List.length_cons, Nat.succ_mul]
      have := up_len (u := x) ok oo
      omega
  have := h os
  have := oo.len
  have := ok.n40
  omega
theorem TupsAt.upd {H : Hp} {ts zs : List V} {L : List (Int × Int)} {D : Addr} {u : HO} (h : TupsAt H ts L) (hD : H D = some (.lst zs)) : TupsAt (L2.upd H D u) ts L := ⟨h.len, fun i a b e => by
  obtain ⟨t, h1, h2⟩ := h.at_ i a b e
  refine ⟨t, h1, ?_⟩
  rw [upd_ne (fun z => by
    rw [z, hD] at h2
    cases h2)]
  exact h2⟩
theorem TupsAt.but {H : Hp} {ts zs : List V} {L : List (Int × Int)} {D : Addr} (h : TupsAt H ts L) (hD : H D = some (.lst zs)) : TupsAt (Ovc.but H D) ts L := ⟨h.len, fun i a b e => by
  obtain ⟨t, h1, h2⟩ := h.at_ i a b e
  refine ⟨t, h1, ?_⟩
  rw [but_ne (fun z => by
    rw [z, hD] at h2
    cases h2)]
  exact h2⟩
theorem TupsAt.app {H : Hp} {ts zs : List V} {L M : List (Int × Int)} (h : TupsAt H ts L) (k : TupsAt H zs M) : TupsAt H (ts ++ zs) (L ++ M) := ⟨by
  rw [List.length_append, List.length_append, h.len, k.len], fun i u v e => by
  by_cases hi : i < L.length
  · rw [List.getElem?_append_left hi] at e
    rw [List.getElem?_append_left (by rw [h.len]; exact hi)]
    exact h.at_ i u v e
  · rw [List.getElem?_append_right (by omega)] at e
    rw [List.getElem?_append_right (by rw [h.len]; omega), h.len]
    exact k.at_ _ u v e⟩
theorem TupsAt.nil {H : Hp} : TupsAt H [] [] := ⟨rfl, fun i u v e => by simp at e⟩
theorem TupsAt.one {H : Hp} {t : Addr} {u v : Int} (h : H t = some (.tup [.int u, .int v])) : TupsAt H [.ref t] [(u, v)] := ⟨rfl, fun i a b e => by
  cases i with
  | zero =>
    cases Option.some.inj e
    exact ⟨t, rfl, h⟩
  | succ i => simp at e⟩
section
variable {K : PySem.W.Frag} {σ : L2.St} {H : Hp} {ta tb te tl : TE} {tr : TA} {D : Ends} {tw : TS} {tt : TT} {x y : V}
/-- [e for x in range(n)], e told by f -/
theorem vn_lcRV {j : Nat} {n : Int} {f : Int → V} (hl : Va tr σ H [.int n]) (h0 : 0 ≤ n) (hz : n ≤ 1000000) (he : ∀ x : Int, 0 ≤ x → x < n → ∀ H', Same H H' → Ve te ((σ.set j none).set j (some (.int x))) H' (f x)) :
    Vn (tLc (iRng1 tr) (gName j) tYes te [j]) σ H ((rng n).map f) := fun Q q => by
  refine hl _ ⟨n, rfl, by omega, by omega, fun D nD => lc_range (lo := 0) (n := n.toNat) (fun i H' => H' D = some (.lst (((List.range i).map fun (i : Nat) => (i : Int)).map f)) ∧ Same H H') ⟨upd_same, same_upd nD⟩ (fun i H2 hi hP => ?_) (fun H2 hP => ?_)⟩
  · obtain ⟨hD, s2⟩ := hP
    rw [Int.zero_add]
    refine ⟨?_, iteT (B := H2 D = some (.lst (((List.range (i + 1)).map fun (i : Nat) => (i : Int)).map f)) ∧ Same H H2) (he i (by omega) (by omega) H2 s2 _ fun H3 s3 => ⟨_, s3 _ _ hD, ?_, ?_, same_upd' (s2.trans s3) nD⟩)⟩
    · show ((σ.set j none).set j (some (V.int i))).set j none = σ.set j none
      rw [List.set_set, List.set_set]
    · rw [List.length_map, List.length_map, List.length_range]
      exact Nat.lt_of_le_of_lt (m := 1000000) (by omega) (by decide)
    · rw [upd_same, List.range_succ, List.map_append, List.map_append]
      rfl
  · obtain ⟨hD, s2⟩ := hP
    exact q D H2 s2 nD hD
theorem ax_neV2 (ha : Ve ta σ H x) (hb : ∀ H', Same H H' → Vl tb σ H' y) (hs : scal x y = true) : Ax (tTest (tOp rNe ta tb)) σ H (!decide (x = y)) := fun Q k => ha _ fun H' s' => hb H' s' _ ⟨hs, _, rfl, k H' s'⟩
theorem q_appT2 {l : Addr} {xs : List V} {i j : Int} (ho : Vl ta σ H (.ref l)) (hl : H l = some (.lst xs)) (hz : xs.length < sizeLine) (k : ∀ T H', Same H H' → H T = none → tw D σ (L2.upd H' l (.lst (xs ++ [.ref T])))) :
    tSeq (tDrop (tBM K "list" rAppend ta (tCons (tTup (tCons (tC (.int i)) (tCons (tC (.int j)) tNil))) tNil))) tw D σ H := ho _ ⟨.inl ⟨rfl, _, .inl (.inl hl)⟩, by show 2 ≤ sizeLine; decide, fun T nT => ⟨l, xs, .ref T, rfl, rfl, same_upd nT _ _ hl, hz, k T _ (same_upd nT) nT⟩⟩
/-- [(u, v) for v in xs] -/
theorem vt_lcG {j : Nat} {u : Int} {ns : List Int} {a : Addr} (hu : ∀ x H', Same H H' → Vl ta ((σ.set j none).set j (some x)) H' (.int u)) (hw : ∀ x, ((σ.set j none).set j (some x))[j]? = some (some x)) (hl : Vl tl σ H (.ref a)) (hx : SqL K H a (ns.map V.int)) (hz : ns.length ≤ 10000) (Q : VK)
    (q : ∀ D H' zs, Same H H' → H D = none → H' D = some (.lst zs) → TupsAt H' zs (ns.map fun v => (u, v)) → Q (.ref D) H') : tLc (iList K tl) (gName j) tYes (tTup (tCons ta (tCons (tVar j) tNil))) [j] σ H Q := by
  refine hl _ ⟨a, rfl, ⟨_, hx⟩, fun D nD => lc_list (K := K) (a := a) (xs := ns.map V.int) (fun k H' => ∃ zs, H' D = some (.lst zs) ∧ Same H H' ∧ TupsAt H' zs ((ns.take k).map fun v => (u, v))) ⟨[], upd_same, same_upd nD, TupsAt.nil⟩ (fun k H' _ hP => hP.choose_spec.2.1.seq hx) (fun k x H' hk hP => ?_) (fun H' hP => ?_)⟩
  · obtain ⟨zs, hD, s', hT⟩ := hP
    rw [List.getElem?_map] at hk
    cases hg : ns[k]? with
    | none =>
      rw [hg] at hk
      cases hk
    | some v =>
      rw [hg] at hk
      cases hk
      refine ⟨?_, iteT (B := ∃ zs, H' D = some (.lst zs) ∧ Same H H' ∧ TupsAt H' zs ((ns.take (k + 1)).map fun v => (u, v))) ((hu _ H' s') _ ⟨_, hw _, by show 2 ≤ sizeLine; decide, fun T nT => ⟨zs, same_upd nT _ _ hD, ?_, zs ++ [.ref T], upd_same, same_upd' (s'.trans (same_upd nT)) nD, ?_⟩⟩)⟩
      · show ((σ.set j none).set j (some (V.int v))).set j none = σ.set j none
        rw [List.set_set, List.set_set]
      · rw [hT.len, List.length_map, List.length_take]
        exact Nat.lt_of_le_of_lt (m := 10000) (by omega) (by decide)
      · rw [take_snoc hg, List.map_append]
        exact ((hT.to (same_upd nT)).app (TupsAt.one upd_same)).upd (same_upd nT _ _ hD)
  · obtain ⟨zs, hD, s', hT⟩ := hP
    rw [List.length_map, List.take_length] at hT
    exact q D H' zs s' nD hD hT
/-- [order[j] for j in range(lo, len(order)) if ..] -/
theorem vn_lcIx {j lo : Nat} {os : List Int} {pb : Int → Bool} (hl : Va tr σ H [.int (lo : Nat), .int (os.length : Nat)]) (hlo : lo ≤ os.length) (hz : os.length ≤ 1000) (ht : ∀ (k : Nat) x, os[k]? = some x → ∀ H', Same H H' → An tt ((σ.set j none).set j (some (.int (k : Nat)))) H' (pb x))
    (he : ∀ (k : Nat) x, os[k]? = some x → ∀ H', Same H H' → Vl te ((σ.set j none).set j (some (.int (k : Nat)))) H' (.int x)) : Vn (tLc (iRng2 tr) (gName j) tt te [j]) σ H (((os.drop lo).filter pb).map V.int) := fun Q q => by
  refine hl _ ⟨(lo : Nat), (os.length : Nat), rfl, ⟨by omega, by omega, by omega, by omega⟩, fun D nD => lc_range (lo := (lo : Nat)) (n := ((os.length : Int) - (lo : Int)).toNat) (fun i H' => H' D = some (.lst ((((os.drop lo).take i).filter pb).map V.int)) ∧ Same H H') ⟨upd_same, same_upd nD⟩ (fun i H2 hi hP => ?_) (fun H2 hP => ?_)⟩
  · obtain ⟨hD, s2⟩ := hP
    have hil : lo + i < os.length := by omega
    have hg : os[lo + i]? = some os[lo + i] := List.getElem?_eq_getElem hil
    have hg2 : (os.drop lo)[i]? = some os[lo + i] := by
      rw [List.getElem?_drop]
      exact hg
    generalize os[lo + i] = n at hg hg2
    have e : ((os.drop lo).take (i + 1)).filter pb = ((os.drop lo).take i).filter pb ++ [n].filter pb := by
      rw [take_snoc hg2]
      exact List.filter_append ..
    have ek : ((lo : Nat) : Int) + (i : Int) = ((lo + i : Nat) : Int) := by omega
    rw [ek]
    refine ⟨?_, ht _ n hg H2 s2 _ ?_⟩
    · show ((σ.set j none).set j (some (V.int ((lo + i : Nat) : Int)))).set j none = σ.set j none
      rw [List.set_set, List.set_set]
    · cases hp : pb n with
      | true =>
        have e2 : [n].filter pb = [n] := by
          rw [List.filter_cons, hp]
          rfl
        refine iteT (B := H2 D = some (.lst ((((os.drop lo).take (i + 1)).filter pb).map V.int)) ∧ Same H H2) (he _ n hg H2 s2 _ ⟨_, hD, ?_, ?_, same_upd' s2 nD⟩)
        · rw [List.length_map]
          have h1 : (((os.drop lo).take i).filter pb).length ≤ os.length := Nat.le_trans (List.length_filter_le _ _) (by rw [List.length_take, List.length_drop]; omega)
          exact Nat.lt_of_le_of_lt (m := 10000) (by omega) (by decide)
        · rw [upd_same, e, e2, List.map_append]
          rfl
      | false =>
        have e2 : [n].filter pb = [] := by
          rw [List.filter_cons, hp]
          rfl
        refine iteF ⟨?_, s2⟩
        rw [e, e2, List.append_nil]
        exact hD
  · obtain ⟨hD, s2⟩ := hP
    rw [List.take_of_length_le (by rw [List.length_drop]; omega)] at hD
    exact q D H2 s2 nD hD
end
def spLPairs (K : PySem.W.Frag) : Sp := fun vs H Q _ => ∃ (v : V) (N : Net) (p : Addr) (os : List Int), vs = [v, .ref p] ∧ Dp K H v (netD N) ∧ NetOk N ∧ SqL K H p (os.map V.int) ∧ OrdOk N.n os ∧ ∀ H' q ts, Same H H' → H q = none → H' q = some (.lst ts) → TupsAt H' ts (pairsL N.ls os) → Q (.ref q) H'
theorem adj_take2 {ls : List Lnk} {i : Nat} {l : Lnk} (h : ls[i]? = some l) {x y : Int} : adj0 (ls.take (i + 1)) x y = true ↔ adj0 (ls.take i) x y = true ∨ (l.a = x ∧ l.b = y) ∨ (l.a = y ∧ l.b = x) := by
  rw [take_snoc h, adj0_iff, adj0_iff]
  constructor
  · rintro ⟨m, hm, e⟩
    rcases List.mem_append.mp hm with hm | hm
    · exact .inl ⟨m, hm, e⟩
    · rw [List.mem_singleton.mp hm] at e
      exact .inr e
  · rintro (⟨m, hm, e⟩ | e)
    · exact ⟨m, List.mem_append.mpr (.inl hm), e⟩
    · exact ⟨l, List.mem_append.mpr (.inr (List.mem_singleton.mpr rfl)), e⟩
section
variable {P : Program} {w : World} {K : PySem.W.Frag} {mg : Str → Option Value} {base : Heap}
end
/-! ### the dict of the ways of links -/
def lkS (x y : Int) (f : Option V) (l : Lnk) : Option V := if x = l.b ∧ y = l.a then some (oV l.k) else if x = l.a ∧ y = l.b then some (oV l.t) else f
def lkv (ls : List Lnk) (x y : Int) : Option V := ls.foldl (lkS x y) none
theorem lkv_snoc {ls : List Lnk} {l : Lnk} {x y : Int} : lkv (ls ++ [l]) x y = lkS x y (lkv ls x y) l := by
  unfold lkv
  rw [List.foldl_append]
  rfl
theorem key2 {x y a b : Int} : (([Sum.inl x, Sum.inl y] : List L2.Key) = [Sum.inl a, Sum.inl b]) ↔ (x = a ∧ y = b) := by
  constructor
  · intro e
    injection e with e1 e2
    injection e2 with e2 _
    exact ⟨Sum.inl.inj e1, Sum.inl.inj e2⟩
  · rintro ⟨rfl, rfl⟩
    rfl
structure LinksAt (H : Hp) (d : Addr) (ls : List Lnk) : Prop where
  ex : ∃ kvs : List (List L2.Key × V), H d = some (.dT kvs) ∧ kvs.length ≤ 2 * ls.length ∧ ∀ x y : Int, valV kvs [Sum.inl x, Sum.inl y] = lkv ls x y
theorem LinksAt.to {H H' : Hp} {d : Addr} {ls : List Lnk} (h : LinksAt H d ls) (s : Same H H') : LinksAt H' d ls := by
  obtain ⟨kvs, e, l, v⟩ := h.ex
  exact ⟨kvs, s _ _ e, l, v⟩
theorem put_len {kvs : List (List L2.Key × V)} {k : List L2.Key} {v : V} : (putK kvs k v).length ≤ kvs.length + 1 := by
  unfold putK
  split
  · rw [List.length_map]
    omega
  · rw [List.length_append]
    exact Nat.le_refl _
def spLinkWays (K : PySem.W.Frag) : Sp := fun vs H Q _ => ∃ (v : V) (N : Net), vs = [v] ∧ Dp K H v (netD N) ∧ N.ls.length ≤ 1700 ∧ ∀ H' d, Same H H' → H d = none → LinksAt H' d N.ls → Q (.ref d) H'
theorem q_dputK {σ : L2.St} {H : Hp} {td ta tb te : TE} {D : Ends} {tw : TS} {v : V} {o : Addr} {kvs : List (List L2.Key × V)} {y1 y2 : Int} (hv : Vl te σ H v) (ho : Vl td σ H (.ref o)) (h1 : Vl ta σ H (.int y1)) (h2 : Vl tb σ H (.int y2)) (hd : H o = some (.dT kvs)) (hl : kvs.length < sizeLine)
    (k : ∀ T, H T = none → o ≠ T → tw D σ (upd (upd H T (.tup [.int y1, .int y2])) o (.dT (putK kvs [.inl y1, .inl y2] v)))) : tSeq (sDPut td (tTup (tCons ta (tCons tb tNil))) te) tw D σ H := q_dput (ty := td) hv ho h1 h2 hd hl k
theorem g_dputK {σ : L2.St} {H : Hp} {td ta tb te : TE} {D : Ends} {v : V} {o : Addr} {kvs : List (List L2.Key × V)} {y1 y2 : Int} (hv : Vl te σ H v) (ho : Vl td σ H (.ref o)) (h1 : Vl ta σ H (.int y1)) (h2 : Vl tb σ H (.int y2)) (hd : H o = some (.dT kvs)) (hl : kvs.length < sizeLine)
    (k : ∀ T, H T = none → o ≠ T → D.nx σ (upd (upd H T (.tup [.int y1, .int y2])) o (.dT (putK kvs [.inl y1, .inl y2] v)))) : sDPut td (tTup (tCons ta (tCons tb tNil))) te D σ H := q_dputK (tw := fun D σ H => D.nx σ H) hv ho h1 h2 hd hl k
abbrev sLinkWays : Stmt := topS 10
theorem scLinkWays : FnScope ["net", "prices", "a", "b", "there", "back"] ["net"] (defScope sLinkWays) := ⟨rfl, rfl, rfl, by decide +kernel, rfl, by decide +kernel, by decide +kernel⟩
section
variable {P : Program} {w : World} {K : PySem.W.Frag} {mg : Str → Option Value} {base : Heap}
theorem ok_linkWays {f : Addr} {fd : FuncData} {k : Nat} (F : Fun K "link_ways" "link_ways" sLinkWays f fd) : FnOk P w K mg base CX0 (k + 1) f fd ["net"] (spLinkWays K) := by
  refine F.ok scLinkWays (fun vs H Q E h => ?_) (fun cdv A outer s H vs Q E hr h => ?_)
  · obtain ⟨v, N, rfl, _⟩ := h
    rfl
  · obtain ⟨v, N, rfl, hN, hl, q⟩ := h
    have hu := hu_of hr
    refine ⟨_, pss_cons (ps_set (i := 1) scLinkWays.nd rfl (.inl rfl) pe_dnewT)
      (pss_cons (ps_for PassesOwn.never rfl (pi_list (pe_ix ix_tup (pv 0) pe_int (fun _ _ => rfl))) (pg_tup rfl (pgs_cons (pg_name (i := 2) scLinkWays.nd rfl (.inl rfl)) (pgs_cons (pg_name (i := 3) scLinkWays.nd rfl (.inl rfl)) (pgs_cons (pg_name (i := 4) scLinkWays.nd rfl (.inl rfl)) (pgs_cons (pg_name (i := 5) scLinkWays.nd rfl (.inl rfl)) pgs_nil)))))
      (pss_cons (ps_dput hu (pv 1) (pe_tup (pa_cons (pv 2) (pa_cons (pv 3) pa_nil))) (pv 4) rfl)
        (pss_one (ps_dput hu (pv 1) (pe_tup (pa_cons (pv 3) (pa_cons (pv 2) pa_nil))) (pv 5) rfl))))
      (pss_one (ps_ret (pv 1)))), ?_⟩
    obtain ⟨p, c, xs, rfl, hp, hc, hx⟩ := Dp.net_inv hN
    refine q_dnewT fun o no => ?_
    refine q_forLnk (Hb := H) (vl_ixT (K := K) (vl_var rfl) vl_c (seqT (same_upd no) hp) (atI_nat (j := 1) rfl)) hc hx (same_upd no)
      (fun i σ H3 => ∃ y2 y3 y4 y5 kvs, σ = [some (.ref p), some (.ref o), y2, y3, y4, y5] ∧ Same H H3 ∧ H3 o = some (.dT kvs) ∧ kvs.length ≤ 2 * i ∧ ∀ x y : Int, valV kvs [Sum.inl x, Sum.inl y] = lkv (N.ls.take i) x y)
      ⟨none, none, none, none, [], rfl, same_upd no, upd_same, Nat.zero_le _, fun x y => rfl⟩ (fun i σ H3 hP => ?_) (fun i l σ H3 hi hP => ?_) (fun σ H3 hP => ?_)
    · obtain ⟨_, _, _, _, _, _, s3, _⟩ := hP
      exact s3
    · obtain ⟨y2, y3, y4, y5, kvs, rfl, s3, ho, hlen, hv⟩ := hP
      have hil := (List.getElem?_eq_some_iff.mp hi).1
      refine q_dputK (vl_var rfl) (vl_var rfl) (vl_var rfl) (vl_var rfl) ho (Nat.lt_of_le_of_lt (m := 10000) (by omega) (by decide)) fun T nT oT => ?_
      have hl1 := put_len (kvs := kvs) (k := [Sum.inl l.a, Sum.inl l.b]) (v := oV l.t)
      refine g_dputK (vl_var rfl) (vl_var rfl) (vl_var rfl) (vl_var rfl) upd_same (Nat.lt_of_le_of_lt (m := 10000) (by omega) (by decide)) fun T2 nT2 oT2 => ?_
      have hl2 := put_len (kvs := putK kvs [Sum.inl l.a, Sum.inl l.b] (oV l.t)) (k := [Sum.inl l.b, Sum.inl l.a]) (v := oV l.k)
      have s4 : Same H (upd (upd H3 T (.tup [.int l.a, .int l.b])) o (.dT (putK kvs [Sum.inl l.a, Sum.inl l.b] (oV l.t)))) := same_upd' (s3.trans (same_upd nT)) no
      refine ⟨_, _, _, _, _, rfl, same_upd' (s4.trans (same_upd nT2)) no, upd_same, by omega, fun x y => ?_⟩
      rw [valV_put, valV_put, hv, take_snoc hi, lkv_snoc]
      unfold lkS
      by_cases c1 : x = l.b ∧ y = l.a
      · rw [if_pos (key2.mpr c1), if_pos c1]
      · rw [if_neg (fun z => c1 (key2.mp z)), if_neg c1]
        by_cases c2 : x = l.a ∧ y = l.b
        · rw [if_pos (key2.mpr c2), if_pos c2]
        · rw [if_neg (fun z => c2 (key2.mp z)), if_neg c2]
    · obtain ⟨y2, y3, y4, y5, kvs, rfl, s3, ho, hlen, hv⟩ := hP
      rw [List.take_length] at hv
      exact g_ret (vl_var rfl) (q H3 o s3 no ⟨kvs, ho, hlen, hv⟩)
end
end Ovc
namespace PySem
section
variable {prog : Program} {w : World} {h₀ : Heap}
/-- a tuple of two, each with its own text -/
theorem shows_two {T : Addr} {o : Obj} {u1 u2 : Value} {n : Nat} {d e : PyData} {a1 a2 b1 b2 : List Addr} (h1 : h₀.get? T = some o) (h2 : o.cls = .type "tuple") (h3 : o.data = .seq #[u1, u2] n) (r1 : Reads h₀ u1 d a1) (r2 : Reads h₀ u2 e a2)
    (m1 : ReadAtMost h₀ d.depth b1) (k1 : ReprK prog w b1 h₀ d.depth u1 d.shown) (m2 : ReadAtMost h₀ e.depth b2) (k2 : ReprK prog w b2 h₀ e.depth u2 e.shown) (hz : (PyData.tuple [d, e]).shown.length ≤ sizeLine) :
    ShowsBy prog w h₀ T (.tuple [d, e]) "tuple" "tuple.__repr__" := by
  have r : Reads h₀ (.ref T) (.tuple [d, e]) _ := .tuple h1 h2 h3 (show ReadsAll h₀ [u1, u2] [d, e] _ from .cons r1 (.cons r2 .nil))
  have hD : PyData.depthAll [d, e] = max d.depth (max e.depth 0) := rfl
  have m : ReadAtMost h₀ (PyData.depthAll [d, e]) (b1 ++ b2) := (m1.mono (by omega)).append (m2.mono (by omega))
  have hna : T ∉ b1 ++ b2 := not_mem_of_deeper r (by simp only [PyData.depth]; omega) m
  have hk : ReprAllK prog w (b1 ++ b2) h₀ (PyData.depthAll [d, e]) [u1, u2] [d.shown, e.shown] :=
    .cons ((k1.more fun b hb => List.mem_append_left _ hb).level_le (by omega)) (.cons ((k2.more fun b hb => List.mem_append_right _ hb).level_le (by omega)) .nil)
  have hz' : (tupleText [d.shown, e.shown]).length ≤ sizeLine := by simpa only [PyData.shown, PyData.shownAll] using hz
  refine ⟨F.slot_tuple_repr, F.slot_tuple_str, F.slot_tuple_format, fun s hk0 => ⟨o, hk0 _ _ h1, h2⟩, fun A E s Q hg hu hk0 hQ => ?_⟩
  have hu : A.units + (PyData.depthAll [d, e] + 1) < cLine := hu
  simp only [PyData.shown, PyData.shownAll] at hQ
  exact call_tuple_reprK h1 h2 h3 hna hk hg (fun b _ => Clear.nil b) hu hk0 hQ hz'
/-- a dict, its keys and values plain -/
theorem repr_dict0 {a : Addr} {o : Obj} {es : Array DictEntry} {n : Nat} {kvs : List (PyData × PyData)} {as bs : List Addr} (h1 : h₀.get? a = some o) (h2 : o.cls = .type "dict") (h3 : o.data = .dict es n) (h4 : ReadsAll h₀ (es.toList.map (·.key)) (kvs.map (·.1)) as)
    (h5 : ReadsAll h₀ (es.toList.map (·.val)) (kvs.map (·.2)) bs) (hs : (PyData.dict kvs).showable = true) (n1 : PyData.hasDictAll (kvs.map (·.1)) = false) (n2 : PyData.hasDictAll (kvs.map (·.2)) = false) (hsys : (a == sysModules) = false) (hz : (PyData.dict kvs).shown.length ≤ sizeLine) :
    ∃ cs, ReadAtMost h₀ (PyData.dict kvs).depth cs ∧ ReprK prog w cs h₀ (PyData.dict kvs).depth (.ref a) (PyData.dict kvs).shown := by
  have hz' : (dictText (PyData.shownKv kvs)).length ≤ sizeLine := by simpa only [PyData.shown] using hz
  obtain ⟨hs1, hs2⟩ := PyData.showableKv_split kvs (by simpa [PyData.showable] using hs)
  obtain ⟨b1, hb1, k1⟩ := ReprAllK.of_readsAll (prog := prog) (w := w) h4 hs1 (fun h => by rw [n1] at h; cases h) (fun t ht => let ⟨p, hp, hl⟩ := PyData.shownKv_key_le kvs t ht; Nat.le_trans hl (Nat.le_trans (dictText_mem_le hp) hz'))
  obtain ⟨b2, hb2, k2⟩ := ReprAllK.of_readsAll (prog := prog) (w := w) h5 hs2 (fun h => by rw [n2] at h; cases h) (fun t ht => let ⟨p, hp, hl⟩ := PyData.shownKv_val_le kvs t ht; Nat.le_trans hl (Nat.le_trans (dictText_mem_le hp) hz'))
  have r : Reads h₀ (.ref a) (.dict kvs) _ := .dict h1 h2 h3 h4 h5
  have hb : ReadAtMost h₀ (PyData.depthKv kvs) (b1 ++ b2) := (hb1.mono (PyData.depthAll_keys_le kvs)).append (hb2.mono (PyData.depthAll_vals_le kvs))
  have hna : a ∉ b1 ++ b2 := not_mem_of_deeper r (by simp only [PyData.depth]; omega) hb
  refine ⟨a :: (b1 ++ b2), ReadAtMost.cons r (by simp only [PyData.depth]; omega) hb, ?_⟩
  simp only [PyData.depth, PyData.shown, PyData.shownKv_eq]
  exact ReprK.dict h1 h2 h3 hsys hna (ReprEntriesK.of_two es.toList _ _
    (k1.more_le (fun b hb => List.mem_append_left _ hb) (PyData.depthAll_keys_le kvs)) (k2.more_le (fun b hb => List.mem_append_right _ hb) (PyData.depthAll_vals_le kvs)))
end
end PySem
namespace L2
open PySem PySem.Spec PyProof.Rows
def keyD : Key → PyData
  | .inl i => .int i
  | .inr x => .str x
def valD : V → PyData
  | .int i => .int i
  | _ => .none
/-- an int or None -/
def flatO (v : V) : Prop := v = .non ∨ ∃ i, v = .int i
def tdD (kvs : List (List Key × V)) : List (PyData × PyData) := kvs.map fun p => (.tuple (p.1.map keyD), valD p.2)
theorem noDict_keys : ∀ ks : List Key, PyData.hasDictAll (ks.map keyD) = false
  | [] => rfl
  | .inl i :: ks => by
    show (false || PyData.hasDictAll (ks.map keyD)) = false
    rw [noDict_keys ks]
    rfl
  | .inr x :: ks => by
    show (false || PyData.hasDictAll (ks.map keyD)) = false
    rw [noDict_keys ks]
    rfl
theorem noDict_tdk : ∀ kvs : List (List Key × V), PyData.hasDictAll ((tdD kvs).map (·.1)) = false
  | [] => rfl
  | p :: kvs => by
    show (PyData.hasDictAll (p.1.map keyD) || PyData.hasDictAll ((tdD kvs).map (·.1))) = false
    rw [noDict_keys, noDict_tdk kvs]
    rfl
theorem noDict_val (v : V) : (valD v).hasDict = false := by
  cases v <;> rfl
theorem noDict_tdv : ∀ kvs : List (List Key × V), PyData.hasDictAll ((tdD kvs).map (·.2)) = false
  | [] => rfl
  | p :: kvs => by
    show ((valD p.2).hasDict || PyData.hasDictAll ((tdD kvs).map (·.2))) = false
    rw [noDict_val, noDict_tdv kvs]
    rfl
theorem reads_keys {h : Heap} : ∀ {ks : List Key} {us : List Value}, Vals (ks.map kV) us → ∃ as, ReadsAll h us (ks.map keyD) as
  | [], _, .nil => ⟨_, .nil⟩
  | .inl i :: ks, _, .cons r t => by
    obtain ⟨as, ih⟩ := reads_keys (h := h) t
    obtain ⟨tk, rfl⟩ := r
    exact ⟨_, .cons (.int i tk) ih⟩
  | .inr x :: ks, _, .cons r t => by
    obtain ⟨as, ih⟩ := reads_keys (h := h) t
    obtain ⟨tk, rfl⟩ := r
    exact ⟨_, .cons (.str x tk) ih⟩
theorem reads_val {h : Heap} {v : V} {u : Value} (f : flatO v) (r : RelV v u) : ∃ as, Reads h u (valD v) as := by
  rcases f with rfl | ⟨i, rfl⟩
  · cases r
    exact ⟨_, .none⟩
  · obtain ⟨tk, rfl⟩ := r
    exact ⟨_, .int i tk⟩
section
variable {X : Cx} {pins : List (Addr × Obj)} {σ : St} {H : Hp} {s : Shared}
theorem reads_td (I : Inv X pins σ H s) {knd : HeapKind X.prog X.w (List Key)} : ∀ {kvs : List (List Key × V)} {xs : List (List Key × Addr × Value)}, Paired (fun (p : List Key × V) (q : List Key × Addr × Value) => p.1 = q.1 ∧ H q.2.1 = some (.tup (p.1.map kV)) ∧ RelV p.2 q.2.2) kvs xs → (∀ p ∈ kvs, flatO p.2) →
    ∃ as bs, ReadsAll s.heap ((xs.map (entryOfKey knd)).map (·.key)) ((tdD kvs).map (·.1)) as ∧ ReadsAll s.heap ((xs.map (entryOfKey knd)).map (·.val)) ((tdD kvs).map (·.2)) bs
  | [], _, .nil, _ => ⟨_, _, .nil, .nil⟩
  | p :: kvs, _, .cons (b := q) r t, f => by
    obtain ⟨as, bs, h1, h2⟩ := reads_td I t fun z hz => f z (List.mem_cons_of_mem _ hz)
    obtain ⟨e1, e2, e3⟩ := r
    obtain ⟨_, its, rv, o, ho, hc, n, hd⟩ := I.hok _ _ e2
    obtain ⟨ks, hk⟩ := reads_keys (h := s.heap) rv
    obtain ⟨vs, hv⟩ := reads_val (h := s.heap) (f p List.mem_cons_self) e3
    have rk : Reads s.heap (.ref q.2.1) (.tuple (p.1.map keyD)) _ := .tuple ho hc hd hk
    exact ⟨_, _, .cons rk h1, .cons hv h2⟩
end
/-- repr((x, d)): x data without a dict, d a dict by tuples whose values are ints or None -/
def rReprTD (K : PySem.W.Frag) : List V → Hp → VK → Prop := fun xs H Q => ∃ (T : Addr) (v : V) (td : Addr) (d : PyData) (kvs : List (List Key × V)), xs = [.ref T] ∧ H T = some (.tup [v, .ref td]) ∧ Dp K H v d ∧ d.showable = true ∧ d.hasDict = false ∧ d.depth ≤ 50 ∧
  H td = some (.dT kvs) ∧ (∀ p ∈ kvs, flatO p.2) ∧ (PyData.dict (tdD kvs)).showable = true ∧ (PyData.dict (tdD kvs)).depth ≤ 50 ∧ (PyData.tuple [d, .dict (tdD kvs)]).shown.length ≤ sizeLine ∧ d.shown.length ≤ sizeLine ∧ (PyData.dict (tdD kvs)).shown.length ≤ sizeLine ∧ Q (.str (PyData.tuple [d, .dict (tdD kvs)]).shown) H
theorem call_reprTD {X : Cx} (hg : X.A.guards = some []) (hu : X.A.units + 64 < cLine) : CallR X (.builtin "repr") (rReprTD X.K) := by
  intro pins s σ H xs us Q I r h
  obtain ⟨T, v, td, d, kvs, rfl, hT, hd, sh, nd, dep, htd, hf, sh2, dep2, len, len1, len2, q⟩ := h
  obtain ⟨u, rfl, e⟩ := vals1 r
  cases e
  obtain ⟨_, its, rv, o, ho, hc, n, hda⟩ := I.hok _ _ hT
  obtain ⟨u1, u2, rfl, q1, q2⟩ := vals2 rv
  cases (show u2 = Value.ref td from q2)
  obtain ⟨as, rd⟩ := Dp.reads I d _ _ hd q1
  obtain ⟨b1, m1, k1⟩ := ReprK.of_reads (prog := X.prog) (w := X.w) rd sh (PyData.noDict_hsm nd) len1
  obtain ⟨_, hsys, ys, pr, od, es, ep, hod, hex, hdat, hes, _⟩ := I.hok _ _ htd
  obtain ⟨as2, bs2, g1, g2⟩ := reads_td I (knd := tupleKind (mixKind X.prog X.w)) pr hf
  rw [← hes] at g1 g2
  obtain ⟨b2, m2, k2⟩ := repr_dict0 (prog := X.prog) (w := X.w) hod hex.1 hdat g1 g2 sh2 (noDict_tdk kvs) (noDict_tdv kvs) hsys len2
  have S := shows_two (prog := X.prog) (w := X.w) ho hc hda rd (.dict hod hex.1 hdat g1 g2) m1 k1 m2 k2 len
  have hdep : (PyData.tuple [d, .dict (tdD kvs)]).depth ≤ 51 := by
    show max d.depth (max (PyData.dict (tdD kvs)).depth 0) + 1 ≤ 51
    omega
  refine call_repr_slot (by omega) (S.typeIs s fun _ _ e => e) S.slotRepr (S.call X.A.in1 _ s _ hg (by show X.A.units + 1 + _ < cLine; omega) (fun _ _ e => e) fun h' u tk keep => ⟨_, _, rfl, .str _, H, I.kept keep, ⟨u, rfl⟩, q⟩)
end L2
namespace Ovc
open PySem PySem.Spec PyProof.Rows L2
/-! ### open ways, turns, sums of runs -/
def wyP : List Lnk → Int → Int → Option Int
  | [], _, _ => none
  | l :: r, x, y => if l.a = x ∧ l.b = y then l.t else if l.b = x ∧ l.a = y then l.k else wyP r x y
theorem keep_lkS {x y : Int} : ∀ (ls : List Lnk) (f : Option V), (∀ m ∈ ls, ¬ (x = m.b ∧ y = m.a) ∧ ¬ (x = m.a ∧ y = m.b)) → ls.foldl (lkS x y) f = f
  | [], f, _ => rfl
  | l :: ls, f, h => by
    obtain ⟨h1, h2⟩ := h l List.mem_cons_self
    have e : lkS x y f l = f := by
      unfold lkS
      rw [if_neg h1, if_neg h2]
    rw [List.foldl_cons, e]
    exact keep_lkS ls f fun m hm => h m (List.mem_cons_of_mem _ hm)
theorem wyP_none {x y : Int} : ∀ {ls : List Lnk}, (∀ m ∈ ls, ¬ (m.a = x ∧ m.b = y) ∧ ¬ (m.b = x ∧ m.a = y)) → wyP ls x y = none
  | [], _ => rfl
  | l :: ls, h => by
    obtain ⟨h1, h2⟩ := h l List.mem_cons_self
    show (if l.a = x ∧ l.b = y then l.t else if l.b = x ∧ l.a = y then l.k else wyP ls x y) = none
    rw [if_neg h1, if_neg h2]
    exact wyP_none fun m hm => h m (List.mem_cons_of_mem _ hm)
theorem lnk_far {l m : Lnk} {x y : Int} (h : LnkLt l m) (hl : l.a < l.b) (hm : m.a < m.b) (c : (l.a = x ∧ l.b = y) ∨ (l.b = x ∧ l.a = y)) : ¬ (m.a = x ∧ m.b = y) ∧ ¬ (m.b = x ∧ m.a = y) := by
  unfold LnkLt at h
  omega
theorem lkv_wy {x y : Int} : ∀ (ls : List Lnk), ls.Pairwise LnkLt → (∀ m ∈ ls, m.a < m.b) → (ls.foldl (lkS x y) none).getD .non = oV (wyP ls x y)
  | [], _, _ => rfl
  | l :: ls, hp, ha => by
    obtain ⟨hp1, hp2⟩ := List.pairwise_cons.mp hp
    have hl := ha l List.mem_cons_self
    have far : (l.a = x ∧ l.b = y) ∨ (l.b = x ∧ l.a = y) → ∀ m ∈ ls, ¬ (x = m.b ∧ y = m.a) ∧ ¬ (x = m.a ∧ y = m.b) := fun c m hm => by
      have := lnk_far (hp1 m hm) hl (ha m (List.mem_cons_of_mem _ hm)) c
      omega
    rw [List.foldl_cons]
    show _ = oV (if l.a = x ∧ l.b = y then l.t else if l.b = x ∧ l.a = y then l.k else wyP ls x y)
    by_cases c1 : l.a = x ∧ l.b = y
    · have e : lkS x y none l = some (oV l.t) := by
        unfold lkS
        rw [if_neg (by omega), if_pos ⟨c1.1.symm, c1.2.symm⟩]
      rw [if_pos c1, e, keep_lkS ls _ (far (.inl c1))]
      rfl
    · by_cases c2 : l.b = x ∧ l.a = y
      · have e : lkS x y none l = some (oV l.k) := by
          unfold lkS
          rw [if_pos ⟨c2.1.symm, c2.2.symm⟩]
        rw [if_neg c1, if_pos c2, e, keep_lkS ls _ (far (.inr c2))]
        rfl
      · have e : lkS x y none l = none := by
          unfold lkS
          rw [if_neg (fun z => c2 ⟨z.1.symm, z.2.symm⟩), if_neg (fun z => c1 ⟨z.1.symm, z.2.symm⟩)]
        rw [if_neg c1, if_neg c2, e]
        exact lkv_wy ls hp2 fun m hm => ha m (List.mem_cons_of_mem _ hm)
theorem lkv_wyP {N : Net} (ok : NetOk N) (x y : Int) : (lkv N.ls x y).getD .non = oV (wyP N.ls x y) := lkv_wy N.ls ok.lt fun m hm => (ok.ok m hm).ab
/-- the ways out of x -/
def opA (x : Int) (l : Lnk) : List (Int × Int) := if l.a = x then (match l.t with | some p => [(l.b, p)] | none => []) else []
def opB (x : Int) (l : Lnk) : List (Int × Int) := if l.b = x then (match l.k with | some p => [(l.a, p)] | none => []) else []
def opL (ls : List Lnk) (x : Int) : List (Int × Int) := ls.flatMap fun l => opA x l ++ opB x l
theorem mem_opA {x b p : Int} {l : Lnk} : (b, p) ∈ opA x l ↔ l.a = x ∧ l.b = b ∧ l.t = some p := by
  unfold opA
  by_cases c : l.a = x
  · rw [if_pos c]
    cases e : l.t with
    | none => exact ⟨fun h => (nomatch h), fun h => (nomatch h.2.2)⟩
    | some q =>
      show (b, p) ∈ [(l.b, q)] ↔ _
      rw [List.mem_singleton, Prod.mk.injEq]
      exact ⟨fun h => ⟨c, h.1.symm, congrArg some h.2.symm⟩, fun h => ⟨h.2.1.symm, (Option.some.inj h.2.2).symm⟩⟩
  · rw [if_neg c]
    exact ⟨fun h => (nomatch h), fun h => absurd h.1 c⟩
theorem mem_opB {x b p : Int} {l : Lnk} : (b, p) ∈ opB x l ↔ l.b = x ∧ l.a = b ∧ l.k = some p := by
  unfold opB
  by_cases c : l.b = x
  · rw [if_pos c]
    cases e : l.k with
    | none => exact ⟨fun h => (nomatch h), fun h => (nomatch h.2.2)⟩
    | some q =>
      show (b, p) ∈ [(l.a, q)] ↔ _
      rw [List.mem_singleton, Prod.mk.injEq]
      exact ⟨fun h => ⟨c, h.1.symm, congrArg some h.2.symm⟩, fun h => ⟨h.2.1.symm, (Option.some.inj h.2.2).symm⟩⟩
  · rw [if_neg c]
    exact ⟨fun h => (nomatch h), fun h => absurd h.1 c⟩
theorem mem_op {x b p : Int} : ∀ (ls : List Lnk), ls.Pairwise LnkLt → (∀ m ∈ ls, m.a < m.b) → ((b, p) ∈ opL ls x ↔ wyP ls x b = some p)
  | [], _, _ => ⟨fun h => (nomatch h), fun h => (nomatch h)⟩
  | l :: ls, hp, ha => by
    obtain ⟨hp1, hp2⟩ := List.pairwise_cons.mp hp
    have hl := ha l List.mem_cons_self
    have ih := mem_op (x := x) (b := b) (p := p) ls hp2 fun m hm => ha m (List.mem_cons_of_mem _ hm)
    have far : (l.a = x ∧ l.b = b) ∨ (l.b = x ∧ l.a = b) → wyP ls x b = none := fun c => wyP_none fun m hm => lnk_far (hp1 m hm) hl (ha m (List.mem_cons_of_mem _ hm)) c
    show (b, p) ∈ (l :: ls).flatMap (fun l => opA x l ++ opB x l) ↔ (if l.a = x ∧ l.b = b then l.t else if l.b = x ∧ l.a = b then l.k else wyP ls x b) = some p
    rw [List.flatMap_cons, List.mem_append, List.mem_append, mem_opA, mem_opB]
    have ih' : (b, p) ∈ ls.flatMap (fun l => opA x l ++ opB x l) ↔ wyP ls x b = some p := ih
    rw [ih']
    by_cases c1 : l.a = x ∧ l.b = b
    · rw [if_pos c1, far (.inl c1)]
      constructor
      · rintro ((h | h) | h)
        · exact h.2.2
        · omega
        · cases h
      · exact fun h => .inl (.inl ⟨c1.1, c1.2, h⟩)
    · rw [if_neg c1]
      by_cases c2 : l.b = x ∧ l.a = b
      · rw [if_pos c2, far (.inr c2)]
        constructor
        · rintro ((h | h) | h)
          · omega
          · exact h.2.2
          · cases h
        · exact fun h => .inl (.inr ⟨c2.1, c2.2, h⟩)
      · rw [if_neg c2]
        constructor
        · rintro ((h | h) | h)
          · exact absurd ⟨h.1, h.2.1⟩ c1
          · exact absurd ⟨h.1, h.2.1⟩ c2
          · exact h
        · exact fun h => .inr h
theorem mem_opL {N : Net} (ok : NetOk N) {x b p : Int} : (b, p) ∈ opL N.ls x ↔ wyP N.ls x b = some p := mem_op N.ls ok.lt fun m hm => (ok.ok m hm).ab
theorem wyP_in {N : Net} (ok : NetOk N) {x b p : Int} (h : wyP N.ls x b = some p) : (0 ≤ x ∧ x < N.n) ∧ (0 ≤ b ∧ b < N.n) ∧ 1 ≤ p ∧ p ≤ 1000000 := by
  obtain ⟨l, hl, hm⟩ := List.mem_flatMap.mp ((mem_opL ok).mpr h)
  have k := ok.ok l hl
  have a0 := k.a0
  have ab := k.ab
  have bn := k.bn
  rcases List.mem_append.mp hm with hm | hm
  · obtain ⟨e1, e2, e3⟩ := mem_opA.mp hm
    have := k.t p e3
    omega
  · obtain ⟨e1, e2, e3⟩ := mem_opB.mp hm
    have := k.k p e3
    omega
theorem opA_len {x : Int} {l : Lnk} : (opA x l).length ≤ 1 := by
  unfold opA
  split
  · split
    · exact Nat.le_refl _
    · exact Nat.zero_le _
  · exact Nat.zero_le _
theorem opB_len {x : Int} {l : Lnk} : (opB x l).length ≤ 1 := by
  unfold opB
  split
  · split
    · exact Nat.le_refl _
    · exact Nat.zero_le _
  · exact Nat.zero_le _
theorem opL_len {x : Int} : ∀ ls : List Lnk, (opL ls x).length ≤ 2 * ls.length
  | [] => Nat.zero_le _
  | l :: ls => by
    have ih := opL_len (x := x) ls
    have h1 := opA_len (x := x) (l := l)
    have h2 := opB_len (x := x) (l := l)
    show ((l :: ls).flatMap (fun l => opA x l ++ opB x l)).length ≤ _
    rw [List.flatMap_cons, List.length_append, List.length_append, List.length_cons]
    have ih' : (ls.flatMap (fun l => opA x l ++ opB x l)).length ≤ 2 * ls.length := ih
    omega
/-! sorted pairs -/
section
variable {H : Hp} {ts : List V} {L : List (Int × Int)}
def kP6 (H : Hp) : V → Int × Int
  | .ref t => (match H t with
    | some (.tup [.int a, .int b]) => (a, b)
    | _ => (0, 0))
  | _ => (0, 0)
theorem kP6_at {t : Addr} {a b : Int} (h : H t = some (.tup [.int a, .int b])) : kP6 H (.ref t) = (a, b) := by
  show (match H t with | some (.tup [.int a, .int b]) => (a, b) | _ => (0, 0)) = (a, b)
  rw [h]
theorem TupsAt.ref6 (h : TupsAt H ts L) {x : V} (hx : x ∈ ts) : ∃ t, x = V.ref t ∧ H t = some (.tup [.int (kP6 H x).1, .int (kP6 H x).2]) := by
  obtain ⟨i, hi⟩ := List.mem_iff_getElem?.mp hx
  have il : i < L.length := by rw [← h.len]; exact (List.getElem?_eq_some_iff.mp hi).1
  have hg : L[i]? = some (L[i]'il) := List.getElem?_eq_getElem il
  obtain ⟨t, h1, h2⟩ := h.at_ i (L[i]'il).1 (L[i]'il).2 hg
  cases hi.symm.trans h1
  exact ⟨t, rfl, by rw [kP6_at h2]; exact h2⟩
theorem TupsAt.keys6 (h : TupsAt H ts L) : ts.map (kP6 H) = L := by
  refine List.ext_getElem (by rw [List.length_map, h.len]) fun i h1 h2 => ?_
  have hg : L[i]? = some (L[i]'h2) := List.getElem?_eq_getElem h2
  obtain ⟨t, e1, e2⟩ := h.at_ i (L[i]'h2).1 (L[i]'h2).2 hg
  have e3 := (List.getElem?_eq_some_iff.mp e1).2
  rw [List.getElem_map, e3, kP6_at e2]
theorem tups_of6 : ∀ {ys : List V}, (∀ x ∈ ys, ∃ t, x = V.ref t ∧ H t = some (.tup [.int (kP6 H x).1, .int (kP6 H x).2])) → TupsAt H ys (ys.map (kP6 H)) := fun {ys} h => ⟨by rw [List.length_map], fun i u v e => by
  rw [List.getElem?_map] at e
  obtain ⟨y, hy, ey⟩ := Option.map_eq_some_iff.mp e
  obtain ⟨t, e1, e2⟩ := h y (List.mem_of_getElem? hy)
  subst e1
  rw [ey] at e2
  exact ⟨t, hy, e2⟩⟩
def Lx6 (p q : Int × Int) : Prop := SrtO.lexB q p = false
theorem lx6_anti (p q : Int × Int) (h : Lx6 p q) (k : Lx6 q p) : p = q := by
  have n1 := SrtO.lexB_no.mp h
  have n2 := SrtO.lexB_no.mp k
  exact Prod.ext (by omega) (by omega)
theorem sort6 {ys : List V} (h : TupsAt H ts L) (h1 : SrtO.Srtd (ltP (kP6 H)) ys) (h2 : SrtO.Stb (ltP (kP6 H)) ys ts) : ∃ M : List (Int × Int), M.Perm L ∧ M.Pairwise Lx6 ∧ TupsAt H ys M := by
  refine ⟨ys.map (kP6 H), ?_, List.pairwise_map.mpr h1, tups_of6 fun x hx => h.ref6 (h2.perm.mem_iff.mp hx)⟩
  have e := h2.perm.map (kP6 H)
  rw [h.keys6] at e
  exact e
end
/-! turns -/
structure TrnOk (kvs : List (List L2.Key × V)) : Prop where
  len : kvs.length ≤ 100
  at_ : ∀ p ∈ kvs, ∃ (a b c : Int) (o : Option Int), p = ([Sum.inl a, Sum.inl b, Sum.inl c], oV o) ∧ ((0 ≤ a ∧ a ≤ 40) ∧ (0 ≤ b ∧ b ≤ 40) ∧ (0 ≤ c ∧ c ≤ 40)) ∧ ∀ x, o = some x → 0 ≤ x ∧ x ≤ 1000000
def tV (kvs : List (List L2.Key × V)) (a b c : Int) : V := (valV kvs [Sum.inl a, Sum.inl b, Sum.inl c]).getD (.int 0)
def tP (kvs : List (List L2.Key × V)) (a b c : Int) : Option Int := match tV kvs a b c with
  | .int i => some i
  | _ => none
theorem oV_inj {o q : Option Int} (h : oV o = oV q) : o = q := by
  cases o <;> cases q <;> first | rfl | cases h
  rfl
theorem tP_eq {kvs : List (List L2.Key × V)} (ok : TrnOk kvs) (a b c : Int) : tV kvs a b c = oV (tP kvs a b c) := by
  have h : ∃ o, tV kvs a b c = oV o := by
    unfold tV
    cases e : valV kvs [Sum.inl a, Sum.inl b, Sum.inl c] with
    | none => exact ⟨some 0, rfl⟩
    | some v =>
      unfold valV at e
      obtain ⟨kv, h1, h2⟩ := Option.map_eq_some_iff.mp e
      obtain ⟨_, _, _, o, e1, _⟩ := ok.at_ kv (List.mem_of_find?_eq_some h1)
      refine ⟨o, ?_⟩
      show v = oV o
      rw [← h2, e1]
  obtain ⟨o, e⟩ := h
  unfold tP
  rw [e]
  cases o <;> rfl
/-! sums of runs -/
section
variable (N : Net) (kvs : List (List L2.Key × V)) (run : List Int)
def wA (j : Nat) : Option Int := wyP N.ls (run.getD (j - 1) 0) (run.getD j 0)
def xA (j : Nat) : Option Int := if 1 < j then tP kvs (run.getD (j - 2) 0) (run.getD (j - 1) 0) (run.getD j 0) else some 0
def sumTo : Nat → Int
  | 0 => 0
  | j + 1 => sumTo j + (wA N run (j + 1)).getD 0 + (xA kvs run (j + 1)).getD 0
structure GoodR : Prop where
  ne : run ≠ []
  inn : ∀ p ∈ run, 0 ≤ p ∧ p < N.n
  w : ∀ j, 1 ≤ j → j < run.length → (wA N run j).isSome = true
  x : ∀ j, 1 ≤ j → j < run.length → (xA kvs run j).isSome = true
open Classical in
noncomputable def resR : Option Int := if GoodR N kvs run then some (sumTo N kvs run (run.length - 1)) else none
theorem resR_good (h : GoodR N kvs run) : resR N kvs run = some (sumTo N kvs run (run.length - 1)) := if_pos h
theorem resR_bad (h : ¬ GoodR N kvs run) : resR N kvs run = none := if_neg h
end
theorem room65 {k : Nat} {A : Around} (r : Room k A) : A.units + 65 < cLine := by
  have := r.un
  omega
/-! ### the price of a link, the places lower than both -/
def linkW : List Lnk → Int → Int → Option Int
  | [], _, _ => none
  | l :: r, x, y => if l.a = x ∧ l.b = y then l.t else if l.b = x ∧ l.a = y then l.k else linkW r x y
def spLLink (K : PySem.W.Frag) : Sp := fun vs H Q _ => ∃ (v : V) (N : Net) (x y : Int), vs = [v, .int x, .int y] ∧ Dp K H v (netD N) ∧ ∀ H', Same H H' → Q (oV (linkW N.ls x y)) H'
section
variable {P : Program} {w : World} {K : PySem.W.Frag} {mg : Str → Option Value} {base : Heap}
end
section
variable {K : PySem.W.Frag} {σ : L2.St} {H : Hp} {ta tb te tl : TE} {tt : TT} {v : V}
/-- [f x for x in xs if ..], the test makes objects on its way -/
theorem vn_lcIX {j : Nat} {ns : List Int} {pb : Int → Bool} {f : Int → V} (hl : ∀ Q : VK, (∀ a H1, Same H H1 → SqL K H1 a (ns.map V.int) → Q (.ref a) H1) → tl σ H Q) (hz : ns.length ≤ 1000000)
    (ht : ∀ x ∈ ns, ∀ H', Same H H' → Ax tt ((σ.set j none).set j (some (.int x))) H' (pb x)) (he : ∀ x ∈ ns, ∀ H', Same H H' → Vl te ((σ.set j none).set j (some (.int x))) H' (f x)) :
    Vn (tLc (iList K tl) (gName j) tt te [j]) σ H ((ns.filter pb).map f) := fun Q q => by
  refine hl _ fun a H1 s1 hx => ⟨a, rfl, ⟨_, hx⟩, fun D nD => lc_list (xs := ns.map V.int) (fun i H' => H' D = some (.lst (((ns.take i).filter pb).map f)) ∧ Same H1 H') ⟨upd_same, same_upd nD⟩ (fun i H' _ hP => hP.2.seq hx) (fun i x H2 hi hP => ?_) (fun H2 hP => ?_)⟩
  · obtain ⟨hD, s2⟩ := hP
    rw [List.getElem?_map] at hi
    cases hg : ns[i]? with
    | none =>
      rw [hg] at hi
      cases hi
    | some n =>
      rw [hg] at hi
      cases hi
      have hm := List.mem_of_getElem? hg
      have e : (ns.take (i + 1)).filter pb = (ns.take i).filter pb ++ [n].filter pb := by
        rw [take_snoc hg]
        exact List.filter_append ..
      refine ⟨?_, ht n hm H2 (s1.trans s2) _ fun H3 s3 => ?_⟩
      · show ((σ.set j none).set j (some (V.int n))).set j none = σ.set j none
        rw [List.set_set, List.set_set]
      · cases hp : pb n with
        | true =>
          have e2 : [n].filter pb = [n] := by
            rw [List.filter_cons, hp]
            rfl
          refine iteT (B := H3 D = some (.lst (((ns.take (i + 1)).filter pb).map f)) ∧ Same H1 H3) (he n hm H3 ((s1.trans s2).trans s3) _ ⟨_, s3 _ _ hD, ?_, ?_, same_upd' (s2.trans s3) nD⟩)
          · rw [List.length_map]
            have h1 : ((ns.take i).filter pb).length ≤ ns.length := Nat.le_trans (List.length_filter_le _ _) (by rw [List.length_take]; exact Nat.min_le_right _ _)
            exact Nat.lt_of_le_of_lt (m := 1000000) (by omega) (by decide)
          · rw [upd_same, e, e2, List.map_append]
            rfl
        | false =>
          have e2 : [n].filter pb = [] := by
            rw [List.filter_cons, hp]
            rfl
          refine iteF ⟨?_, s2.trans s3⟩
          rw [e, e2, List.append_nil]
          exact s3 _ _ hD
  · obtain ⟨hD, s2⟩ := hP
    rw [show ns.take (ns.map V.int).length = ns by rw [List.length_map, List.take_length]] at hD
    exact q D H2 (s1.trans s2) (Same.free s1 nD) hD
theorem lay_pairs : ∀ L : List (Int × Int), PyData.canLayAll0 (L.map pairD2) = true ∧ PyData.depthAll (L.map pairD2) ≤ 1
  | [] => ⟨rfl, Nat.zero_le _⟩
  | x :: L => by
    have ih := lay_pairs L
    constructor
    · show ((true && (true && true)) && PyData.canLayAll0 (L.map pairD2)) = true
      rw [ih.1]
      rfl
    · show max (max 0 (max 0 0) + 1) (PyData.depthAll (L.map pairD2)) ≤ 1
      have := ih.2
      simp only [Nat.max_self, Nat.zero_add]
      omega
theorem shaped_pairs (L : List (Int × Int)) : SeqAt.shaped (.list (L.map pairD2)) = true := by
  have h := lay_pairs L
  show (PyData.canLayAll0 (L.map pairD2) && decide (PyData.depthAll (L.map pairD2) + 1 ≤ 64)) = true
  rw [h.1, decide_eq_true (show PyData.depthAll (L.map pairD2) + 1 ≤ 64 by
    have := h.2
    omega)]
  rfl
theorem any_pairs (L : List (Int × Int)) (p q : Int) : ((L.map pairD2).any fun z => PyData.eqv z (.tuple [.int p, .int q])) = decide ((p, q) ∈ L) := by
  rw [Bool.eq_iff_iff, List.any_eq_true, decide_eq_true_eq]
  have e : ∀ x : Int × Int, PyData.eqv (pairD2 x) (.tuple [.int p, .int q]) = decide (x = (p, q)) := fun x => by
    obtain ⟨a, b⟩ := x
    show (a == p && (b == q && true)) = _
    rw [Bool.and_true, Bool.eq_iff_iff]
    simp
  constructor
  · rintro ⟨z, hz, hq⟩
    obtain ⟨x, hx, rfl⟩ := List.mem_map.mp hz
    rw [e, decide_eq_true_eq] at hq
    rw [← hq]
    exact hx
  · intro h
    refine ⟨_, List.mem_map_of_mem h, ?_⟩
    rw [e, decide_eq_true rfl]
theorem ax_inP {p q : Int} {f : V} {L : List (Int × Int)} {tf : TE} (ha : ∀ H', Same H H' → Vl ta σ H' (.int p)) (hb : ∀ H', Same H H' → Vl tb σ H' (.int q)) (hf : ∀ H', Same H H' → Vl tf σ H' f) (hd : Dp K H f (.list (L.map pairD2))) :
    Ax (tTest (tOp (rInD K) (tTup (tCons ta (tCons tb tNil))) tf)) σ H (decide ((p, q) ∈ L)) := fun Q k =>
  ha H (Same.refl H) _ (hb H (Same.refl H) _ ⟨by show 2 ≤ sizeLine; decide, fun T nT => by
    have s1 : Same H (upd H T (.tup [.int p, .int q])) := same_upd nT
    refine hf _ s1 _ ⟨.tuple [.int p, .int q], L.map pairD2, .tup (.of upd_same) (.cons (.int _) (.cons (.int _) .nil)), Dp.to hd s1, by rfl, shaped_pairs L, _, rfl, ?_⟩
    rw [any_pairs]
    exact k _ s1⟩)
end
def lowerL (L : List (Int × Int)) (os : List Int) (u v : Int) : List Int := os.filter fun w => decide ((w, u) ∈ L) && decide ((w, v) ∈ L)
def spLower (K : PySem.W.Frag) : Sp := fun vs H Q _ => ∃ (f : V) (L : List (Int × Int)) (o : Addr) (os : List Int) (u v : Int), vs = [f, .ref o, .int u, .int v] ∧ Dp K H f (.list (L.map pairD2)) ∧ SqL K H o (os.map V.int) ∧ os.length ≤ 1000 ∧
  ∀ p H', Same H H' → H p = none → H' p = some (.lst ((lowerL L os u v).map V.int)) → Q (.ref p) H'
section
variable {P : Program} {w : World} {K : PySem.W.Frag} {mg : Str → Option Value} {base : Heap}
end
end Ovc
namespace L2
open PySem PySem.Spec PyProof.Rows
/-! ### a dict comprehension whose keys are tuples -/
theorem dictSetT {X : Cx} {pins : List (Addr × Obj)} {σ : St} {H : Hp} {s : Shared} {E : Value → Shared → Prop} {D b : Addr} {kvs : List (List Key × V)} {k : List Key} {v : V} {r : Value} {Q : Unit → Shared → Prop} (hu : X.A.units + 1 < cLine) (I : Inv X pins σ H s)
    (hD : H D = some (.dT kvs)) (hb : H b = some (.tup (k.map kV))) (hz : kvs.length < sizeLine) (rv : RelV v r) (done : ∀ s', Inv X pins σ (upd H D (.dT (putK kvs k v))) s' → Q () s') : wpAny (model X.prog X.w) X.A (dictSet D (.ref b) r) Q E s := by
  obtain ⟨_, notSys, us, rel, dof⟩ := dt_of I.hok hD
  have us_small : us.length ≤ sizeLine := by
    have := Paired.length rel
    omega
  have put_small : (putK kvs k v).length ≤ sizeLine := by
    have := length_putK kvs k v
    omega
  refine wpAny_dictSet_heap (hsz := us_small) (Nat.lt_of_succ_lt hu) (key_of I.hok hb) dof fun h' after same => done _ ?_
  obtain ⟨ob, es, ep, at_, e2, e3, e4, _, e6⟩ := after
  refine d_write I (by rw [hD] <;> exact True.intro) same ⟨ob, at_⟩ ⟨put_small, notSys, _, (rel.put k hb rv).keeps fun c ys ec => ?_, ob, es, ep, at_, e2, e3, e4, e6⟩
  rw [upd_ne (ne_of ec hD (fun z => nomatch z))]
  exact ec
section
variable {X : Cx}
/-- the reading: D the new dict; y the key, a tuple of ints and texts -/
def tDcT (wi : TI) (g : TG) (tt : TT) (tk tv : TE) (vs : List Nat) : TE := fun σ H Q => wi σ H fun J H1 => ∀ D, H1 D = none → ∃ W : Nat → Nat → Hp → Prop, (∃ m, W 0 m (upd H1 D (.dT []))) ∧ ∀ i m H, W i m H →
  (J.stop i H ∧ Q (.ref D) H) ∨ (J.go i H ∧ ∃ Nx : Hp → Prop, (∀ H', Nx H' → ∃ m', m' < m ∧ W (i + 1) m' H') ∧ ∀ x H', J.yld i H x H' → g x (wipe σ vs) H' fun σ2 H2 => wipe σ2 vs = wipe σ vs ∧ tt σ2 H2 fun c H3 =>
    if c = true then tk σ2 H3 fun y H4 => tv σ2 H4 fun z H5 => ∃ kvs k b, y = .ref b ∧ H5 b = some (.tup (k.map kV)) ∧ H5 D = some (.dT kvs) ∧ kvs.length < sizeLine ∧ Nx (upd H5 D (.dT (putK kvs k z))) else Nx H3)
theorem dcT_core {pins : List (Addr × Obj)} {s : Shared} {σ : St} {H : Hp} {Q : VK} {kx vx tg iter : Expr} {ifs : List Expr} {scope : Scope} {own : List (Str × Nat)} {pos pos' : Pos} {wi : TI} {g : TG} {tt : TT} {tk tv : TE} {use : Option (Value → Sem Unit)} {Qf : Value → Shared → Prop} (hu : X.A.units + 1 < cLine) (calm : X.calm = true) (nd : X.N.Nodup) (src : PI X tg iter wi) (ok : BlkOk X.N X.env.scope scope own)
    (pg : ∀ (s : Shared) (H : Hp) (C : Addr) (cl : List (Str × Addr)) (fp : List Addr), PG (X.blk s H scope (compEnvC scope cl C X.env) fp) tg g)
    (pt : ∀ (s : Shared) (H : Hp) (C : Addr) (cl : List (Str × Addr)) (fp : List Addr), PTs (X.blk s H scope (compEnvC scope cl C X.env) fp) ifs tt)
    (pk : ∀ (s : Shared) (H : Hp) (C : Addr) (cl : List (Str × Addr)) (fp : List Addr), PE (X.blk s H scope (compEnvC scope cl C X.env) fp) kx tk)
    (pv : ∀ (s : Shared) (H : Hp) (C : Addr) (cl : List (Str × Addr)) (fp : List Addr), PE (X.blk s H scope (compEnvC scope cl C X.env) fp) vx tv) (I : Inv X pins σ H s) (hs : ∀ x, foldedSetIterable iter X.env x = pure x)
    (want : tDcT wi g tt tk tv (own.map (·.2)) σ H Q)
    (back : ∀ D C s' m H', Inv X pins σ H' s' → Q (.ref D) H' → s'.heap.Ns C m → FpOk X pins H' C → compPost (model X.prog X.w) X.A X.xe use Qf (.ref D) C (.ok .next) s') :
    wpAny (model X.prog X.w) X.A (comprehension (.DictComp kx vx [⟨tg, iter, ifs, 0⟩] scope pos) scope X.env pos' newDict false (eval iter X.env) use) Qf X.xe s := by
  have cells : ∀ y ∈ scope.names, y.2 = .free → ∃ c, X.env.cells.lookup y.1 = some c := fun y hy e => I.ok.has _ (ok.free y hy e)
  refine wpAny_comprehension_free (use := use) rfl hs (closure_ok cells) ok.kind (fun y hy e => by rw [ok.uniq y hy, e]) (thn (src.run pins s σ H _ I want) fun xv s1 r1 => thn r1 fun itv s2 r2 => ?_)
  obtain ⟨it, fp, tn, J, Hi, rfl, Ii, T, t0, own0, reading⟩ := r2
  refine wpAny_newObj_type (newEnv_comp ?_)
  -- the new dict stands at D
  generalize eD : s2.heap.objs.size = D
  have freeD : Hi D = none := Ii.hok.fresh (Nat.le_of_eq eD)
  obtain ⟨W, ⟨m0, begin_⟩, turn⟩ := reading D freeD
  generalize e3 : (Shared.mk (s2.heap.push { cls := .type "dict", data := .dict #[] }) s2.gens s2.drawn s2.toks s2.os) = s3
  have heap3 : s3.heap = s2.heap.push { cls := .type "dict", data := .dict #[] } := by rw [← e3]
  have I3 : Inv X pins σ (upd Hi D (.dT [])) s3 := by
    rw [← e3]
    refine Ii.laid (t' := s2.toks) (fun b o q => Heap.get?_push_of_some _ q) (Nat.le_of_eq eD) ?_
    have := dt_empty (P := X.prog) (w := X.w) (H := upd Hi D (.dT [])) s2.heap Ii.big
    rw [eD] at this
    exact this
  have below : ∀ b ∈ fp, b < s2.heap.objs.size := fun b hb => let ⟨_, q, _⟩ := T.obj _ _ t0 b hb; Heap.lt_size q
  have own3 : ∀ b ∈ fp, FpOk X pins (upd Hi D (.dT [])) b ∧ b < s3.heap.objs.size := fun b hb => by
    have lt := below b hb
    constructor
    · refine ⟨?_, (own0 b hb).2⟩
      rw [upd_ne (by rw [← eD] <;> exact Nat.ne_of_lt lt)]
      exact (own0 b hb).1
    · rw [heap3, Heap.size_push]
      exact Nat.lt_succ_of_lt lt
  have t3 : tn 0 s3.heap := T.keep _ _ _ t0 fun b _ o q => by
    rw [heap3]
    exact Heap.get?_push_of_some _ q
  have I4 := block_start I3 ok nd own3
  have none3 : ∀ b ∈ fp, (upd Hi D (.dT [])) b = none := fun b hb => (own3 b hb).1.1
  show codeAny _ _ (.compStart (.DictComp kx vx [⟨tg, iter, ifs, 0⟩] scope pos) 0 (.ref it) (.ref D) (compEnvC scope (cellsFrom (s3.heap.objs.size + 1) scope.names (cloFrom X.env.cells scope.names [])) s3.heap.objs.size X.env)) _ { s3 with heap := pushCells (s3.heap.push { cls := .type "dict", data := .dict #[] }) scope.names }
  have pg' := pg s3 (upd Hi D (.dT [])) s3.heap.objs.size (cellsFrom (s3.heap.objs.size + 1) scope.names (cloFrom X.env.cells scope.names [])) fp
  have pt' := pt s3 (upd Hi D (.dT [])) s3.heap.objs.size (cellsFrom (s3.heap.objs.size + 1) scope.names (cloFrom X.env.cells scope.names [])) fp
  have pk' := pk s3 (upd Hi D (.dT [])) s3.heap.objs.size (cellsFrom (s3.heap.objs.size + 1) scope.names (cloFrom X.env.cells scope.names [])) fp
  have pv' := pv s3 (upd Hi D (.dT [])) s3.heap.objs.size (cellsFrom (s3.heap.objs.size + 1) scope.names (cloFrom X.env.cells scope.names [])) fp
  generalize ece : compEnvC scope (cellsFrom (s3.heap.objs.size + 1) scope.names (cloFrom X.env.cells scope.names [])) s3.heap.objs.size X.env = ce at I4 pg' pt' pk' pv' ⊢
  have loc : ce.locals = s3.heap.objs.size := by rw [← ece] <;> rfl
  generalize upd Hi D (.dT []) = H3 at I3 I4 pg' pt' pk' pv' begin_ none3 own3
  generalize e4 : ({ s3 with heap := pushCells (s3.heap.push { cls := .type "dict", data := .dict #[] }) scope.names } : Shared) = s4 at I4 ⊢
  have t4 : tn 0 s4.heap := T.keep _ _ _ t3 fun b _ o q => by
    rw [← e4]
    exact pushCells_keeps _ _ _ _ (Heap.get?_push_of_some _ q)
  have mine : ∀ {σ' : St} {H' : Hp} {s' : Shared}, Inv (X.blk s3 H3 scope ce fp) [] σ' H' s' → (∀ b ∈ fp, H' b = none) → ∀ b ∈ fp, FpOk (X.blk s3 H3 scope ce fp) [] H' b := fun {σ' H' s'} J' hn b hb =>
    ⟨hn b hb, (J'.ok.exf b hb).1, J'.ok.exfs b hb, .inl hb, fun x c e => (J'.ok.exf b hb).2 x c e, fun p hp => by cases hp⟩
  refine codeAny_compStart_dict ?goes (T.self X.A 0 _ _ _ t4 ?goes)
  refine compLoop_anyD (fun n s' => ∃ i H', Inv (X.blk s3 H3 scope ce fp) [] (wipe σ (own.map (·.2))) H' s' ∧ tn i s'.heap ∧ (∀ b ∈ fp, H' b = none) ∧ W i n H') ?_ m0 ⟨0, H3, I4, t4, none3, begin_⟩
  rintro n s5 ⟨i, H5, I5, t5, n5, w5⟩
  rcases turn i n H5 w5 with ⟨over, q⟩ | ⟨goes, Nx, next, step⟩
  · refine thnF (T.done (X.blk s3 H3 scope ce fp) rfl rfl rfl calm i [] s5 _ H5 (fun _ _ => False) I5 (mine I5 n5) t5 over) fun r s6 ⟨hr, I6⟩ => ?_
    subst hr
    have out : Inv X pins σ H5 s6 := I3.call' (ch := fp) I6.os I6.base I6.hok I6.bare fun b hb => let f := (own3 b hb).1; ⟨f.2.2.2.1, f.2.1, f.2.2.2.2.1, f.2.2.2.2.2⟩
    have nC : H5 s3.heap.objs.size = none := by
      rw [← loc]
      exact I6.free
    obtain ⟨m, ns, _⟩ := I6.loc
    have ns : s6.heap.Ns ce.locals m := ns
    rw [loc] at ns
    exact back D s3.heap.objs.size s6 m H5 out q ns (I3.fpOk (Nat.le_refl _) nC)
  · refine thnF (T.item (X.blk s3 H3 scope ce fp) rfl rfl rfl calm i [] s5 _ H5 (fun _ _ => False) I5 (mine I5 n5) t5 goes) fun r s6 ⟨u, hr, r6⟩ => ?_
    subst hr
    refine thnF r6 fun _ s7 ⟨x, H7, I7, rx, y7, t7, n7⟩ => ?_
    refine thnF (pg'.run _ s7 _ H7 x u _ (I7.pinned (mine I7 n7) (T.obj _ _ t7)) rx (step x H7 y7)) fun _ s8 ⟨σ8, H8, I8, w8, q8⟩ => ?_
    refine thnF (pt'.run _ s8 σ8 H8 _ I8 q8) fun c s9 ⟨H9, I9, q9⟩ => ?_
    have close : ∀ {s' : Shared} {H' : Hp}, Inv (X.blk s3 H3 scope ce fp) ([] ++ pinsAt fp s7.heap) σ8 H' s' → Nx H' → ∃ m, m < n ∧ ∃ i H', Inv (X.blk s3 H3 scope ce fp) [] (wipe σ (own.map (·.2))) H' s' ∧ tn i s'.heap ∧ (∀ b ∈ fp, H' b = none) ∧ W i m H' := fun {s' H'} J' nx => by
      obtain ⟨m', lt, w'⟩ := next H' nx
      have pinned : ∀ b ∈ fp, ∀ o, s7.heap.get? b = some o → s'.heap.get? b = some o ∧ H' b = none := fun b hb o e =>
        let z := J'.pin (b, o) (List.mem_append_right _ (List.mem_append_right _ (mem_pinsAt hb e)))
        ⟨z.1, z.2.1⟩
      have len : (wipe σ (own.map (·.2))).length = σ8.length := by rw [← w8, wipe_length]
      refine ⟨m', lt, i + 1, H', (J'.unpinned (pins := [])).weak len (fun j v e => ?_), T.keep _ _ _ t7 fun b hb o e => (pinned b hb o e).1, fun b hb => ?_, w'⟩
      · rw [← w8] at e
        exact (wipe_some e).1
      · obtain ⟨o, e, _⟩ := T.obj _ _ t7 b hb
        exact (pinned b hb o e).2
    cases c with
    | false =>
      simp only [Bool.false_eq_true, if_false] at q9 ⊢
      exact close I9 q9
    | true =>
      simp only [if_true] at q9 ⊢
      refine thnF (pk'.run _ s9 σ8 H9 _ I9 q9) fun z s10 ⟨yk, H10, I10, r10, q10⟩ => ?_
      refine thnF (pv'.run _ s10 σ8 H10 _ I10 q10) fun z2 s11 ⟨yv, H11, I11, r11, kvs, k, b, ek, hb, hD, hz, nx⟩ => ?_
      subst ek
      cases (show z = Value.ref b from r10)
      exact dictSetT (X := X.blk s3 H3 scope ce fp) hu I11 hD hb hz r11 fun s12 I12 => close I12 nx
theorem pe_dcT {kx vx tg iter : Expr} {ifs : List Expr} {scope : Scope} {own : List (Str × Nat)} {pos : Pos} {wi : TI} {g : TG} {tt : TT} {tk tv : TE} (hu : X.A.units + 1 < cLine) (calm : X.calm = true) (nd : X.N.Nodup) (src : PI X tg iter wi) (ok : BlkOk X.N X.env.scope scope own)
    (pg : ∀ (s : Shared) (H : Hp) (C : Addr) (cl : List (Str × Addr)) (fp : List Addr), PG (X.blk s H scope (compEnvC scope cl C X.env) fp) tg g)
    (pt : ∀ (s : Shared) (H : Hp) (C : Addr) (cl : List (Str × Addr)) (fp : List Addr), PTs (X.blk s H scope (compEnvC scope cl C X.env) fp) ifs tt)
    (pk : ∀ (s : Shared) (H : Hp) (C : Addr) (cl : List (Str × Addr)) (fp : List Addr), PE (X.blk s H scope (compEnvC scope cl C X.env) fp) kx tk)
    (pv : ∀ (s : Shared) (H : Hp) (C : Addr) (cl : List (Str × Addr)) (fp : List Addr), PE (X.blk s H scope (compEnvC scope cl C X.env) fp) vx tv) (hs : ∀ x, foldedSetIterable iter X.env x = pure x := by intro _; rfl) :
    PE X (.DictComp kx vx [⟨tg, iter, ifs, 0⟩] scope pos) (tDcT wi g tt tk tv (own.map (·.2))) := by
  refine ⟨fun pins s σ H Q I want => ?_⟩
  rw [arm_eval_DictComp]
  refine dcT_core hu calm nd src ok pg pt pk pv I hs want fun D C s' m H' out q ns own' => ⟨m, ns, fun h'' sb => ?_⟩
  obtain ⟨f0, f1, f2, f3, f4, f5⟩ := own'
  exact ⟨.ref D, H', out.turned (t' := s'.toks) (fun b o hb e => (sb.2 b hb).trans e) f0 f1 f3 f4 f5, rfl, q⟩
/-! ### .. whose dict is stored at once -/
theorem swapsD {kx vx : Expr} {gs : List Comprehension} {scope : Scope} {pos py : Pos} {y : Str} {l : Nat} {env : Env} (fn : env.scope.kind = .function) (loc : env.scope.names.lookup y = some .local) (row : (py.line == pos.line) = true)
    (other : (scope.names.any fun (n, k) => n == y && (k == .local || k == .cell)) = false) : swapsWith (.DictComp kx vx gs scope pos) (some (.Name y py)) l env = pure true := by
  have k1 : env.kindOf y = some .local := loc
  have k2 : env.blockKind = .function := by
    unfold Env.blockKind
    rw [fn] <;> rfl
  unfold swapsWith
  simp only [k2, k1, other, Expr.pos, row]
  rfl
/-- the new dict in slot i -/
theorem stored_ok {pins : List (Addr × Obj)} {σ : St} {H' : Hp} {s' : Shared} {i : Nat} {y : Str} {py : Pos} {D C : Addr} {m : Str → Option Value} {Ends_ : Ends} (nd : X.N.Nodup) (at_ : X.N[i]? = some y) (loc : X.env.scope.names.lookup y = some .local)
    (I : Inv X pins σ H' s') (q : gName i (.ref D) σ H' Ends_.nx) (ns : s'.heap.Ns C m) (f : FpOk X pins H' C) :
    wpAny (model X.prog X.w) X.A (assign (.Name y py) X.env (.ref D)) (fun _ s'' => ∃ m, s''.heap.Ns C m ∧ ∀ h', Heap.SameBut C s''.heap h' → SP X pins Ends_ .next { s'' with heap := h' }) X.xe s' := by
  refine wpAny_assign_Name (store_ok2 (v := V.ref D) I nd at_ (.inl loc) rfl (fun s2 I2 where_ => ?_) (.inr loc))
  obtain ⟨a, sb, ha⟩ := where_
  obtain ⟨f0, f1, f2, f3, f4, f5⟩ := f
  have apart : C ≠ a := ha.elim (fun z => z ▸ f1) fun z e => f4 y a z e.symm
  exact ⟨m, ns.sameBut sb apart, fun h3 sb3 => ⟨_, H', I2.turned (t' := s2.toks) (fun b o hb e => (sb3.2 b hb).trans e) f0 f1 f3 f4 f5, q⟩⟩
theorem ps_setDcT {i : Nat} {y : Str} {py : Pos} {kx vx tg iter : Expr} {ifs : List Expr} {scope : Scope} {own : List (Str × Nat)} {pos spos : Pos} {wi : TI} {g : TG} {tt : TT} {tk tv : TE} (hu : X.A.units + 1 < cLine) (calm : X.calm = true) (nd : X.N.Nodup) (at_ : X.N[i]? = some y) (loc : X.env.scope.names.lookup y = some .local)
    (sw : swapsWith (.DictComp kx vx [⟨tg, iter, ifs, 0⟩] scope pos) (some (.Name y py)) spos.line X.env = pure true) (src : PI X tg iter wi) (ok : BlkOk X.N X.env.scope scope own)
    (pg : ∀ (s : Shared) (H : Hp) (C : Addr) (cl : List (Str × Addr)) (fp : List Addr), PG (X.blk s H scope (compEnvC scope cl C X.env) fp) tg g)
    (pt : ∀ (s : Shared) (H : Hp) (C : Addr) (cl : List (Str × Addr)) (fp : List Addr), PTs (X.blk s H scope (compEnvC scope cl C X.env) fp) ifs tt)
    (pk : ∀ (s : Shared) (H : Hp) (C : Addr) (cl : List (Str × Addr)) (fp : List Addr), PE (X.blk s H scope (compEnvC scope cl C X.env) fp) kx tk)
    (pv : ∀ (s : Shared) (H : Hp) (C : Addr) (cl : List (Str × Addr)) (fp : List Addr), PE (X.blk s H scope (compEnvC scope cl C X.env) fp) vx tv) (hs : ∀ x, foldedSetIterable iter X.env x = pure x := by intro _; rfl) :
    PS X (.Assign [.Name y py] (.DictComp kx vx [⟨tg, iter, ifs, 0⟩] scope pos) spos) (tAsg (tDcT wi g tt tk tv (own.map (·.2))) (gName i)) := by
  refine ⟨fun pins s σ H D I want => ?_⟩
  rw [exec_Assign_Name_used _ _ _ _ sw]
  refine wpAny_bind (wpAny_standAt (wpAny_bind ?_))
  show wpAny _ X.A (comprehension (.DictComp kx vx [⟨tg, iter, ifs, 0⟩] scope pos) scope X.env (firstIterPos [⟨tg, iter, ifs, 0⟩] pos) newDict false (eval iter X.env) (some (assign (.Name y py) X.env)) >>= _) _ _ s
  refine wpAny_bind (thn (dcT_core (Qf := fun _ s' => SP X pins D .next s') hu calm nd src ok pg pt pk pv I hs (show tDcT wi g tt tk tv (own.map (·.2)) σ H (fun x H1 => gName i x σ H1 D.nx) from want) fun A C s' m H' out q ns f => stored_ok nd at_ loc out q ns f) fun _ s' hq => wpAny_pure (wpAny_pure hq))
theorem ps_setDc {i : Nat} {y : Str} {py : Pos} {kx vx tg iter : Expr} {ifs : List Expr} {scope : Scope} {own : List (Str × Nat)} {pos spos : Pos} {wi : TI} {g : TG} {tt : TT} {tk tv : TE} (calm : X.calm = true) (nd : X.N.Nodup) (at_ : X.N[i]? = some y) (loc : X.env.scope.names.lookup y = some .local)
    (sw : swapsWith (.DictComp kx vx [⟨tg, iter, ifs, 0⟩] scope pos) (some (.Name y py)) spos.line X.env = pure true) (src : PI X tg iter wi) (ok : BlkOk X.N X.env.scope scope own)
    (pg : ∀ (s : Shared) (H : Hp) (C : Addr) (cl : List (Str × Addr)) (fp : List Addr), PG (X.blk s H scope (compEnvC scope cl C X.env) fp) tg g)
    (pt : ∀ (s : Shared) (H : Hp) (C : Addr) (cl : List (Str × Addr)) (fp : List Addr), PTs (X.blk s H scope (compEnvC scope cl C X.env) fp) ifs tt)
    (pk : ∀ (s : Shared) (H : Hp) (C : Addr) (cl : List (Str × Addr)) (fp : List Addr), PE (X.blk s H scope (compEnvC scope cl C X.env) fp) kx tk)
    (pv : ∀ (s : Shared) (H : Hp) (C : Addr) (cl : List (Str × Addr)) (fp : List Addr), PE (X.blk s H scope (compEnvC scope cl C X.env) fp) vx tv) (hs : ∀ x, foldedSetIterable iter X.env x = pure x := by intro _; rfl) :
    PS X (.Assign [.Name y py] (.DictComp kx vx [⟨tg, iter, ifs, 0⟩] scope pos) spos) (tAsg (tDc wi g tt tk tv (own.map (·.2))) (gName i)) := by
  refine ⟨fun pins s σ H D I want => ?_⟩
  rw [exec_Assign_Name_used _ _ _ _ sw]
  refine wpAny_bind (wpAny_standAt (wpAny_bind ?_))
  show wpAny _ X.A (comprehension (.DictComp kx vx [⟨tg, iter, ifs, 0⟩] scope pos) scope X.env (firstIterPos [⟨tg, iter, ifs, 0⟩] pos) newDict false (eval iter X.env) (some (assign (.Name y py) X.env)) >>= _) _ _ s
  refine wpAny_bind (thn (dc_core (Qf := fun _ s' => SP X pins D .next s') calm nd I src ok pg pt pk pv hs (show tDc wi g tt tk tv (own.map (·.2)) σ H (fun x H1 => gName i x σ H1 D.nx) from want) fun A C s' m H' out q ns f => stored_ok nd at_ loc out q ns f) fun _ s' hq => wpAny_pure (wpAny_pure hq))
end
end L2
namespace Ovc
open PySem PySem.Spec PyProof.Rows L2
/-! ### dicts whose values are new lists (the same as in the pieces of a filling) -/
theorem yes_of {σ : L2.St} {H : Hp} {Q : Bool → Hp → Prop} (h : Q true H) : tYes σ H Q := h
/-- keys and addresses side by side -/
def kz {κ : Type} (ks : List κ) (rw : List Addr) : List (κ × V) := List.zipWith (fun k a => (k, V.ref a)) ks rw
theorem kz_snoc {κ : Type} {ks : List κ} {rs : List Addr} {k : κ} {a : Addr} (h : ks.length = rs.length) : kz (ks ++ [k]) (rs ++ [a]) = kz ks rs ++ [(k, V.ref a)] := by
  unfold kz
  rw [List.zipWith_append h]
  rfl
theorem kz_val {κ : Type} [DecidableEq κ] : ∀ {ks : List κ} {rs : List Addr} {i : Nat} {k : κ} {a : Addr}, ks.Nodup → ks[i]? = some k → rs[i]? = some a → valV (kz ks rs) k = some (.ref a)
  | [], _, _, _, _, _, h, _ => by simp at h
  | _ :: _, [], _, _, _, _, _, h => by simp at h
  | x :: ks, r :: rs, 0, k, a, _, h1, h2 => by
    cases Option.some.inj h1
    cases Option.some.inj h2
    show (List.find? (fun kv : κ × V => decide (kv.1 = x)) ((x, V.ref r) :: kz ks rs)).map (·.2) = _
    rw [List.find?_cons, decide_eq_true (rfl : x = x)] <;> rfl
  | x :: ks, r :: rs, i + 1, k, a, hn, h1, h2 => by
    have hn := List.nodup_cons.mp hn
    have h1 : ks[i]? = some k := h1
    have h2 : rs[i]? = some a := h2
    have ne : ¬ x = k := fun z => hn.1 (by rw [z]; exact List.mem_of_getElem? h1)
    have ih := kz_val hn.2 h1 h2
    show (List.find? (fun kv : κ × V => decide (kv.1 = k)) ((x, V.ref r) :: kz ks rs)).map (·.2) = _
    rw [List.find?_cons, decide_eq_false ne]
    exact ih
theorem kz_any {κ : Type} [DecidableEq κ] : ∀ {ks : List κ} {rs : List Addr} {k : κ}, k ∉ ks → ((kz ks rs).any fun kv => decide (kv.1 = k)) = false
  | [], _, _, _ => rfl
  | _ :: _, [], _, _ => rfl
  | x :: ks, r :: rs, k, h => by
    show (decide (x = k) || (kz ks rs).any fun kv => decide (kv.1 = k)) = false
    rw [kz_any (rs := rs) (fun z => h (List.mem_cons_of_mem _ z)), decide_eq_false (fun z => h (by
      rw [z]
      exact List.mem_cons_self))]
    rfl
theorem kz_put {κ : Type} [DecidableEq κ] {ks : List κ} {rs : List Addr} {k : κ} {a : Addr} (h : k ∉ ks) (hl : ks.length = rs.length) : putK (kz ks rs) k (.ref a) = kz (ks ++ [k]) (rs ++ [a]) := by
  have hf := kz_any (rs := rs) h
  unfold putK
  rw [hf, if_neg Bool.false_ne_true, kz_snoc hl]
theorem kz_len {κ : Type} {ks : List κ} {rs : List Addr} (h : rs.length = ks.length) : (kz ks rs).length = ks.length := by
  unfold kz
  rw [List.length_zipWith, h, Nat.min_self]
def K2 (p : Int × Int) : List L2.Key := [Sum.inl p.1, Sum.inl p.2]
theorem K2_inj {p q : Int × Int} (h : K2 p = K2 q) : p = q := by
  unfold K2 at h
  injection h with e1 e2
  injection e2 with e2 _
  exact Prod.ext (Sum.inl.inj e1) (Sum.inl.inj e2)
section
variable {K : PySem.W.Frag} {σ : L2.St} {H : Hp} {tl : TE}
/-- {x: [] for x in ns} -/
theorem dc_rows {j : Nat} {ns : List Int} {Q : VK} (hj : j < σ.length) (hl : ∀ Q : VK, (∀ a H1, Same H H1 → SqL K H1 a (ns.map V.int) → Q (.ref a) H1) → tl σ H Q) (hn : ns.Nodup) (hz : ns.length ≤ 1000)
    (q : ∀ D H' (rw : List Addr), Same H H' → H D = none → H' D = some (.dK (kz (ns.map Sum.inl) rw)) → rw.length = ns.length → rw.Nodup → D ∉ rw → (∀ a ∈ rw, H a = none ∧ H' a = some (.lst [])) → Q (.ref D) H') : tDc (iList K tl) (gName j) tYes (tVar j) (tLst tNil) [j] σ H Q := by
  refine hl _ fun a H1 s1 hx => ⟨a, rfl, ⟨_, hx⟩, fun D nD => ?_⟩
  refine ⟨fun i m H2 => m + i = ns.length ∧ ∃ rw : List Addr, H2 D = some (.dK (kz ((ns.take i).map Sum.inl) rw)) ∧ Same H1 H2 ∧ rw.length = i ∧ rw.Nodup ∧ D ∉ rw ∧ ∀ a ∈ rw, H a = none ∧ H2 a = some (.lst []),
    ⟨ns.length, rfl, [], upd_same, same_upd nD, rfl, .nil, List.not_mem_nil, fun _ h => (nomatch h)⟩, fun i m H2 hW => ?_⟩
  obtain ⟨em, rw_, hD, s2, hlen, hnd, hDn, hr⟩ := hW
  by_cases hi : i < ns.length
  · refine .inr ⟨⟨_, _, s2.seq hx, by rw [List.getElem?_map, List.getElem?_eq_getElem hi] <;> rfl⟩, fun H2 => ∃ rw : List Addr, H2 D = some (.dK (kz ((ns.take (i + 1)).map Sum.inl) rw)) ∧ Same H1 H2 ∧ rw.length = i + 1 ∧ rw.Nodup ∧ D ∉ rw ∧ ∀ a ∈ rw, H a = none ∧ H2 a = some (.lst []), fun H' h => ⟨m - 1, by omega, by omega, h⟩, fun x H' hy => ?_⟩
    obtain ⟨rfl, hy⟩ := hy
    have hy := hy _ (s2.seq hx)
    have hg : ns[i]? = some ns[i] := List.getElem?_eq_getElem hi
    rw [List.getElem?_map, hg] at hy
    have hnew : ns[i] ∉ ns.take i := fun h => by
      obtain ⟨k, hk⟩ := List.mem_iff_getElem?.mp h
      have hlt := (List.getElem?_eq_some_iff.mp hk).1
      rw [List.length_take] at hlt
      rw [List.getElem?_take, if_pos (by omega), ← hg] at hk
      have := (List.getElem?_inj (by omega) hn).mp hk
      omega
    generalize ns[i] = n at hg hy hnew
    cases hy
    refine ⟨?_, ?_⟩
    · show ((σ.set j none).set j (some (V.int n))).set j none = σ.set j none
      rw [List.set_set, List.set_set]
    · refine yes_of ?_
      dsimp only
      rw [if_pos rfl]
      have hjl : ((σ.set j none).set j (some (V.int n)))[j]? = some (some (V.int n)) := List.getElem?_set_self (by rw [List.length_set]; exact hj)
      refine ⟨_, hjl, Nat.zero_le _, fun p np => ⟨_, Sum.inl n, rfl, same_upd np _ _ hD, ?_, rw_ ++ [p], ?_, ?_, ?_, ?_, ?_, fun b hb => ?_⟩⟩
      · rw [kz_len (by rw [List.length_map, List.length_take, hlen]; omega), List.length_map, List.length_take]
        exact Nat.lt_of_le_of_lt (m := 1000) (by omega) (by decide)
      · rw [upd_same, kz_put (fun h => by
          obtain ⟨z, hz, e⟩ := List.mem_map.mp h
          exact hnew (by rw [← Sum.inl.inj e]; exact hz)) (by rw [List.length_map, List.length_take, hlen]; omega), take_snoc hg, List.map_append]
        rfl
      · exact same_upd' (s2.trans (same_upd np)) nD
      · rw [List.length_append, hlen]
        rfl
      · refine List.nodup_append.mpr ⟨hnd, List.nodup_cons.mpr ⟨List.not_mem_nil, .nil⟩, fun x hx y hy e => ?_⟩
        rw [List.mem_singleton.mp hy] at e
        have := (hr x hx).2
        rw [e, np] at this
        cases this
      · intro h
        rcases List.mem_append.mp h with h | h
        · exact hDn h
        · rw [List.mem_singleton.mp h, np] at hD
          cases hD
      · rcases List.mem_append.mp hb with h | h
        · exact ⟨(hr b h).1, by
            rw [upd_ne (fun e => hDn (by rw [← e]; exact h))]
            exact same_upd np _ _ (hr b h).2⟩
        · have e := List.mem_singleton.mp h
          refine ⟨by rw [e]; exact Same.free (s1.trans s2) np, ?_⟩
          rw [e, upd_ne (fun z => by rw [← z, np] at hD; cases hD)]
          exact upd_same
  · refine .inl ⟨⟨_, s2.seq hx, by rw [List.length_map]; omega⟩, ?_⟩
    rw [List.take_of_length_le (by omega)] at hD
    exact q D H2 rw_ (s1.trans s2) (Same.free s1 nD) hD (by omega) hnd hDn hr
theorem vl_dgetT {td ty : TE} {o b : Addr} {p : Int × Int} {kvs : List (List L2.Key × V)} {v : V} (ho : Vl td σ H (.ref o)) (hk : Vl ty σ H (.ref b)) (hb : H b = some (.tup [.int p.1, .int p.2])) (hd : H o = some (.dT kvs)) (hv : valV kvs (K2 p) = some v) : Vl (tDGet td ty) σ H v := fun Q q => ho _ (hk _ ⟨o, v, rfl, by
  rw [← hv]
  exact DGet.t (k := K2 p) hd hb, q⟩)
end
/-- for .. in zip of two lists, of any lengths -/
theorem for_zipN {K : PySem.W.Frag} {a b : Addr} {xs ys : List V} {g : TG} {tb : TS} {D : Ends} {σ : L2.St} {H : Hp} (Pv : Nat → L2.St → Hp → Prop) (h0 : Pv 0 σ H)
    (hq : ∀ i σ H, Pv i σ H → SqL K H a xs ∧ SqL K H b ys)
    (hs : ∀ (i : Nat) x y T σ H, xs[i]? = some x → ys[i]? = some y → Pv i σ H → H T = none → g (.ref T) σ (upd H T (.tup [x, y])) fun σ2 H2 => tb { D with nx := Pv (i + 1), ct := Pv (i + 1), bk := D.nx } σ2 H2)
    (hd : ∀ σ H, Pv (min xs.length ys.length) σ H → D.nx σ H) :
    ∃ W : Nat → Nat → L2.St → Hp → Prop, (∃ m, W 0 m σ H) ∧ ∀ i m σ H, W i m σ H → ((Itz K a b).stop i H ∧ D.nx σ H) ∨
      ((Itz K a b).go i H ∧ ∃ N : L2.St → Hp → Prop, (∀ σ' H', N σ' H' → ∃ m', m' < m ∧ W (i + 1) m' σ' H') ∧ ∀ v H', (Itz K a b).yld i H v H' → g v σ H' fun σ2 H2 => tb { D with nx := N, ct := N, bk := D.nx } σ2 H2) := by
  refine ⟨fun i m σ H => m + i = min xs.length ys.length ∧ Pv i σ H, ⟨min xs.length ys.length, rfl, h0⟩, fun i m σ H hW => ?_⟩
  obtain ⟨em, p⟩ := hW
  obtain ⟨qx, qy⟩ := hq i σ H p
  by_cases hlt : i < min xs.length ys.length
  · have h1 : i < xs.length := by omega
    have h2 : i < ys.length := by omega
    refine .inr ⟨⟨xs, ys, xs[i], ys[i], qx, qy, List.getElem?_eq_getElem h1, List.getElem?_eq_getElem h2⟩, Pv (i + 1), fun σ' H' p' => ⟨m - 1, by omega, by omega, p'⟩, fun v H' yy => ?_⟩
    obtain ⟨T, x', y', rfl, hT, rfl, f1, f2⟩ := yy
    exact hs i x' y' T σ H (f1 xs qx) (f2 ys qy) p hT
  · have e : i = min xs.length ys.length := by omega
    rw [e] at p
    exact .inl ⟨⟨xs, ys, qx, qy, by omega⟩, hd σ H p⟩
/-! the sum of a list of places, step by step -/
def rsu (w : Int → Int → Option Int) (rd : List Int) : Nat → Option Int
  | 0 => some 0
  | i + 1 => match rsu w rd i, w (rd.getD i 0) (rd.getD (i + 1) 0) with
    | some t, some c => some (t + c)
    | _, _ => none
theorem rsu_none {w : Int → Int → Option Int} {rd : List Int} {i j : Nat} (h : rsu w rd i = none) (hj : i ≤ j) : rsu w rd j = none := by
  induction j with
  | zero =>
    have : i = 0 := by omega
    subst this
    exact h
  | succ j ih =>
    by_cases c : i = j + 1
    · subst c
      exact h
    · have := ih (by omega)
      show (match rsu w rd j, w (rd.getD j 0) (rd.getD (j + 1) 0) with
        | some t, some c => some (t + c)
        | _, _ => none) = none
      rw [this]
theorem rsu_step {w : Int → Int → Option Int} {rd : List Int} {i : Nat} {t : Int} (h : rsu w rd i = some t) : rsu w rd (i + 1) = (w (rd.getD i 0) (rd.getD (i + 1) 0)).map fun c => t + c := by
  show (match rsu w rd i, w (rd.getD i 0) (rd.getD (i + 1) 0) with
    | some t, some c => some (t + c)
    | _, _ => none) = _
  rw [h]
  cases w (rd.getD i 0) (rd.getD (i + 1) 0) <;> rfl
/-- the sum of a whole list -/
def rsA (w : Int → Int → Option Int) (rd : List Int) : Option Int := rsu w rd (rd.length - 1)
/-- the sum of a road, None if the list is not a road -/
def rsN (N : Net) (rd : List Int) : Option Int := match rd with
  | [] => none
  | x :: r => if 0 ≤ x ∧ x < N.n then rsA (wyP N.ls) (x :: r) else none
def spRSumG (K : PySem.W.Frag) : Sp := fun vs H Q _ => ∃ (v : V) (b : Addr) (N : Net) (rd : List Int), vs = [v, .ref b] ∧ Dp K H v (netD N) ∧ NetOk N ∧ SqL K H b (rd.map V.int) ∧ rd.length ≤ 5000 ∧ ∀ H', Same H H' → Q (oV (rsN N rd)) H'
abbrev sRSumG : Stmt := topS 9
theorem scRSumG : FnScope ["net", "road", "prices", "total", "a", "b", "cost"] ["net", "road"] (defScope sRSumG) := ⟨rfl, rfl, rfl, by decide +kernel, rfl, by decide +kernel, by decide +kernel⟩
section
variable {P : Program} {w : World} {K : PySem.W.Frag} {mg : Str → Option Value} {base : Heap} {CP : Addr}
theorem ok_rsumG {f : Addr} {fd : FuncData} {k : Nat} (F : Fun K "road_sum" "road_sum" sRSumG f fd) (mz : mg "zip" = none) (c_link_ways : Kal P w K mg base k "link_ways" ["net"] (spLinkWays K)) : FnOk P w K mg base CX0 (k + 1) f fd ["net", "road"] (spRSumG K) := by
  refine F.ok scRSumG (fun vs H Q E h => ?_) (fun cdv A outer s H vs Q E hr h => ?_)
  · obtain ⟨v, b, N, rd, rfl, _⟩ := h
    rfl
  · obtain ⟨v, b, N, rd, rfl, hN, ok, hR, hrl, q⟩ := h
    have hu := hu_of hr
    refine ⟨_, pss_cons (ps_if (PW.pt (pw_or (pt_not (pt_truth (pv 1) (by intro _; rfl))) (pw_or1 (pt_not (pt_chain op_le op_lt pe_int (pe_ix ix_list (pv 1) pe_int (fun _ _ => rfl)) (pe_ix ix_tup (pv 0) pe_int (fun _ _ => rfl)))))))
      (pss_one (ps_ret pe_non))
      pss_nil)
      (pss_cons (ps_set (i := 2) scRSumG.nd rfl (.inl rfl) (pe_k c_link_ways hr (by first | decide | omega) (by rfl) (pa_cons (pv 0) pa_nil)))
      (pss_cons (ps_set (i := 3) scRSumG.nd rfl (.inl rfl) pe_int)
      (pss_cons (ps_for PassesOwn.never rfl (pi_zip (by rfl) mz (pa_cons (pv 1) (pa_cons (pe_slice sl_list (pv 1) (po_some pe_int) po_none) pa_nil))) (pg_tup rfl (pgs_cons (pg_name (i := 4) scRSumG.nd rfl (.inl rfl)) (pgs_cons (pg_name (i := 5) scRSumG.nd rfl (.inl rfl)) pgs_nil)))
      (pss_cons (ps_set (i := 6) scRSumG.nd rfl (.inl rfl) (pe_dget1 hu (pv 2) (pe_tup (pa_cons (pv 4) (pa_cons (pv 5) pa_nil))) ⟨by rfl, by rfl, by rfl, by rfl⟩))
        (pss_cons (ps_if (pt_cmpR op_isN (pv 6) pe_non (nomark _))
        (pss_one (ps_ret pe_non))
        pss_nil)
        (pss_one (ps_set (i := 3) scRSumG.nd rfl (.inl rfl) (pe_op op_add (pv 3) (pv 6)))))))
      (pss_one (ps_ret (pv 3)))))), ?_⟩
    obtain ⟨p, cc, xs, rfl, hp, hcc, hx⟩ := Dp.net_inv hN
    have lsl := ok.len
    cases rd with
    | nil => exact q_when (b := true) (an_or (k := true) (m := true) (an_not (b := false) fun Q q => ⟨.ref b, rfl, false, .inl ⟨_, hR, rfl⟩, q⟩) fun h => by cases h) (fun _ => g_ret vl_c (q H (Same.refl _))) (fun h => by cases h)
    | cons x r =>
      have er : rsN N (x :: r) = if 0 ≤ x ∧ x < N.n then rsA (wyP N.ls) (x :: r) else none := rfl
      refine q_when (b := !(decide (0 ≤ x) && decide (x < N.n))) ((an_or (k := false) (m := !(decide (0 ≤ x) && decide (x < N.n))) (An.is (an_not (b := true) fun Q q => ⟨.ref b, rfl, true, .inl ⟨_, hR, rfl⟩, q⟩) rfl) fun _ => an_not (an_test (vl_chainI vl_c (vl_ixL (vl_var rfl) vl_c hR (atI_nat (j := 0) rfl)) (vl_ixT (vl_var rfl) vl_c hp (atI_nat (j := 0) rfl))))).is (by rw [Bool.false_or])) (fun hb => ?_) (fun hb => ?_)
      · rw [er, if_neg (fun z => by
          rw [decide_eq_true z.1, decide_eq_true z.2] at hb
          cases hb)] at q
        exact g_ret vl_c (q H (Same.refl _))
      · have hx0 : 0 ≤ x ∧ x < N.n := by
          rw [Bool.not_eq_false', Bool.and_eq_true, decide_eq_true_eq, decide_eq_true_eq] at hb
          exact hb
        rw [er, if_pos hx0] at q
        refine q_asgE ⟨.ref p, rfl, .ref p, N, rfl, hN, by omega, fun H3 o s3 no hL => ?_⟩
        obtain ⟨kvs, ho, hkl, hk⟩ := hL.ex
        refine q_asg vl_c ?_
        have hR3 := s3.seq hR
        refine ⟨.ref b, rfl, (vn_fromI (K := K) (ns := x :: r) (j := 1) (vl_var rfl) vl_c hR3 (by simp)) _ fun b2 H10 s10 nb2 eb2 => ⟨b, b2, (x :: r).map V.int, r.map V.int, rfl, s10.seq hR3, .of eb2, ?_⟩⟩
        refine for_zipN (xs := (x :: r).map V.int) (ys := r.map V.int)
          (fun i σ H4 => ∃ y4 y5 y6 t, σ = [some (.ref p), some (.ref b), some (.ref o), some (.int t), y4, y5, y6] ∧ Same H10 H4 ∧ rsu (wyP N.ls) (x :: r) i = some t)
          ⟨_, _, _, 0, rfl, Same.refl _, rfl⟩ (fun i σ H4 hP => ?_) (fun i u v T σ H4 hu2 hv hP nT => ?_) (fun σ H4 hP => ?_)
        · obtain ⟨_, _, _, _, _, s4, _⟩ := hP
          exact ⟨(s10.trans s4).seq hR3, .of (s4 _ _ eb2)⟩
        · obtain ⟨y4, y5, y6, t, rfl, s4, et⟩ := hP
          rw [List.getElem?_map] at hu2 hv
          obtain ⟨x0, hx0', rfl⟩ := Option.map_eq_some_iff.mp hu2
          obtain ⟨y0, hy0, rfl⟩ := Option.map_eq_some_iff.mp hv
          have hy1 : (x :: r)[i + 1]? = some y0 := hy0
          refine ⟨T, _, rfl, .of upd_same, rfl, _, _, rfl, _, _, rfl, rfl, ?_⟩
          have ho4 : H4 o = some (.dT kvs) := s4 _ _ (s10 _ _ ho)
          have sT : Same H4 (upd H4 T (.tup [.int x0, .int y0])) := same_upd nT
          refine q_dgetT (vl_var rfl) (fun _ => vl_var rfl) (fun _ => vl_var rfl) (sT _ _ ho4) fun T2 nT2 => ?_
          have sT2 : Same (upd H4 T (.tup [.int x0, .int y0])) (upd (upd H4 T (.tup [.int x0, .int y0])) T2 (.tup [.int x0, .int y0])) := same_upd nT2
          rw [hk x0 y0, lkv_wyP ok]
          have es := rsu_step et
          rw [List.getD_eq_getElem?_getD, List.getD_eq_getElem?_getD, hx0', hy1] at es
          have es : rsu (wyP N.ls) (x :: r) (i + 1) = (wyP N.ls x0 y0).map fun c => t + c := es
          cases e : wyP N.ls x0 y0 with
          | none =>
            rw [e] at es
            have il := (List.getElem?_eq_some_iff.mp hy1).1
            have en : rsA (wyP N.ls) (x :: r) = none := rsu_none (i := i + 1) es (by omega)
            rw [en] at q
            exact q_when (b := true) (an_test ((vl_isN (vl_var rfl)).is rfl)) (fun _ => g_ret vl_c (q _ (((s3.trans s10).trans s4).trans (sT.trans sT2)))) (fun h => by cases h)
          | some pr =>
            rw [e] at es
            refine q_when (b := false) (an_test ((vl_isN (vl_var rfl)).is rfl)) (fun h => by cases h) (fun _ => ?_)
            exact g_asg (vl_I0 (g := fun i j => .int (i + j)) (vl_var rfl) (vl_var rfl)) ⟨_, _, _, t + pr, rfl, (s4.trans sT).trans sT2, es⟩
        · obtain ⟨y4, y5, y6, t, rfl, s4, et⟩ := hP
          have e : min ((x :: r).map V.int).length (r.map V.int).length = (x :: r).length - 1 := by
            rw [List.length_map, List.length_map, List.length_cons]
            omega
          rw [e] at et
          have et : rsA (wyP N.ls) (x :: r) = some t := et
          rw [et] at q
          exact g_ret (vl_var rfl) (q H4 ((s3.trans s10).trans s4))
end
end Ovc
namespace HqM
section
variable {α : Type} {lt : α → α → Bool}
/-- a total preorder, by its strict part -/
structure Sw (lt : α → α → Bool) : Prop where
  as : ∀ a b, lt a b = true → lt b a = false
  nt : ∀ a b c, lt a b = false → lt b c = false → lt a c = false
/-- every place of the part below top is not less than its parent -/
def HeapAt (lt : α → α → Bool) (top : Nat) (xs : List α) : Prop := ∀ i p a b, 0 < i → (i - 1) / 2 = p → top ≤ p → xs[i]? = some a → xs[p]? = some b → lt a b = false
/-- the same but for the place pos and its children; those go with pos's parent -/
structure DownAt (lt : α → α → Bool) (top pos : Nat) (xs : List α) : Prop where
  h1 : ∀ i p a b, 0 < i → (i - 1) / 2 = p → top ≤ p → i ≠ pos → p ≠ pos → xs[i]? = some a → xs[p]? = some b → lt a b = false
  h2 : ∀ i p a b, 0 < i → (i - 1) / 2 = pos → 0 < pos → (pos - 1) / 2 = p → top ≤ p → xs[i]? = some a → xs[p]? = some b → lt a b = false
structure UpAt (lt : α → α → Bool) (top pos : Nat) (xs : List α) : Prop where
  h1 : ∀ i p a b, 0 < i → (i - 1) / 2 = p → top ≤ p → i ≠ pos → xs[i]? = some a → xs[p]? = some b → lt a b = false
  h2 : ∀ i p a b, 0 < i → (i - 1) / 2 = pos → 0 < pos → (pos - 1) / 2 = p → top ≤ p → xs[i]? = some a → xs[p]? = some b → lt a b = false
/-- pos is top or below it -/
inductive Desc (top : Nat) : Nat → Prop
  | refl : Desc top top
  | step {i : Nat} : 0 < i → Desc top ((i - 1) / 2) → Desc top i
theorem Desc.le {top i : Nat} (h : Desc top i) : top ≤ i := by
  induction h with
  | refl => exact Nat.le_refl _
  | step h _ ih => omega
theorem Desc.up {top i : Nat} (h : Desc top i) (hi : top < i) : Desc top ((i - 1) / 2) := by
  cases h with
  | refl => omega
  | step _ h => exact h
/-- two places exchanged -/
def swp (xs : List α) (i j : Nat) (a b : α) : List α := (xs.set i b).set j a
theorem swp_get {xs : List α} {i j : Nat} {a b : α} (hi : xs[i]? = some a) (hj : xs[j]? = some b) (ij : i ≠ j) (k : Nat) : (swp xs i j a b)[k]? = if k = j then some a else if k = i then some b else xs[k]? := by
  have li := (List.getElem?_eq_some_iff.mp hi).1
  have lj := (List.getElem?_eq_some_iff.mp hj).1
  unfold swp
  rw [List.getElem?_set, List.length_set, List.getElem?_set]
  by_cases c : j = k
  · subst c
    rw [if_pos rfl, if_pos lj, if_pos rfl]
  · rw [if_neg c, if_neg (show ¬ k = j from fun e => c e.symm)]
    by_cases c2 : i = k
    · subst c2
      rw [if_pos rfl, if_pos li, if_pos rfl]
    · rw [if_neg c2, if_neg (show ¬ k = i from fun e => c2 e.symm)]
theorem swp_len {xs : List α} {i j : Nat} {a b : α} : (swp xs i j a b).length = xs.length := by
  unfold swp
  rw [List.length_set, List.length_set]
theorem swp_perm {xs : List α} {i j : Nat} {a b : α} (hi : xs[i]? = some a) (hj : xs[j]? = some b) : (swp xs i j a b).Perm xs := by
  obtain ⟨li, rfl⟩ := List.getElem?_eq_some_iff.mp hi
  obtain ⟨lj, rfl⟩ := List.getElem?_eq_some_iff.mp hj
  exact List.set_set_perm li lj
/-- one step down -/
theorem down_step (S : Sw lt) {top pos ch : Nat} {xs : List α} {a b : α} (h : DownAt lt top pos xs) (hp : xs[pos]? = some b) (hc : xs[ch]? = some a) (h0 : 0 < ch) (hch : (ch - 1) / 2 = pos) (tp : top ≤ pos) (hmin : ∀ i c, 0 < i → (i - 1) / 2 = pos → xs[i]? = some c → lt c a = false) : DownAt lt top ch (swp xs ch pos a b) := by
  have ne : ch ≠ pos := by omega
  have g := swp_get hc hp ne
  refine ⟨fun i p u v i0 ip tp' n1 n2 hu hv => ?_, fun i p u v i0 ip c0 cp tp' hu hv => ?_⟩
  · rw [g] at hu hv
    by_cases c1 : i = pos
    · subst c1
      rw [if_pos rfl] at hu
      cases hu
      rw [if_neg (by omega), if_neg (by omega)] at hv
      exact h.h2 ch p a v h0 hch i0 ip tp' hc hv
    · rw [if_neg c1, if_neg n1] at hu
      by_cases c2 : p = pos
      · subst c2
        rw [if_pos rfl] at hv
        cases hv
        exact hmin i u i0 ip hu
      · rw [if_neg c2, if_neg n2] at hv
        exact h.h1 i p u v i0 ip tp' c1 c2 hu hv
  · rw [g] at hu hv
    rw [if_neg (by omega), if_neg (by omega)] at hu
    have : p = pos := by omega
    subst this
    rw [if_pos rfl] at hv
    cases hv
    exact h.h1 i ch u a i0 ip (by omega) (by omega) ne hu hc
theorem down_leaf {top pos : Nat} {xs : List α} (h : DownAt lt top pos xs) (hl : xs.length / 2 ≤ pos) : UpAt lt top pos xs := by
  refine ⟨fun i p u v i0 ip tp n1 hu hv => ?_, h.h2⟩
  have il := (List.getElem?_eq_some_iff.mp hu).1
  exact h.h1 i p u v i0 ip tp n1 (by omega) hu hv
/-- one step up -/
theorem up_step (S : Sw lt) {top pos pa : Nat} {xs : List α} {a b : α} (h : UpAt lt top pos xs) (hp : xs[pos]? = some b) (ha : xs[pa]? = some a) (h0 : 0 < pos) (hpa : (pos - 1) / 2 = pa) (tp : top ≤ pa) (hlt : lt b a = true) : UpAt lt top pa (swp xs pa pos a b) := by
  have ne : pa ≠ pos := by omega
  have g := swp_get ha hp ne
  have hba := S.as _ _ hlt
  refine ⟨fun i p u v i0 ip tp' n1 hu hv => ?_, fun i p u v i0 ip c0 cp tp' hu hv => ?_⟩
  · rw [g] at hu hv
    by_cases c1 : i = pos
    · subst c1
      rw [if_pos rfl] at hu
      cases hu
      have : p = pa := by omega
      subst this
      rw [if_neg ne, if_pos rfl] at hv
      cases hv
      exact hba
    · rw [if_neg c1, if_neg n1] at hu
      by_cases c2 : p = pos
      · subst c2
        rw [if_pos rfl] at hv
        cases hv
        exact h.h2 i pa u a i0 ip h0 hpa tp hu ha
      · by_cases c3 : p = pa
        · subst c3
          rw [if_neg ne, if_pos rfl] at hv
          cases hv
          exact S.nt _ _ _ (h.h1 i p u a i0 ip tp c1 hu ha) hba
        · rw [if_neg c2, if_neg c3] at hv
          exact h.h1 i p u v i0 ip tp' c1 hu hv
  · rw [g] at hu hv
    rw [if_neg (by omega), if_neg (by omega)] at hv
    have h3 := h.h1 pa p a v c0 cp tp' ne ha hv
    by_cases c1 : i = pos
    · subst c1
      rw [if_pos rfl] at hu
      cases hu
      exact h3
    · rw [if_neg c1, if_neg (by omega)] at hu
      exact S.nt _ _ _ (h.h1 i pa u a i0 ip tp c1 hu ha) h3
theorem up_done {top pos : Nat} {xs : List α} (h : UpAt lt top pos xs) (hd : ∀ p a b, 0 < pos → (pos - 1) / 2 = p → top ≤ p → xs[pos]? = some a → xs[p]? = some b → lt a b = false) : HeapAt lt top xs := fun i p a b i0 ip tp ha hb => by
  by_cases c : i = pos
  · subst c
    exact hd p a b i0 ip tp ha hb
  · exact h.h1 i p a b i0 ip tp c ha hb
theorem heap_down {top k : Nat} {xs : List α} (h : HeapAt lt top xs) (hk : top = k + 1) : DownAt lt k k xs :=
  ⟨fun i p a b i0 ip tp n1 n2 ha hb => h i p a b i0 ip (by omega) ha hb, fun i p a b i0 ip c0 cp tp _ _ => by omega⟩
theorem heap_least (S : Sw lt) {xs : List α} (h : HeapAt lt 0 xs) {m : α} (hm : xs[0]? = some m) : ∀ (i : Nat) a, xs[i]? = some a → lt a m = false := fun i => by
  induction i using Nat.strongRecOn with
  | ind i ih =>
    intro a ha
    by_cases c : i = 0
    · subst c
      cases hm.symm.trans ha
      cases e : lt m m with
      | false => rfl
      | true => exact absurd e (by rw [S.as _ _ e]; exact Bool.false_ne_true)
    · have li := (List.getElem?_eq_some_iff.mp ha).1
      have hb : xs[(i - 1) / 2]? = some (xs[(i - 1) / 2]'(by omega)) := List.getElem?_eq_getElem (by omega)
      exact S.nt _ _ _ (h i _ a _ (by omega) rfl (Nat.zero_le _) ha hb) (ih ((i - 1) / 2) (by omega) _ hb)
theorem heap_nil : HeapAt lt 0 ([] : List α) := fun i p a b _ _ _ ha _ => by simp at ha
/-- one more behind a heap -/
theorem heap_push {xs : List α} {x : α} (h : HeapAt lt 0 xs) : UpAt lt 0 xs.length (xs ++ [x]) := by
  refine ⟨fun i p a b i0 ip tp n1 ha hb => ?_, fun i p a b i0 ip c0 cp tp ha hb => ?_⟩
  · have li := (List.getElem?_eq_some_iff.mp ha).1
    rw [List.length_append] at li
    have li : i < xs.length + 1 := li
    rw [List.getElem?_append_left (by omega)] at ha hb
    exact h i p a b i0 ip tp ha hb
  · have li := (List.getElem?_eq_some_iff.mp ha).1
    rw [List.length_append] at li
    have li : i < xs.length + 1 := li
    omega
/-- the last in the place of the first -/
theorem heap_pop {xs : List α} {x : α} (h : HeapAt lt 0 xs) : DownAt lt 0 0 (xs.dropLast.set 0 x) := by
  have gt : ∀ (i : Nat) a, i ≠ 0 → (xs.dropLast.set 0 x)[i]? = some a → xs[i]? = some a := fun i a c ha => by
    rw [List.getElem?_set, if_neg (fun e => c e.symm), List.getElem?_dropLast] at ha
    by_cases c2 : i < xs.length - 1
    · rw [if_pos c2] at ha
      exact ha
    · rw [if_neg c2] at ha
      cases ha
  exact ⟨fun i p a b i0 ip tp n1 n2 ha hb => h i p a b i0 ip tp (gt i a n1 ha) (gt p b n2 hb), fun i p a b i0 ip c0 cp tp _ _ => by omega⟩
end
end HqM
/-! ### the code of heapq -/
namespace L2
open PySem PySem.Spec PyProof.Rows HqM
local macro_rules
  | `(tactic| walk_at "hq sift") => do
    let n := Lean.mkIdent (Lean.mkPrivateNameCore `PySem.Builtin._heapq.W4All `PySem.Builtin.heapqSift)
    `(tactic| unfold $n:ident)
local macro_rules
  | `(tactic| walk_at "hq items") => do
    let n := Lean.mkIdent (Lean.mkPrivateNameCore `PySem.Builtin._heapq.W4All `PySem.Builtin.heapqItems)
    `(tactic| unfold $n:ident)
local macro_rules
  | `(tactic| walk_at "hq at") => do
    let n := Lean.mkIdent (Lean.mkPrivateNameCore `PySem.Builtin._heapq.W4All `PySem.Builtin.heapqAt)
    `(tactic| unfold $n:ident)
local macro_rules
  | `(tactic| walk_at "hq less") => do
    let n := Lean.mkIdent (Lean.mkPrivateNameCore `PySem.Builtin._heapq.W4All `PySem.Builtin.heapqLess)
    `(tactic| unfold $n:ident)
local macro_rules
  | `(tactic| walk_at "hq swap") => do
    let n := Lean.mkIdent (Lean.mkPrivateNameCore `PySem.Builtin._heapq.W4All `PySem.Builtin.heapqSwap)
    `(tactic| unfold $n:ident)
local macro_rules
  | `(tactic| walk_at "hq list") => do
    let n := Lean.mkIdent (Lean.mkPrivateNameCore `PySem.Builtin._heapq.W4All `PySem.Builtin.heapqList)
    `(tactic| unfold $n:ident)
local macro_rules
  | `(tactic| walk_at "hq one") => do
    let n := Lean.mkIdent (Lean.mkPrivateNameCore `PySem.Builtin._heapq.W4All `PySem.Builtin.heapqOne)
    `(tactic| unfold $n:ident)
local macro_rules
  | `(tactic| walk_at "hq two") => do
    let n := Lean.mkIdent (Lean.mkPrivateNameCore `PySem.Builtin._heapq.W4All `PySem.Builtin.heapqTwo)
    `(tactic| unfold $n:ident)
local macro_rules
  | `(tactic| walk_at "hq pop") => do
    let n := Lean.mkIdent (Lean.mkPrivateNameCore `PySem.Builtin._heapq.W4All `PySem.Builtin.heapqPop)
    `(tactic| unfold $n:ident)
local macro_rules
  | `(tactic| walk_at "hq heapify") => do
    let n := Lean.mkIdent (Lean.mkPrivateNameCore `PySem.Builtin._heapq.W4All `PySem.Builtin.heapqHeapify)
    `(tactic| unfold $n:ident)
theorem hq_plain : plainId "_heapq.heapify.sift" = true := by decide +kernel
theorem hq_entry : entryFor table "_heapq.heapify.sift" = some Builtin.«_heapq.heapify.sift» := entryFor_of_tree (by kernel_rfl)
abbrev HB := V × PyData
def hlt (x y : HB) : Bool := PySem.W.dataLt x.2 y.2
theorem hlt_as (a b : HB) (h : hlt a b = true) : hlt b a = false := by
  cases e : hlt b a with
  | false => rfl
  | true =>
    have := PyProof.Rows.lex_trans _ _ _ h e
    rw [PyProof.Rows.lex_irrefl] at this
    cases this
theorem hlt_nt (a b c : HB) (h1 : hlt a b = false) (h2 : hlt b c = false) : hlt a c = false := by
  cases e : hlt a c with
  | false => rfl
  | true =>
    rcases PyProof.Rows.lex_negTrans _ (PySem.W.keyToks b.2) _ e with h | h
    · exact Bool.noConfusion (h.symm.trans h1)
    · exact Bool.noConfusion (h.symm.trans h2)
theorem hlt_sw : Sw hlt := ⟨hlt_as, hlt_nt⟩
/-- data that may be compared; the list at l is no part of them -/
structure HqOk (K : PySem.W.Frag) (H : Hp) (l : Addr) (bs : List HB) : Prop where
  dp : ∀ b ∈ bs, ∀ o, Dp K (upd H l o) b.1 b.2
  dep : ∀ b ∈ bs, b.2.depth ≤ 60
  no : ∀ b ∈ bs, b.2 ≠ .none
  al : ∀ b ∈ bs, ∀ c ∈ bs, PySem.W.alike b.2 c.2 = true
theorem HqOk.perm {K : PySem.W.Frag} {H : Hp} {l : Addr} {bs cs : List HB} (h : HqOk K H l bs) (p : cs.Perm bs) : HqOk K H l cs :=
  ⟨fun b hb => h.dp b (p.mem_iff.mp hb), fun b hb => h.dep b (p.mem_iff.mp hb), fun b hb => h.no b (p.mem_iff.mp hb), fun b hb c hc => h.al b (p.mem_iff.mp hb) c (p.mem_iff.mp hc)⟩
def siftA (l : Addr) (down : Bool) (pos top : Nat) (res : Value) (after : Int) : Code := .builtin "_heapq.heapify.sift" ⟨[.ref l, .bool false, .bool down, rawInt pos, rawInt top, res, rawInt after], []⟩
theorem siftA_quiet {l : Addr} {down : Bool} {pos top : Nat} {res : Value} {after : Int} : (siftA l down pos top res after).quiet = true := plainId_quiet hq_plain _
theorem hq_at {M : Model} {A : Around} {E : Value → Shared → Prop} {s : Shared} {o : Option Value} {v : Value} {x : String} {Q : Value → Shared → Prop} (h : o = some v) (q : Q v s) : wpAny M A (match o with | some v => pure v | none => unsupported x) Q E s := by
  rw [h]
  exact wpAny_pure q
section
variable {X : Cx} {pins : List (Addr × Obj)} {σ : St} {H : Hp} {l : Addr} {A : Around}
/-- what follows a part -/
def HqNxt (X : Cx) (A : Around) (l : Addr) (res : Value) (after : Int) (R : Result → Shared → Prop) (s : Shared) : Prop :=
  if after < 0 then R (.ok (.ret res)) s else codeAny (model X.prog X.w) A (siftA l true after.toNat after.toNat res (after - 1)) R s
theorem hq_less {bs : List HB} {s : Shared} {i j : Nat} {b c : HB} {u v : Value} {its : List Value} (I : Inv X pins σ (upd H l (.lst (bs.map (·.1)))) s) (ok : HqOk X.K H l bs) (hu : A.units + 64 < cLine) (r : Vals (bs.map (·.1)) its) (hb : bs[i]? = some b) (hc : bs[j]? = some c) (ub : its[i]? = some u) (uc : its[j]? = some v) : PySem.SeqAt.RcLt A s u v (hlt b c) := by
  have mb := List.mem_of_getElem? hb
  have mc := List.mem_of_getElem? hc
  obtain ⟨u', e1, r1⟩ := r.get (i := i) (x := b.1) (by rw [List.getElem?_map, hb]; rfl)
  obtain ⟨v', e2, r2⟩ := r.get (i := j) (x := c.1) (by rw [List.getElem?_map, hc]; rfl)
  cases ub.symm.trans e1
  cases uc.symm.trans e2
  obtain ⟨as, ra⟩ := Dp.reads I _ _ _ (ok.dp b mb _) r1
  obtain ⟨cs, rc⟩ := Dp.reads I _ _ _ (ok.dp c mc _) r2
  have := ok.dep b mb
  exact PySem.W.rcLt_alike _ _ A s u v as cs ra rc (ok.al b mb c mc) (ok.no b mb) (by omega)
theorem sift_up (hu : A.units + 66 < cLine) {res : Value} {after : Int} {top : Nat} {R : Result → Shared → Prop} {bs0 : List HB} (ok : HqOk X.K H l bs0)
    (fin : ∀ bs s, Inv X pins σ (upd H l (.lst (bs.map (·.1)))) s → bs.Perm bs0 → HeapAt hlt top bs → HqNxt X A l res after R s) :
    ∀ (pos : Nat) (bs : List HB) (s : Shared), Inv X pins σ (upd H l (.lst (bs.map (·.1)))) s → bs.Perm bs0 → UpAt hlt top pos bs → Desc top pos → pos < bs.length → codeAny (model X.prog X.w) A (siftA l false pos top res after) R s := fun pos => by
  induction pos using Nat.strongRecOn with
  | ind pos ih =>
    intro bs s I hp hU hD hl
    obtain ⟨z, its, n, rv, len, e⟩ := I.lstM upd_same
    rw [List.length_map] at len z
    refine codeAny_builtin hq_entry ?_
    rw [Around.under_plainId hq_plain _]
    unfold Builtin.«_heapq.heapify.sift»
    dsimp only [rawInt]
    walk_at "hq sift"
    walk_at "hq less"
    walk_at "hq swap"
    walk_at "hq items"
    walk_at "hq at"
    simp only [Int.toNat_natCast]
    refine wpAny_bind ?_
    refine wpAny_bind (wpAny_seqItems e rfl (wpAny_pure ?_))
    rw [if_neg Bool.false_ne_true]
    have done : HeapAt hlt top bs → wpAny (model X.prog X.w) A.in1 (if after < 0 then ret res else again (.builtin "_heapq.heapify.sift" ⟨[Value.ref l, Value.bool false, Value.bool true, rawInt ↑after.toNat, rawInt ↑after.toNat, res, rawInt (after - 1)], []⟩))
        (fun fin s' => match fin with | .done f => R (.ok f) s' | .again c' => c'.quiet = true ∧ codeAny (model X.prog X.w) A c' R s') (fun e s' => R (.error e) s') s := fun hH => by
      have f := fin bs s I hp hH
      unfold HqNxt at f
      by_cases c : after < 0
      · rw [if_pos c] at f
        rw [if_pos c]
        exact wpAny_pure f
      · rw [if_neg c] at f
        rw [if_neg c]
        exact wpAny_pure ⟨siftA_quiet, f⟩
    by_cases c : pos > top
    · rw [if_pos c]
      have hb : bs[pos]? = some (bs[pos]'hl) := List.getElem?_eq_getElem hl
      have ha : bs[(pos - 1) / 2]? = some (bs[(pos - 1) / 2]'(by omega)) := List.getElem?_eq_getElem (by omega)
      generalize bs[pos]'hl = b at hb
      generalize bs[(pos - 1) / 2]'(by omega) = a at ha
      have ub : its[pos]? = some (its[pos]'(by omega)) := List.getElem?_eq_getElem (by omega)
      have ua : its[(pos - 1) / 2]? = some (its[(pos - 1) / 2]'(by omega)) := List.getElem?_eq_getElem (by omega)
      generalize its[pos]'(by omega) = u at ub
      generalize its[(pos - 1) / 2]'(by omega) = v at ua
      have tp := (hD.up c).le
      refine wpAny_bind ?_
      rw [List.getElem?_toArray, ub]
      refine wpAny_pure ?_
      refine wpAny_bind ?_
      rw [List.getElem?_toArray, ua]
      refine wpAny_pure ?_
      rw [if_neg Bool.false_ne_true]
      refine wpAny_bind ?_
      refine wpAny_bind (wpAny_holding (wpAny_bind (hq_less I (ok.perm hp) (A := A.in1) (by show A.units + 1 + 64 < cLine; omega) rv hb ha ub ua _ _ _ _ (wpAny_truthy_bool ?_))))
      refine wpAny_bind ?_
      refine wpAny_bind (wpAny_seqItems e rfl (wpAny_pure ?_))
      rw [if_neg (by simp)]
      refine wpAny_pure ?_
      cases hlb : hlt b a with
      | false =>
        rw [if_neg Bool.false_ne_true]
        refine done (up_done hU fun p a' b' p0 pp tp' h1 h2 => ?_)
        subst pp
        cases hb.symm.trans h1
        cases ha.symm.trans h2
        exact hlb
      | true =>
        rw [if_pos rfl]
        refine wpAny_bind ?_
        refine wpAny_bind ?_
        refine wpAny_bind (wpAny_seqItems e rfl (wpAny_pure (wpAny_bind ?_)))
        rw [List.getElem?_toArray, ua]
        refine wpAny_pure (wpAny_bind ?_)
        rw [List.getElem?_toArray, ub]
        refine wpAny_pure ?_
        have I' := I.lset (l := l) (ys := (swp bs ((pos - 1) / 2) pos a b).map (·.1)) (its' := (its.set ((pos - 1) / 2) u).set pos v) (f := fun xs => (xs.setIfInBounds ((pos - 1) / 2) u).setIfInBounds pos v) (t' := s.toks) upd_same e (by simp) ?_ ?_
        · rw [upd_upd] at I'
          refine wpAny_updateSeq e rfl (wpAny_pure ⟨siftA_quiet, ?_⟩) (by rw [List.size_toArray]; omega) (by rw [Array.size_setIfInBounds, Array.size_setIfInBounds, List.size_toArray]; omega)
          exact ih ((pos - 1) / 2) (by omega) _ _ I' ((swp_perm ha hb).trans hp) (up_step hlt_sw hU hb ha (by omega) rfl tp hlb) (hD.up c) (by rw [swp_len]; omega)
        · obtain ⟨u', e1, r1⟩ := rv.get (i := pos) (x := b.1) (by rw [List.getElem?_map, hb]; rfl)
          obtain ⟨v', e2, r2⟩ := rv.get (i := (pos - 1) / 2) (x := a.1) (by rw [List.getElem?_map, ha]; rfl)
          cases ub.symm.trans e1
          cases ua.symm.trans e2
          unfold swp
          rw [List.map_set, List.map_set]
          exact Vals.set r2 _ (Vals.set r1 _ rv)
        · rw [List.length_map, swp_len]
          exact z
    · rw [if_neg c]
      refine done (up_done hU fun p a' b' p0 pp tp' h1 h2 => ?_)
      have := hD.le
      omega
theorem sift_down (hu : A.units + 66 < cLine) {res : Value} {after : Int} {top : Nat} {R : Result → Shared → Prop} {bs0 : List HB} (ok : HqOk X.K H l bs0)
    (fin : ∀ bs s, Inv X pins σ (upd H l (.lst (bs.map (·.1)))) s → bs.Perm bs0 → HeapAt hlt top bs → HqNxt X A l res after R s) :
    ∀ (m pos : Nat) (bs : List HB) (s : Shared), bs.length - pos ≤ m → Inv X pins σ (upd H l (.lst (bs.map (·.1)))) s → bs.Perm bs0 → DownAt hlt top pos bs → Desc top pos → pos < bs.length → codeAny (model X.prog X.w) A (siftA l true pos top res after) R s := fun m => by
  induction m with
  | zero =>
    intro pos bs s hm I hp hU hD hl
    omega
  | succ m ih =>
    intro pos bs s hm I hp hU hD hl
    obtain ⟨z, its, n, rv, len, e⟩ := I.lstM upd_same
    rw [List.length_map] at len z
    refine codeAny_builtin hq_entry ?_
    rw [Around.under_plainId hq_plain _]
    unfold Builtin.«_heapq.heapify.sift»
    dsimp only [rawInt]
    walk_at "hq sift"
    walk_at "hq less"
    walk_at "hq swap"
    walk_at "hq items"
    walk_at "hq at"
    simp only [Int.toNat_natCast]
    refine wpAny_bind ?_
    refine wpAny_bind (wpAny_seqItems e rfl (wpAny_pure ?_))
    rw [if_pos trivial, List.size_toArray]
    have tp := hD.le
    by_cases c : pos < its.length / 2
    · rw [if_pos c]
      have hb : bs[pos]? = some (bs[pos]'hl) := List.getElem?_eq_getElem hl
      generalize bs[pos]'hl = b at hb
      have ub : its[pos]? = some (its[pos]'(by omega)) := List.getElem?_eq_getElem (by omega)
      generalize its[pos]'(by omega) = u at ub
      -- the exchange
      have go : ∀ (ch : Nat) (a : HB) (v : Value), bs[ch]? = some a → its[ch]? = some v → 0 < ch → (ch - 1) / 2 = pos → (∀ i c, 0 < i → (i - 1) / 2 = pos → bs[i]? = some c → hlt c a = false) → ∀ m : Sem Unit, (∀ (Q : Unit → Shared → Prop) (E : Value → Shared → Prop), Q () { s with heap := s.heap.update l (Obj.mapSeq fun xs => (xs.setIfInBounds ch u).setIfInBounds pos v) } → wpAny (model X.prog X.w) A.in1 m Q E s) →
          wpAny (model X.prog X.w) A.in1 (m >>= fun _ => again (siftA l true ch top res after))
          (fun fin s' => match fin with | .done f => R (.ok f) s' | .again c' => c'.quiet = true ∧ codeAny (model X.prog X.w) A c' R s') (fun e s' => R (.error e) s') s := fun ch a v ha ua c0 cp hmin m hm => by
        have lc := (List.getElem?_eq_some_iff.mp ha).1
        have I' := I.lset (l := l) (ys := (swp bs ch pos a b).map (·.1)) (its' := (its.set ch u).set pos v) (f := fun xs => (xs.setIfInBounds ch u).setIfInBounds pos v) (t' := s.toks) upd_same e (by simp) ?_ ?_
        · rw [upd_upd] at I'
          refine wpAny_bind (hm _ _ (wpAny_pure ⟨siftA_quiet, ?_⟩))
          exact ih ch _ _ (by rw [swp_len]; omega) I' ((swp_perm ha hb).trans hp) (down_step hlt_sw hU hb ha c0 cp tp hmin) (.step c0 (by rw [cp]; exact hD)) (by rw [swp_len]; exact lc)
        · obtain ⟨u', e1, r1⟩ := rv.get (i := pos) (x := b.1) (by rw [List.getElem?_map, hb]; rfl)
          obtain ⟨v', e2, r2⟩ := rv.get (i := ch) (x := a.1) (by rw [List.getElem?_map, ha]; rfl)
          cases ub.symm.trans e1
          cases ua.symm.trans e2
          unfold swp
          rw [List.map_set, List.map_set]
          exact Vals.set r2 _ (Vals.set r1 _ rv)
        · rw [List.length_map, swp_len]
          exact z
      have irr : ∀ a : HB, hlt a a = false := fun a => by
        cases e : hlt a a with
        | false => rfl
        | true => exact Bool.noConfusion ((hlt_as a a e).symm.trans e)
      have ll : 2 * pos + 1 < bs.length := by omega
      have hL : bs[2 * pos + 1]? = some (bs[2 * pos + 1]'ll) := List.getElem?_eq_getElem ll
      generalize bs[2 * pos + 1]'ll = a at hL
      have uL : its[2 * pos + 1]? = some (its[2 * pos + 1]'(by omega)) := List.getElem?_eq_getElem (by omega)
      generalize its[2 * pos + 1]'(by omega) = v at uL
      by_cases c2 : 2 * pos + 1 + 1 < its.length
      · rw [if_pos c2]
        have hR : bs[2 * pos + 1 + 1]? = some (bs[2 * pos + 1 + 1]'(by omega)) := List.getElem?_eq_getElem (by omega)
        generalize bs[2 * pos + 1 + 1]'(by omega) = a' at hR
        have uR : its[2 * pos + 1 + 1]? = some (its[2 * pos + 1 + 1]'c2) := List.getElem?_eq_getElem c2
        generalize its[2 * pos + 1 + 1]'c2 = v' at uR
        have two : ∀ i, 0 < i → (i - 1) / 2 = pos → i = 2 * pos + 1 ∨ i = 2 * pos + 1 + 1 := fun i _ _ => by omega
        refine wpAny_bind ?_
        rw [List.getElem?_toArray, uL]
        refine wpAny_pure (wpAny_bind ?_)
        rw [List.getElem?_toArray, uR]
        refine wpAny_pure ?_
        rw [if_neg Bool.false_ne_true]
        refine wpAny_bind ?_
        refine wpAny_bind (wpAny_holding (wpAny_bind (hq_less I (ok.perm hp) (A := A.in1) (by show A.units + 1 + 64 < cLine; omega) rv hL hR uL uR _ _ _ _ (wpAny_truthy_bool ?_))))
        refine wpAny_bind ?_
        refine wpAny_bind (wpAny_seqItems e rfl (wpAny_pure ?_))
        rw [if_neg (by simp)]
        refine wpAny_pure ?_
        cases hlb : hlt a a' with
        | false =>
          rw [if_pos (show (!false) = true from rfl)]
          refine go (2 * pos + 1 + 1) a' v' hR uR (by omega) (by omega) (fun i c i0 ip hc => ?_) _ (fun Q E q => by
          refine wpAny_bind (wpAny_bind (wpAny_seqItems e rfl (wpAny_pure ?_)))
          refine wpAny_bind (hq_at (by rw [List.getElem?_toArray]; assumption) ?_)
          refine wpAny_bind (hq_at (by rw [List.getElem?_toArray]; assumption) ?_)
          exact wpAny_updateSeq e rfl q (by rw [List.size_toArray]; omega) (by rw [Array.size_setIfInBounds, Array.size_setIfInBounds, List.size_toArray]; omega))
          rcases two i i0 ip with rfl | rfl
          · cases hL.symm.trans hc
            exact hlb
          · cases hR.symm.trans hc
            exact irr _
        | true =>
          rw [if_neg (show ¬ ((!true) = true) from Bool.false_ne_true)]
          refine go (2 * pos + 1) a v hL uL (by omega) (by omega) (fun i c i0 ip hc => ?_) _ (fun Q E q => by
          refine wpAny_bind (wpAny_bind (wpAny_seqItems e rfl (wpAny_pure ?_)))
          refine wpAny_bind (hq_at (by rw [List.getElem?_toArray]; assumption) ?_)
          refine wpAny_bind (hq_at (by rw [List.getElem?_toArray]; assumption) ?_)
          exact wpAny_updateSeq e rfl q (by rw [List.size_toArray]; omega) (by rw [Array.size_setIfInBounds, Array.size_setIfInBounds, List.size_toArray]; omega))
          rcases two i i0 ip with rfl | rfl
          · cases hL.symm.trans hc
            exact irr _
          · cases hR.symm.trans hc
            exact hlt_as _ _ hlb
      · rw [if_neg c2]
        refine go (2 * pos + 1) a v hL uL (by omega) (by omega) (fun i c i0 ip hc => ?_) _ (fun Q E q => by
          refine wpAny_bind (wpAny_bind (wpAny_seqItems e rfl (wpAny_pure ?_)))
          refine wpAny_bind (hq_at (by rw [List.getElem?_toArray]; assumption) ?_)
          refine wpAny_bind (hq_at (by rw [List.getElem?_toArray]; assumption) ?_)
          exact wpAny_updateSeq e rfl q (by rw [List.size_toArray]; omega) (by rw [Array.size_setIfInBounds, Array.size_setIfInBounds, List.size_toArray]; omega))
        have li := (List.getElem?_eq_some_iff.mp hc).1
        have : i = 2 * pos + 1 := by omega
        subst this
        cases hL.symm.trans hc
        exact irr _
    · rw [if_neg c]
      exact wpAny_pure ⟨siftA_quiet, sift_up hu ok fin pos bs s I hp (down_leaf hU (by omega)) hD hl⟩
/-- a part, and all parts ahead of it -/
theorem sift_all (hu : A.units + 66 < cLine) {res : Value} {R : Result → Shared → Prop} {bs0 : List HB} (ok : HqOk X.K H l bs0)
    (fin : ∀ bs s, Inv X pins σ (upd H l (.lst (bs.map (·.1)))) s → bs.Perm bs0 → HeapAt hlt 0 bs → R (.ok (.ret res)) s) :
    ∀ (k : Nat) (bs : List HB) (s : Shared), Inv X pins σ (upd H l (.lst (bs.map (·.1)))) s → bs.Perm bs0 → DownAt hlt k k bs → k < bs.length → codeAny (model X.prog X.w) A (siftA l true k k res ((k : Int) - 1)) R s := fun k => by
  induction k with
  | zero =>
    intro bs s I hp hD hl
    refine sift_down hu ok (fun bs' s' I' hp' hH => ?_) bs.length 0 bs s (Nat.sub_le _ _) I hp hD .refl hl
    unfold HqNxt
    rw [if_pos (by omega)]
    exact fin bs' s' I' hp' hH
  | succ k ih =>
    intro bs s I hp hD hl
    refine sift_down hu ok (fun bs' s' I' hp' hH => ?_) bs.length (k + 1) bs s (Nat.sub_le _ _) I hp hD .refl hl
    unfold HqNxt
    rw [if_neg (by omega)]
    have e1 : (((k + 1 : Nat) : Int) - 1).toNat = k := by omega
    have e2 : ((k + 1 : Nat) : Int) - 1 - 1 = (k : Int) - 1 := by omega
    rw [e1, e2]
    exact ih bs' s' I' hp' (heap_down hH rfl) (by rw [hp'.length_eq, ← hp.length_eq]; omega)
end
/-! ### the calls -/
theorem hq_call {prog : Program} {w : World} {A : Around} {E : Value → Shared → Prop} {s : Shared} {id : String} {B : Builtin} {us : List Value} {Q : Value → Shared → Prop} (k : builtinKind id = none) (p : plainId id = true) (en : entryFor table id = some B) (ok : checkBuiltinCall id ⟨us, []⟩ = pure ())
    (h : wpAny (model prog w) A.in1 (B ⟨us, []⟩) (fun fin t => match fin with | .done f => wants Q E (.ok f) t | .again c => c.quiet = true ∧ codeAny (model prog w) A c (wants Q E) t) (fun e t => wants Q E (.error e) t) s) : wpAny (model prog w) A (call (.builtin id) us) Q E s := by
  refine wpAny_call (codeAny_call_builtin p en ?_)
  rw [ok]
  exact wpAny_pure h
theorem hq_push_kind : builtinKind "_heapq.heappush" = none := by decide +kernel
theorem hq_pop_kind : builtinKind "_heapq.heappop" = none := by decide +kernel
theorem hq_heapify_kind : builtinKind "_heapq.heapify" = none := by decide +kernel
theorem hq_push_plain : plainId "_heapq.heappush" = true := by decide +kernel
theorem hq_pop_plain : plainId "_heapq.heappop" = true := by decide +kernel
theorem hq_heapify_plain : plainId "_heapq.heapify" = true := by decide +kernel
theorem hq_push_entry : entryFor table "_heapq.heappush" = some Builtin.«_heapq.heappush» := entryFor_of_tree (by kernel_rfl)
theorem hq_pop_entry : entryFor table "_heapq.heappop" = some Builtin.«_heapq.heappop» := entryFor_of_tree (by kernel_rfl)
theorem hq_heapify_entry : entryFor table "_heapq.heapify" = some Builtin.«_heapq.heapify» := entryFor_of_tree (by kernel_rfl)
theorem hq_push_ok (a b : Value) : checkBuiltinCall "_heapq.heappush" ⟨[a, b], []⟩ = pure () := by kernel_rfl
theorem hq_pop_ok (a : Value) : checkBuiltinCall "_heapq.heappop" ⟨[a], []⟩ = pure () := by kernel_rfl
theorem hq_heapify_ok (a : Value) : checkBuiltinCall "_heapq.heapify" ⟨[a], []⟩ = pure () := by kernel_rfl
def rHPush (K : PySem.W.Frag) : List V → Hp → VK → Prop := fun vs H Q => ∃ (l : Addr) (bs : List HB) (b : HB), vs = [.ref l, b.1] ∧ H l = some (.lst (bs.map (·.1))) ∧ bs.length < sizeLine ∧ HqOk K H l (bs ++ [b]) ∧ HeapAt hlt 0 bs ∧
  ∀ cs : List HB, cs.Perm (bs ++ [b]) → HeapAt hlt 0 cs → Q .non (upd H l (.lst (cs.map (·.1))))
def rHPop (K : PySem.W.Frag) : List V → Hp → VK → Prop := fun vs H Q => ∃ (l : Addr) (bs : List HB), vs = [.ref l] ∧ H l = some (.lst (bs.map (·.1))) ∧ bs ≠ [] ∧ HqOk K H l bs ∧ HeapAt hlt 0 bs ∧
  ∀ (b : HB) (cs : List HB), (b :: cs).Perm bs → (∀ c ∈ cs, hlt c b = false) → HeapAt hlt 0 cs → Q b.1 (upd H l (.lst (cs.map (·.1))))
def rHeapify (K : PySem.W.Frag) : List V → Hp → VK → Prop := fun vs H Q => ∃ (l : Addr) (bs : List HB), vs = [.ref l] ∧ H l = some (.lst (bs.map (·.1))) ∧ bs.length ≤ 2500 ∧ HqOk K H l bs ∧
  ∀ cs : List HB, cs.Perm bs → HeapAt hlt 0 cs → Q .non (upd H l (.lst (cs.map (·.1))))
theorem upd_self {H : Hp} {l : Addr} {o : HO} (h : H l = some o) : upd H l o = H := by
  funext b
  by_cases c : b = l
  · rw [c, upd_same, h]
  · rw [upd_ne c]
section
variable {X : Cx}
theorem call_hpush (hu : X.A.units + 70 < cLine) : CallR X (.builtin "_heapq.heappush") (rHPush X.K) := by
  intro pins s σ H vs us Q I r h
  obtain ⟨l, bs, b, rfl, hH, hz, ok, hh, q⟩ := h
  obtain ⟨u1, u2, rfl, r1, r2⟩ := vals2 r
  cases (show u1 = Value.ref l from r1)
  obtain ⟨z, its, n, rv, len, e⟩ := I.lstM hH
  rw [List.length_map] at len z
  refine hq_call hq_push_kind hq_push_plain hq_push_entry (hq_push_ok _ _) ?_
  unfold Builtin.«_heapq.heappush»
  walk_at "hq two"
  walk_at "hq list"
  walk_at "hq items"
  walk_at "hq sift"
  have tl : s.TypeIs (.ref l) "list" := ⟨_, e, rfl⟩
  have ck : PySem.checkCount "heappush" 2 2 2 = pure () := by kernel_rfl
  refine wpAny_bind (wpAny_bind (wpAny_of_eq (show noKeywords _ _ = pure () from rfl) ?_))
  refine wpAny_bind (wpAny_of_eq ck ?_)
  refine wpAny_bind (wpAny_bind (wpAny_isInstance tl sub_list_self ?_))
  rw [if_pos rfl]
  refine wpAny_pure (wpAny_pure ?_)
  have I' := I.lset (l := l) (ys := (bs ++ [b]).map (·.1)) (its' := its ++ [u2]) (f := fun xs => xs.push u2) (t' := s.toks) hH e (by simp) (by rw [List.map_append]; exact rv.append (.cons r2 .nil)) (by rw [List.length_map, List.length_append]; exact hz)
  refine wpAny_bind (wpAny_updateSeq e rfl ?_ (by rw [List.size_toArray]; omega) (by rw [Array.size_push, List.size_toArray]; omega))
  obtain ⟨z', its', n', rv', len', e'⟩ := I'.lstM upd_same
  refine wpAny_bind (wpAny_bind (wpAny_seqItems e' rfl (wpAny_pure ?_)))
  have el : its'.toArray.size - 1 = bs.length := by
    rw [List.size_toArray, ← len', List.length_map, List.length_append]
    exact Nat.succ_sub_one _
  rw [el]
  refine wpAny_pure ⟨siftA_quiet, sift_up (after := -1) (top := 0) (res := .none) (by omega) ok (fun cs s2 I2 hp hh2 => ?_) bs.length (bs ++ [b]) _ I' (List.Perm.refl _) (heap_push hh) ?_ (by rw [List.length_append]; exact Nat.lt_succ_self _)⟩
  · unfold HqNxt
    rw [if_pos (by decide)]
    exact ⟨.non, _, I2, rfl, q cs hp hh2⟩
  · have desc : ∀ i, Desc 0 i := fun i => by
      induction i using Nat.strongRecOn with
      | ind i ih =>
        by_cases c : i = 0
        · rw [c]
          exact .refl
        · exact .step (by omega) (ih _ (by omega))
    exact desc _
theorem call_hpop (hu : X.A.units + 70 < cLine) : CallR X (.builtin "_heapq.heappop") (rHPop X.K) := by
  intro pins s σ H vs us Q I r h
  obtain ⟨l, bs, rfl, hH, hne, ok, hh, q⟩ := h
  obtain ⟨u1, rfl, r1⟩ := vals1 r
  cases (show u1 = Value.ref l from r1)
  obtain ⟨z, its, n, rv, len, e⟩ := I.lstM hH
  rw [List.length_map] at len z
  have bp : 0 < bs.length := List.length_pos_iff.mpr hne
  refine hq_call hq_pop_kind hq_pop_plain hq_pop_entry (hq_pop_ok _) ?_
  unfold Builtin.«_heapq.heappop»
  walk_at "hq pop"
  walk_at "hq one"
  walk_at "hq list"
  walk_at "hq items"
  walk_at "hq sift"
  walk_at "hq at"
  have tl : s.TypeIs (.ref l) "list" := ⟨_, e, rfl⟩
  refine wpAny_bind (wpAny_bind (wpAny_of_eq (show oneArg _ _ = pure (.ref l) from rfl) ?_))
  refine wpAny_bind (wpAny_bind (wpAny_isInstance tl sub_list_self ?_))
  rw [if_pos rfl]
  refine wpAny_pure (wpAny_pure ?_)
  refine wpAny_bind (wpAny_bind (wpAny_seqItems e rfl (wpAny_pure ?_)))
  have hB0 : bs[0]? = some (bs[0]'bp) := List.getElem?_eq_getElem bp
  generalize bs[0]'bp = b0 at hB0
  have hBl : bs[bs.length - 1]? = some (bs[bs.length - 1]'(by omega)) := List.getElem?_eq_getElem (by omega)
  generalize bs[bs.length - 1]'(by omega) = bl at hBl
  obtain ⟨u0, hu0, ru0⟩ := rv.get (i := 0) (x := b0.1) (by rw [List.getElem?_map, hB0]; rfl)
  obtain ⟨ul, hul, rul⟩ := rv.get (i := bs.length - 1) (x := bl.1) (by rw [List.getElem?_map, hBl]; rfl)
  have eb : its.toArray.back? = some ul := by
    rw [List.back?_toArray, List.getLast?_eq_getElem?, ← len]
    exact hul
  rw [eb]
  dsimp only
  have I1 := I.lset (l := l) (ys := bs.dropLast.map (·.1)) (its' := its.dropLast) (f := fun xs => xs.pop) (t' := s.toks) hH e (by simp) (by rw [List.map_dropLast]; exact rv.dropLast) (by rw [List.length_map, List.length_dropLast]; omega)
  refine wpAny_bind (wpAny_updateSeq e rfl ?_ (by rw [List.size_toArray]; omega) (by rw [Array.size_pop, List.size_toArray]; omega))
  by_cases c : bs.length = 1
  · rw [if_pos (by rw [List.size_toArray, ← len, c]; rfl)]
    have e1 : bs = [b0] := by
      match bs, c, hB0 with
      | [x], _, h => cases h; rfl
    have e2 : bl = b0 := by
      rw [e1] at hBl
      cases hBl
      rfl
    rw [e2] at rul
    refine wpAny_bind (wpAny_pure ?_)
    refine wpAny_pure ⟨b0.1, _, I1, rul, ?_⟩
    rw [e1]
    exact q b0 [] (by rw [e1]) (fun _ h => nomatch h) heap_nil
  · rw [if_neg (by rw [List.size_toArray, ← len]; simpa using c)]
    have u0' : its.toArray[0]? = some u0 := by
      rw [List.getElem?_toArray]
      exact hu0
    refine wpAny_bind (hq_at u0' ?_)
    obtain ⟨z1, its1, n1, rv1, len1, e1⟩ := I1.lstM upd_same
    have p1 : 0 < its1.length := by
      rw [← len1, List.length_map, List.length_dropLast]
      omega
    have ew : bs.dropLast.set 0 bl = bl :: (bs.dropLast).drop 1 := by
      cases hd : bs.dropLast with
      | nil =>
        have := congrArg List.length hd
        rw [List.length_dropLast] at this
        exact absurd this (by show ¬ bs.length - 1 = 0; omega)
      | cons x xs => rfl
    have I2 := I1.lset (l := l) (ys := (bs.dropLast.set 0 bl).map (·.1)) (its' := its1.set 0 ul) (f := fun xs => xs.setIfInBounds 0 ul) (t' := s.toks) upd_same e1 (by simp) (by rw [List.map_set]; exact Vals.set rul _ rv1) (by rw [List.length_map, List.length_set, List.length_dropLast]; omega)
    rw [upd_upd] at I2
    refine wpAny_bind (wpAny_updateSeq e1 rfl ?_ (by rw [List.size_toArray]; rw [← len1]; exact Nat.le_trans z1 (Nat.le_refl _)) (by rw [Array.size_setIfInBounds, List.size_toArray, ← len1]; omega))
    have pm : (b0 :: bs.dropLast.set 0 bl).Perm bs := by
      have e3 : bs = b0 :: (bs.dropLast.drop 1 ++ [bl]) := by
        have hd : bs = bs.dropLast ++ [bl] := by
          have := List.dropLast_concat_getLast hne
          rw [List.getLast_eq_getElem] at this
          have hx := (List.getElem?_eq_some_iff.mp hBl).2
          rw [hx] at this
          exact this.symm
        cases hx : bs.dropLast with
        | nil =>
          have := congrArg List.length hx
          rw [List.length_dropLast] at this
          exact absurd this (by show ¬ bs.length - 1 = 0; omega)
        | cons x xs =>
          rw [hx] at hd
          rw [hd] at hB0
          cases hB0
          exact hd
      rw [ew]
      refine List.Perm.trans (List.Perm.cons _ ?_) (List.Perm.of_eq e3.symm)
      exact (List.perm_append_comm (l₁ := [bl]) (l₂ := bs.dropLast.drop 1))
    have ok2 : HqOk X.K H l (bs.dropLast.set 0 bl) := ⟨fun b hb => ok.dp b (pm.mem_iff.mp (List.mem_cons_of_mem _ hb)), fun b hb => ok.dep b (pm.mem_iff.mp (List.mem_cons_of_mem _ hb)), fun b hb => ok.no b (pm.mem_iff.mp (List.mem_cons_of_mem _ hb)), fun b hb c hc => ok.al b (pm.mem_iff.mp (List.mem_cons_of_mem _ hb)) c (pm.mem_iff.mp (List.mem_cons_of_mem _ hc))⟩
    refine wpAny_pure ⟨siftA_quiet, sift_all (A := X.A) (R := wants (EP X pins σ Q) X.xe) (res := u0) (by omega) ok2 (fun cs s2 I3 hp hh2 => ?_) 0 (bs.dropLast.set 0 bl) _ I2 (List.Perm.refl _) (heap_pop hh) (by rw [List.length_set, List.length_dropLast]; omega)⟩
    refine ⟨b0.1, _, I3, ru0, q b0 cs ((List.Perm.cons _ hp).trans pm) (fun c hc => ?_) hh2⟩
    have mb := pm.mem_iff.mp (List.mem_cons_of_mem _ (hp.mem_iff.mp hc))
    obtain ⟨i, hi⟩ := List.mem_iff_getElem?.mp mb
    exact heap_least hlt_sw hh hB0 i c hi
theorem call_heapify (hu : X.A.units + 70 < cLine) : CallR X (.builtin "_heapq.heapify") (rHeapify X.K) := by
  intro pins s σ H vs us Q I r h
  obtain ⟨l, bs, rfl, hH, hz, ok, q⟩ := h
  obtain ⟨u1, rfl, r1⟩ := vals1 r
  cases (show u1 = Value.ref l from r1)
  obtain ⟨z, its, n, rv, len, e⟩ := I.lstM hH
  rw [List.length_map] at len z
  refine hq_call hq_heapify_kind hq_heapify_plain hq_heapify_entry (hq_heapify_ok _) ?_
  unfold Builtin.«_heapq.heapify»
  walk_at "hq heapify"
  walk_at "hq one"
  walk_at "hq list"
  walk_at "hq items"
  walk_at "hq sift"
  have tl : s.TypeIs (.ref l) "list" := ⟨_, e, rfl⟩
  refine wpAny_bind (wpAny_bind (wpAny_of_eq (show oneArg _ _ = pure (.ref l) from rfl) ?_))
  refine wpAny_bind (wpAny_bind (wpAny_isInstance tl sub_list_self ?_))
  rw [if_pos rfl]
  refine wpAny_pure (wpAny_pure ?_)
  refine wpAny_bind (wpAny_bind (wpAny_seqItems e rfl (wpAny_pure ?_)))
  rw [List.size_toArray, ← len]
  dsimp only
  rw [if_neg (by omega)]
  have I0 : Inv X pins σ (upd H l (.lst (bs.map (·.1)))) s := by
    rw [upd_self hH]
    exact I
  by_cases c : bs.length < 2
  · rw [if_pos c]
    refine wpAny_bind (wpAny_pure ?_)
    exact wpAny_pure ⟨.non, _, I0, rfl, q bs (List.Perm.refl _) fun i p a b i0 ip tp ha hb => by
      have := (List.getElem?_eq_some_iff.mp ha).1
      omega⟩
  · rw [if_neg c]
    have e2 : (((bs.length / 2 : Nat) : Int) - 2 : Int) = ((bs.length / 2 - 1 : Nat) : Int) - 1 := by omega
    rw [e2]
    refine wpAny_pure ⟨siftA_quiet, sift_all (A := X.A) (R := wants (EP X pins σ Q) X.xe) (res := .none) (by omega) ok (fun cs s2 I3 hp hh2 => ⟨.non, _, I3, rfl, q cs hp hh2⟩) (bs.length / 2 - 1) bs s I0 (List.Perm.refl _) (heap_down (top := bs.length / 2) (fun i p a b i0 ip tp ha hb => ?_) (by omega)) (by omega)⟩
    have := (List.getElem?_eq_some_iff.mp ha).1
    omega
end
section
variable {X : Cx} {x : Str} {p pos : Pos} {id : String} {r : List V → Hp → VK → Prop} {e : Expr} {es : List Expr} {t : TA}
/-- f(e, ..), f a name of the module that holds a built-in function -/
theorem pe_callGB (hc : CallR X (.builtin id) r) (hg : Gl X x) (hm : X.mg x = some (.builtin id)) (ha : PA X (e :: es) t) (hdb : (x == ("__debug__" : Str)) = false := by decide)
    (he : starEach (e :: es) X.env = (false, eval e X.env) :: starEach es X.env := by rfl) (hpl : (backTo pos (starEach es X.env)).any (·.1) = false := by rfl) : PE X (.Call (.Name x p) (e :: es) [] pos) (tCB r t) :=
  ⟨fun pins s σ H Q I h => wpAny_Call_Name_kw (ld_glob I hg hm (PyProof.Rows.callWith_builtin1 (thn (ha.run pos pins s σ H _ I h) fun us s1 ⟨vs, H1, I1, r1, q1⟩ => hc pins s1 σ H1 vs us Q I1 r1 q1) he hpl) hdb)⟩
end
end L2
namespace Ovc
open PySem PySem.Spec PyProof.Rows L2
/-! ### <, min and sorted over data -/
/-- values with their data, that may be compared -/
structure DsOk (K : PySem.W.Frag) (H : Hp) (bs : List HB) : Prop where
  dp : ∀ b ∈ bs, Dp K H b.1 b.2
  dep : ∀ b ∈ bs, b.2.depth ≤ 50
  nn : ∀ b ∈ bs, b.2 ≠ .none
  al : ∀ b ∈ bs, ∀ c ∈ bs, PySem.W.alike b.2 c.2 = true
theorem dpAll_hb {K : PySem.W.Frag} {H : Hp} {bs : List HB} (h : ∀ b ∈ bs, Dp K H b.1 b.2) : DpAll K H (bs.map (·.1)) (bs.map (·.2)) := by
  induction bs with
  | nil => exact .nil
  | cons b bs ih => exact .cons (h b List.mem_cons_self) (ih fun c hc => h c (List.mem_cons_of_mem _ hc))
def rLtD (K : PySem.W.Frag) : R2 := fun x y H Q => ∃ d e, Dp K H x d ∧ Dp K H y e ∧ PySem.W.alike d e = true ∧ d ≠ .none ∧ d.depth ≤ 50 ∧ Q (.bl (PySem.W.dataLt d e)) H
theorem op_ltD {X : Cx} (hu : X.A.units + 64 < cLine) : OpR X (compareOp .Lt) (rLtD X.K) := by
  intro pins s σ H x y v u Q I rx ry h
  obtain ⟨d, e, hd, he, ha, hn, dep, q⟩ := h
  obtain ⟨as, r1⟩ := Dp.reads I d x v hd rx
  obtain ⟨bs, r2⟩ := Dp.reads I e y u he ry
  exact PySem.W.lt_data r1 r2 ha hn (by omega) ⟨.bl _, H, I, rfl, q⟩
/-- the least of data -/
theorem minD_least : ∀ (xs : List PyData) (x : PyData), (∀ y ∈ x :: xs, PySem.W.dataLt y (PySem.W.minD x xs) = false)
  | [], x => fun y hy => by
    rw [List.mem_singleton.mp hy]
    exact PyProof.Rows.lex_irrefl _
  | z :: xs, x => fun y hy => by
    show PySem.W.dataLt y (PySem.W.minD (if PySem.W.dataLt z x then z else x) xs) = false
    have ih := minD_least xs (if PySem.W.dataLt z x then z else x)
    have nt := fun a b c h1 h2 => hlt_nt ((V.non, a) : HB) (V.non, b) (V.non, c) h1 h2
    have hb := ih _ List.mem_cons_self
    rcases List.mem_cons.mp hy with rfl | hy
    · by_cases c : PySem.W.dataLt z y = true
      · rw [if_pos c] at hb ⊢
        exact nt _ _ _ (hlt_as ((V.non, z) : HB) (V.non, y) c) hb
      · rw [if_neg c] at hb ⊢
        exact hb
    · rcases List.mem_cons.mp hy with rfl | hy
      · by_cases c : PySem.W.dataLt y x = true
        · rw [if_pos c] at hb ⊢
          exact hb
        · rw [if_neg c] at hb ⊢
          exact nt _ _ _ (show PySem.W.dataLt y x = false from Bool.eq_false_iff.mpr c) hb
      · exact ih y (List.mem_cons_of_mem _ hy)
def rMinD (K : PySem.W.Frag) : List V → Hp → VK → Prop := fun vs H Q => ∃ (a : Addr) (bs : List HB), vs = [V.ref a] ∧ SqL K H a (bs.map (·.1)) ∧ bs ≠ [] ∧ DsOk K H bs ∧ ∀ b ∈ bs, (∀ c ∈ bs, PySem.W.dataLt c.2 b.2 = false) → Q b.1 H
theorem call_minD {X : Cx} (hc : X.calm = true) (hu : X.A.units + 64 < cLine) : CallR X (.builtin "min") (rMinD X.K) := by
  intro pins s σ H vs us Q I r h
  obtain ⟨a, bs, rfl, hs, hne, ok, q⟩ := h
  obtain ⟨its, rv, hl, _⟩ := I.list hs
  rw [Vals.ref1 r]
  obtain ⟨as, ra⟩ := Dp.readsAll I _ _ _ (dpAll_hb ok.dp) rv
  cases bs with
  | nil => exact absurd rfl hne
  | cons b0 bs =>
    refine PySem.W.min_list_data (x := b0.2) (xs := bs.map (·.2)) (I.ok.hd hc) hl.isList (by rw [List.toList_toArray]; exact ra) ⟨fun x hx y hy => ?_, fun x hx => ?_⟩ ?_ fun i v h' tk cs hi hr hk => ?_
    · obtain ⟨b, hb, rfl⟩ := List.mem_map.mp (show x ∈ (b0 :: bs).map (·.2) from hx)
      obtain ⟨c, hc, rfl⟩ := List.mem_map.mp (show y ∈ (b0 :: bs).map (·.2) from hy)
      exact ok.al b hb c hc
    · obtain ⟨b, hb, rfl⟩ := List.mem_map.mp (show x ∈ (b0 :: bs).map (·.2) from hx)
      exact ok.nn b hb
    · have : PyData.depthAll ((b0 :: bs).map (·.2)) ≤ 50 := by
        have gen : ∀ ds : List PyData, (∀ d ∈ ds, d.depth ≤ 50) → PyData.depthAll ds ≤ 50 := fun ds => by
          induction ds with
          | nil => exact fun _ => Nat.zero_le _
          | cons d ds ih =>
            intro h
            show max d.depth (PyData.depthAll ds) ≤ 50
            have := h d List.mem_cons_self
            have := ih fun e he => h e (List.mem_cons_of_mem _ he)
            omega
        refine gen _ fun d hd => ?_
        obtain ⟨b, hb, rfl⟩ := List.mem_map.mp hd
        exact ok.dep b hb
      have e : PyData.depthAll (b0.2 :: bs.map (·.2)) = PyData.depthAll ((b0 :: bs).map (·.2)) := rfl
      rw [e]
      omega
    · have hi' : its[i]? = some v := by simpa using hi
      have hxl : i < (b0 :: bs).length := by
        have := rv.length
        rw [List.length_map] at this
        have := (List.getElem?_eq_some_iff.mp hi').1
        omega
      have ex : ((b0 :: bs).map (·.1))[i]? = some ((b0 :: bs)[i]'hxl).1 := by rw [List.getElem?_map, List.getElem?_eq_getElem hxl]; rfl
      have hm : (b0 :: bs)[i]'hxl ∈ b0 :: bs := List.getElem_mem hxl
      generalize (b0 :: bs)[i]'hxl = b at ex hm
      obtain ⟨u, hu2, ru⟩ := rv.get ex
      cases hi'.symm.trans hu2
      obtain ⟨bs', r2⟩ := Dp.reads I b.2 b.1 v (ok.dp b hm) ru
      have r3 := PyProof.Rows.Reads.keeps hk r2
      have e := (Reads.unique hr _ _ r3).1
      refine ⟨b.1, H, I.kept hk, ru, q b hm fun c hc => ?_⟩
      rw [← e]
      exact minD_least (bs.map (·.2)) b0.2 c.2 (List.mem_map.mpr ⟨c, hc, rfl⟩)
def rSortedD (K : PySem.W.Frag) : List V → Hp → VK → Prop := fun vs H Q => ∃ (a : Addr) (bs : List HB), vs = [V.ref a] ∧ SqL K H a (bs.map (·.1)) ∧ DsOk K H bs ∧ (∀ b ∈ bs, ∃ x r, b.2 = .tuple (x :: r)) ∧
  ∀ (cs : List HB) (p : Addr), cs.Perm bs → cs.Pairwise (fun x y => PySem.W.dataLt y.2 x.2 = false) → H p = none → Q (.ref p) (upd H p (.lst (cs.map (·.1))))
theorem vals_each {bs : List HB} {vs : List Value} (h : Vals (bs.map (·.1)) vs) : PySem.W.EachIs (fun (v : Value) (b : HB) => RelV b.1 v) vs bs := by
  induction bs generalizing vs with
  | nil =>
    cases h
    exact .nil
  | cons b bs ih =>
    cases h with
    | cons r t => exact .cons r (ih t)
theorem each_vals {bs : List HB} {vs : List Value} (h : PySem.W.EachIs (fun (v : Value) (b : HB) => RelV b.1 v) vs bs) : Vals (bs.map (·.1)) vs := by
  induction h with
  | nil => exact .nil
  | cons r _ ih => exact .cons r ih
theorem call_sortedD {X : Cx} (hu : X.A.units + 64 < cLine) : CallR X (.builtin "sorted") (rSortedD X.K) := by
  intro pins s σ H vs us Q I r h
  obtain ⟨a, bs, rfl, hs, ok, htp, q⟩ := h
  obtain ⟨its, rv, hl, hz⟩ := I.list hs
  rw [Vals.ref1 r]
  rw [List.length_map] at hz
  have er := vals_each rv
  refine PySem.W.sorted_data (β := HB) (enc := fun b => b.2) (R := fun v b => RelV b.1 v) hl.isList er ?_ (fun d hd e he => ?_) (.inl fun d hd => ?_) hz (fun b hb => ?_) fun out hlen hout => ?_
  · exact (PySem.W.each_mem er).mono fun v b ⟨hr, hb⟩ => Dp.reads I b.2 b.1 v (ok.dp b hb) hr
  · obtain ⟨b, hb, rfl⟩ := List.mem_map.mp hd
    obtain ⟨c, hc, rfl⟩ := List.mem_map.mp he
    exact ok.al b hb c hc
  · obtain ⟨b, hb, rfl⟩ := List.mem_map.mp hd
    exact htp b hb
  · have := ok.dep b hb
    omega
  · obtain ⟨ep, he'⟩ := PyProof.Rows.sortedAll_at s.heap its out.toArray
    have hp : (bs.mergeSort (PySem.W.dataLe false fun b : HB => b.2)).Perm bs := List.mergeSort_perm _ _
    have rv2 := each_vals hout
    refine ⟨.ref _, upd H (s.heap.objs.size + 1) (.lst ((bs.mergeSort (PySem.W.dataLe false fun b : HB => b.2)).map (·.1))), I.laid (t' := s.toks) (fun _ _ => PyProof.Rows.sortedAll_old) (Nat.le_succ _) ⟨by rw [List.length_map, hp.length_eq]; exact hz, out, ep, rv2, he'⟩, rfl, q _ _ hp ?_ (I.hok.fresh (Nat.le_succ _))⟩
    have hs := List.pairwise_mergeSort (le := PySem.W.dataLe false fun b : HB => b.2) (fun a b c h1 h2 => ?_) (fun a b => ?_) bs
    · exact hs.imp fun {a b} h => by
        rw [PySem.W.dataLe_eq] at h
        simpa using h
    · rw [PySem.W.dataLe_eq] at h1 h2 ⊢
      simp only [cond_false, Bool.not_eq_true'] at h1 h2 ⊢
      exact hlt_nt c b a h2 h1
    · rw [PySem.W.dataLe_eq]
      simp only [cond_false]
      cases e : PySem.W.dataLt b.2 a.2 with
      | false => rfl
      | true =>
        have := hlt_as b a e
        have : PySem.W.dataLt a.2 b.2 = false := this
        rw [this]
        rfl
/-! ### least paths, by sum, number of nodes, and as lists -/
/-- a strict linear order -/
structure Lin {α : Type} (lt : α → α → Bool) : Prop where
  as : ∀ a b, lt a b = true → lt b a = false
  tot : ∀ a b, lt a b = false → lt b a = false → a = b
  tr : ∀ a b c, lt a b = true → lt b c = true → lt a c = true
section
variable {α : Type} {lt : α → α → Bool}
theorem Lin.irr (L : Lin lt) (a : α) : lt a a = false := by
  cases e : lt a a with
  | false => rfl
  | true => exact Bool.noConfusion ((L.as a a e).symm.trans e)
theorem Lin.nt (L : Lin lt) {a b c : α} (h1 : lt a b = false) (h2 : lt b c = false) : lt a c = false := by
  cases e : lt a c with
  | false => rfl
  | true =>
    cases e1 : lt b a with
    | true =>
      have := L.tr b a c e1 e
      rw [h2] at this
      cases this
    | false =>
      have := L.tot a b h1 e1
      subst this
      rw [h2] at e
      cases e
/-- lists, by the first place where they differ -/
def pl (lt : α → α → Bool) : List α → List α → Bool
  | [], [] => false
  | [], _ :: _ => true
  | _ :: _, [] => false
  | x :: p, y :: q => lt x y || (!lt y x && pl lt p q)
theorem pl_cons {x y : α} {p q : List α} : pl lt (x :: p) (y :: q) = (lt x y || (!lt y x && pl lt p q)) := rfl
theorem pl_lin (L : Lin lt) : Lin (pl lt) where
  as := fun a => by
    induction a with
    | nil =>
      intro b h
      cases b with
      | nil => cases h
      | cons y q => rfl
    | cons x p ih =>
      intro b h
      cases b with
      | nil => cases h
      | cons y q =>
        rw [pl_cons] at h ⊢
        cases e : lt x y with
        | true => rw [L.as _ _ e]; rfl
        | false =>
          rw [e] at h
          cases e2 : lt y x with
          | true => rw [e2] at h; cases h
          | false =>
            rw [e2] at h
            rw [ih q (by simpa using h)]
            rfl
  tot := fun a => by
    induction a with
    | nil =>
      intro b h1 h2
      cases b with
      | nil => rfl
      | cons y q => cases h1
    | cons x p ih =>
      intro b h1 h2
      cases b with
      | nil => cases h2
      | cons y q =>
        rw [pl_cons] at h1 h2
        rw [Bool.or_eq_false_iff] at h1 h2
        rw [h2.1] at h1
        rw [L.tot x y h1.1 h2.1]
        rw [h1.1] at h2
        rw [ih q (by simpa using h1.2) (by simpa using h2.2)]
  tr := fun a => by
    induction a with
    | nil =>
      intro b c h1 h2
      cases b with
      | nil => cases h1
      | cons y q =>
        cases c with
        | nil => cases h2
        | cons z r => rfl
    | cons x p ih =>
      intro b c h1 h2
      cases b with
      | nil => cases h1
      | cons y q =>
        cases c with
        | nil => cases h2
        | cons z r =>
          rw [pl_cons] at h1 h2 ⊢
          rw [Bool.or_eq_true, Bool.and_eq_true, Bool.not_eq_true'] at h1 h2 ⊢
          rcases h1 with h1 | ⟨h1, k1⟩
          · rcases h2 with h2 | ⟨h2, k2⟩
            · exact .inl (L.tr _ _ _ h1 h2)
            · cases e : lt y z with
              | true => exact .inl (L.tr _ _ _ h1 e)
              | false =>
                have := L.tot _ _ e h2
                subst this
                exact .inl h1
          · cases e : lt x y with
            | true =>
              rcases h2 with h2 | ⟨h2, k2⟩
              · exact .inl (L.tr _ _ _ e h2)
              · cases e2 : lt y z with
                | true => exact .inl (L.tr _ _ _ e e2)
                | false =>
                  have := L.tot _ _ e2 h2
                  subst this
                  exact .inl e
            | false =>
              have := L.tot _ _ e h1
              subst this
              rcases h2 with h2 | ⟨h2, k2⟩
              · exact .inl h2
              · exact .inr ⟨h2, ih q r k1 k2⟩
theorem pl_snoc (L : Lin lt) {v : α} : ∀ {p q : List α}, p.length = q.length → pl lt p q = false → pl lt (p ++ [v]) (q ++ [v]) = false
  | [], [], _, _ => by
    show pl lt [v] [v] = false
    rw [pl_cons, L.irr]
    rfl
  | [], _ :: _, h, _ => by cases h
  | _ :: _, [], h, _ => by cases h
  | x :: p, y :: q, h, k => by
    rw [List.cons_append, List.cons_append, pl_cons]
    rw [pl_cons, Bool.or_eq_false_iff] at k
    rw [k.1, Bool.false_or]
    cases e : lt y x with
    | true => rfl
    | false =>
      rw [e] at k
      rw [pl_snoc L (Nat.succ.inj h) (by simpa using k.2)]
      rfl
end
section
variable {ν : Type}
/-- what a path is told by: its sum, and its nodes -/
abbrev Pth (ν : Type) := Int × List ν
def elt (lt : ν → ν → Bool) (x y : Pth ν) : Bool := decide (x.1 < y.1) || (decide (x.1 = y.1) && (decide (x.2.length < y.2.length) || (decide (x.2.length = y.2.length) && pl lt x.2 y.2)))
theorem elt_true {lt : ν → ν → Bool} {x y : Pth ν} : elt lt x y = true ↔ x.1 < y.1 ∨ (x.1 = y.1 ∧ (x.2.length < y.2.length ∨ (x.2.length = y.2.length ∧ pl lt x.2 y.2 = true))) := by
  unfold elt
  rw [Bool.or_eq_true, Bool.and_eq_true, Bool.or_eq_true, Bool.and_eq_true, decide_eq_true_eq, decide_eq_true_eq, decide_eq_true_eq, decide_eq_true_eq]
theorem elt_false {lt : ν → ν → Bool} {x y : Pth ν} : elt lt x y = false ↔ ¬ (x.1 < y.1 ∨ (x.1 = y.1 ∧ (x.2.length < y.2.length ∨ (x.2.length = y.2.length ∧ pl lt x.2 y.2 = true)))) := by
  rw [← elt_true, Bool.not_eq_true]
theorem elt_lin {lt : ν → ν → Bool} (L : Lin lt) : Lin (elt lt) where
  as := fun a b h => by
    rw [elt_true] at h
    rw [elt_false]
    rintro (k | ⟨k1, k | ⟨k2, k3⟩⟩)
    · omega
    · rcases h with h | ⟨h1, h | ⟨h2, h3⟩⟩ <;> omega
    · rcases h with h | ⟨h1, h | ⟨h2, h3⟩⟩
      · omega
      · omega
      · rw [(pl_lin L).as _ _ h3] at k3
        cases k3
  tot := fun a b h1 h2 => by
    rw [elt_false] at h1 h2
    have e1 : a.1 = b.1 := by omega
    have e2 : a.2.length = b.2.length := by omega
    have p1 : pl lt a.2 b.2 = false := by
      cases e : pl lt a.2 b.2 with
      | false => rfl
      | true => exact absurd (.inr ⟨e1, .inr ⟨e2, e⟩⟩) h1
    have p2 : pl lt b.2 a.2 = false := by
      cases e : pl lt b.2 a.2 with
      | false => rfl
      | true => exact absurd (.inr ⟨e1.symm, .inr ⟨e2.symm, e⟩⟩) h2
    exact Prod.ext e1 ((pl_lin L).tot _ _ p1 p2)
  tr := fun a b c h1 h2 => by
    rw [elt_true] at h1 h2 ⊢
    rcases h1 with h1 | ⟨h1, k1⟩
    · rcases h2 with h2 | ⟨h2, k2⟩ <;> exact .inl (by omega)
    · rcases h2 with h2 | ⟨h2, k2⟩
      · exact .inl (by omega)
      · refine .inr ⟨by omega, ?_⟩
        rcases k1 with k1 | ⟨k1, l1⟩
        · rcases k2 with k2 | ⟨k2, l2⟩ <;> exact .inl (by omega)
        · rcases k2 with k2 | ⟨k2, l2⟩
          · exact .inl (by omega)
          · exact .inr ⟨by omega, (pl_lin L).tr _ _ _ l1 l2⟩
/-- one arc further -/
def ext (x : Pth ν) (v : ν) (w : Int) : Pth ν := (x.1 + w, x.2 ++ [v])
theorem ext_mono {lt : ν → ν → Bool} (L : Lin lt) {x y : Pth ν} {v : ν} {w : Int} (h : elt lt y x = false) : elt lt (ext y v w) (ext x v w) = false := by
  rw [elt_false] at h ⊢
  unfold ext
  dsimp only
  rw [List.length_append, List.length_append]
  rintro (k | ⟨k1, k | ⟨k2, k3⟩⟩)
  · exact h (.inl (by omega))
  · exact h (.inr ⟨by omega, .inl (by omega)⟩)
  · have e2 : y.2.length = x.2.length := by omega
    have p : pl lt y.2 x.2 = false := by
      cases e : pl lt y.2 x.2 with
      | false => rfl
      | true => exact absurd (.inr ⟨by omega, .inr ⟨e2, e⟩⟩) h
    rw [pl_snoc L e2 p] at k3
    cases k3
theorem ext_more {lt : ν → ν → Bool} {x : Pth ν} {v : ν} {w : Int} (h : 1 ≤ w) : elt lt (ext x v w) x = false := by
  rw [elt_false]
  unfold ext
  dsimp only
  rw [List.length_append]
  rintro (k | ⟨k1, k⟩) <;> omega
/-- the paths of a graph: the last node, the sum and all nodes -/
inductive IsP (S : List (ν × Int)) (A : ν → List (ν × Int)) : ν → Pth ν → Prop
  | start {n : ν} {s : Int} : (n, s) ∈ S → IsP S A n (s, [n])
  | step {u v : ν} {w : Int} {x : Pth ν} : IsP S A u x → (v, w) ∈ A u → IsP S A v (ext x v w)
/-- the least one to a node -/
def Lst (lt : ν → ν → Bool) (S : List (ν × Int)) (A : ν → List (ν × Int)) (v : ν) (x : Pth ν) : Prop := IsP S A v x ∧ ∀ y, IsP S A v y → elt lt y x = false
theorem Lst.uniq {lt : ν → ν → Bool} (L : Lin lt) {S : List (ν × Int)} {A : ν → List (ν × Int)} {v : ν} {x y : Pth ν} (h : Lst lt S A v x) (k : Lst lt S A v y) : x = y := (elt_lin L).tot _ _ (k.2 _ h.1) (h.2 _ k.1)
theorem IsP.last {S : List (ν × Int)} {A : ν → List (ν × Int)} {v : ν} {x : Pth ν} (h : IsP S A v x) : x.2.getLast? = some v := by
  cases h with
  | start h => rfl
  | step h a => exact List.getLast?_concat
theorem IsP.ne {S : List (ν × Int)} {A : ν → List (ν × Int)} {v : ν} {x : Pth ν} (h : IsP S A v x) : 0 < x.2.length := by
  cases h with
  | start h => exact Nat.succ_pos 0
  | step h a =>
    show 0 < (_ ++ [v]).length
    rw [List.length_append]
    exact Nat.succ_pos _
/-! the search -/
/-- what holds between two turns: F found, Q the queue, Kn the least sizes known; the last one found has told its arcs up to j -/
structure DjI [DecidableEq ν] (lt : ν → ν → Bool) (S : List (ν × Int)) (A : ν → List (ν × Int)) (F : List (ν × Pth ν)) (Q : List (ν × Pth ν)) (Kn : ν → Option (Int × Nat)) (cur : Option ν) (j : Nat) : Prop where
  fl : ∀ f ∈ F, Lst lt S A f.1 f.2
  fn : (F.map (·.1)).Nodup
  qp : ∀ e ∈ Q, IsP S A e.1 e.2
  ar : ∀ f ∈ F, ∀ a ∈ (if cur = some f.1 then (A f.1).take j else A f.1), (∃ g ∈ F, g.1 = a.1) ∨ ∃ e ∈ Q, e.1 = a.1 ∧ elt lt (ext f.2 a.1 a.2) e.2 = false
  st : ∀ s ∈ S, (∃ g ∈ F, g.1 = s.1) ∨ ∃ e ∈ Q, e.1 = s.1 ∧ elt lt (s.2, [s.1]) e.2 = false
  kn : ∀ v k, Kn v = some k → (∃ g ∈ F, g.1 = v) ∨ ∃ e ∈ Q, e.1 = v ∧ (e.2.1, e.2.2.length) = k
section
variable [DecidableEq ν] {lt : ν → ν → Bool} {S : List (ν × Int)} {A : ν → List (ν × Int)} {F Q : List (ν × Pth ν)} {Kn : ν → Option (Int × Nat)}
theorem DjI.cover (L : Lin lt) (hw : ∀ u a, a ∈ A u → 1 ≤ a.2) (h : DjI lt S A F Q Kn none 0) {v : ν} {y : Pth ν} (p : IsP S A v y) : (∃ g ∈ F, g.1 = v) ∨ ∃ e ∈ Q, (¬ ∃ g ∈ F, g.1 = e.1) ∧ elt lt y e.2 = false := by
  induction p with
  | @start n s hs =>
    rcases h.st (n, s) hs with h | ⟨e, he, e1, e2⟩
    · exact .inl h
    · by_cases c : ∃ g ∈ F, g.1 = n
      · exact .inl c
      · exact .inr ⟨e, he, by rw [e1]; exact c, e2⟩
  | @step u v w x hp ha ih =>
    by_cases c : ∃ g ∈ F, g.1 = v
    · exact .inl c
    · right
      rcases ih with ⟨g, hg, rfl⟩ | ⟨e, he, e1, e2⟩
      · rcases h.ar g hg (v, w) (by rw [if_neg (fun z => nomatch z)]; exact ha) with h' | ⟨e, he, e1, e2⟩
        · exact absurd h' c
        · exact ⟨e, he, by rw [e1]; exact c, (elt_lin L).nt (ext_mono L ((h.fl g hg).2 x hp)) e2⟩
      · exact ⟨e, he, e1, (elt_lin L).nt (ext_more (hw u _ ha)) e2⟩
/-- at the end all nodes that can be reached are found -/
theorem DjI.all (L : Lin lt) (hw : ∀ u a, a ∈ A u → 1 ≤ a.2) (h : DjI lt S A F [] Kn none 0) {v : ν} {y : Pth ν} (p : IsP S A v y) : ∃ g ∈ F, g.1 = v := by
  rcases h.cover L hw p with h | ⟨e, he, _⟩
  · exact h
  · cases he
/-- the least entry of the queue is the least path to its node -/
theorem DjI.least (L : Lin lt) (hw : ∀ u a, a ∈ A u → 1 ≤ a.2) {e : ν × Pth ν} (h : DjI lt S A F Q Kn none 0) (he : e ∈ Q) (hm : ∀ c ∈ Q, elt lt c.2 e.2 = false) (hn : ¬ ∃ g ∈ F, g.1 = e.1) : Lst lt S A e.1 e.2 := by
  refine ⟨h.qp e he, fun y p => ?_⟩
  rcases h.cover L hw p with h | ⟨c, hc, _, h2⟩
  · exact absurd h hn
  · exact (elt_lin L).nt h2 (hm c hc)
/-- an entry of a node that is found goes -/
theorem DjI.drop {e : ν × Pth ν} {Q' : List (ν × Pth ν)} (h : DjI lt S A F Q Kn none 0) (hp : (e :: Q').Perm Q) (hf : ∃ g ∈ F, g.1 = e.1) : DjI lt S A F Q' Kn none 0 := by
  have go : ∀ {v : ν} {P : ν × Pth ν → Prop}, ((∃ g ∈ F, g.1 = v) ∨ ∃ c ∈ Q, c.1 = v ∧ P c) → ((∃ g ∈ F, g.1 = v) ∨ ∃ c ∈ Q', c.1 = v ∧ P c) := fun {v P} z => by
    rcases z with z | ⟨c, hc, c1, c2⟩
    · exact .inl z
    · rcases List.mem_cons.mp (hp.mem_iff.mpr hc) with rfl | hc
      · exact .inl (by rw [← c1]; exact hf)
      · exact .inr ⟨c, hc, c1, c2⟩
  exact ⟨h.fl, h.fn, fun c hc => h.qp c (hp.mem_iff.mp (List.mem_cons_of_mem _ hc)), fun f hf a ha => go (h.ar f hf a ha), fun s hs => go (h.st s hs), fun v k hk => go (h.kn v k hk)⟩
/-- the least entry is found -/
theorem DjI.find (L : Lin lt) (hw : ∀ u a, a ∈ A u → 1 ≤ a.2) {e : ν × Pth ν} {Q' : List (ν × Pth ν)} (h : DjI lt S A F Q Kn none 0) (hp : (e :: Q').Perm Q) (hm : ∀ c ∈ Q', elt lt c.2 e.2 = false) (hn : ¬ ∃ g ∈ F, g.1 = e.1) : DjI lt S A (F ++ [e]) Q' Kn (some e.1) 0 := by
  have he : e ∈ Q := hp.mem_iff.mp List.mem_cons_self
  have hl := h.least L hw he (fun c hc => by
    rcases List.mem_cons.mp (hp.mem_iff.mpr hc) with rfl | hc
    · exact (elt_lin L).irr _
    · exact hm c hc) hn
  have go : ∀ {v : ν} {P : ν × Pth ν → Prop}, ((∃ g ∈ F, g.1 = v) ∨ ∃ c ∈ Q, c.1 = v ∧ P c) → ((∃ g ∈ F ++ [e], g.1 = v) ∨ ∃ c ∈ Q', c.1 = v ∧ P c) := fun {v P} z => by
    rcases z with ⟨g, hg, hv⟩ | ⟨c, hc, c1, c2⟩
    · exact .inl ⟨g, List.mem_append_left _ hg, hv⟩
    · rcases List.mem_cons.mp (hp.mem_iff.mpr hc) with rfl | hc
      · exact .inl ⟨c, List.mem_append_right _ List.mem_cons_self, c1⟩
      · exact .inr ⟨c, hc, c1, c2⟩
  refine ⟨fun f hf => ?_, ?_, fun c hc => h.qp c (hp.mem_iff.mp (List.mem_cons_of_mem _ hc)), fun f hf a ha => ?_, fun s hs => go (h.st s hs), fun v k hk => go (h.kn v k hk)⟩
  · rcases List.mem_append.mp hf with hf | hf
    · exact h.fl f hf
    · rw [List.mem_singleton.mp hf]
      exact hl
  · rw [List.map_append]
    refine List.nodup_append.mpr ⟨h.fn, List.nodup_cons.mpr ⟨List.not_mem_nil, .nil⟩, fun x hx y hy z => ?_⟩
    obtain ⟨g, hg, rfl⟩ := List.mem_map.mp hx
    rw [List.mem_singleton.mp hy] at z
    exact hn ⟨g, hg, z⟩
  · rcases List.mem_append.mp hf with hf | hf
    · by_cases c : some e.1 = some f.1
      · exact absurd ⟨f, hf, (Option.some.inj c).symm⟩ hn
      · rw [if_neg c] at ha
        exact go (h.ar f hf a (by rw [if_neg (fun z => nomatch z)]; exact ha))
    · rw [List.mem_singleton.mp hf, if_pos rfl, List.take_zero] at ha
      cases ha
/-- an arc of the node just found: its candidate goes into the queue, or a lesser one is known -/
theorem DjI.push (L : Lin lt) {e : ν × Pth ν} {j : Nat} {a : ν × Int} (h : DjI lt S A F Q Kn (some e.1) j) (he : e ∈ F) (ha : (A e.1)[j]? = some a) {Q' : List (ν × Pth ν)} (hp : Q'.Perm (Q ++ [(a.1, ext e.2 a.1 a.2)])) {Kn' : ν → Option (Int × Nat)} (hk : ∀ v, Kn' v = if v = a.1 then some (e.2.1 + a.2, e.2.2.length + 1) else Kn v) : DjI lt S A F Q' Kn' (some e.1) (j + 1) := by
  have mem : ∀ {c}, c ∈ Q → c ∈ Q' := fun hc => hp.mem_iff.mpr (List.mem_append_left _ hc)
  have mn : (a.1, ext e.2 a.1 a.2) ∈ Q' := hp.mem_iff.mpr (List.mem_append_right _ List.mem_cons_self)
  have go : ∀ {v : ν} {P : ν × Pth ν → Prop}, ((∃ g ∈ F, g.1 = v) ∨ ∃ c ∈ Q, c.1 = v ∧ P c) → ((∃ g ∈ F, g.1 = v) ∨ ∃ c ∈ Q', c.1 = v ∧ P c) := fun {v P} z => by
    rcases z with z | ⟨c, hc, z⟩
    · exact .inl z
    · exact .inr ⟨c, mem hc, z⟩
  have hpe := (h.fl e he).1
  have hma : a ∈ A e.1 := List.mem_of_getElem? ha
  refine ⟨h.fl, h.fn, fun c hc => ?_, fun f hf b hb => ?_, fun s hs => go (h.st s hs), fun v k hkv => ?_⟩
  · rcases List.mem_append.mp (hp.mem_iff.mp hc) with hc | hc
    · exact h.qp c hc
    · rw [List.mem_singleton.mp hc]
      exact .step hpe hma
  · by_cases c : some e.1 = some f.1
    · rw [if_pos c, List.take_add_one, List.mem_append] at hb
      rcases hb with hb | hb
      · exact go (h.ar f hf b (by rw [if_pos c]; exact hb))
      · have ef : e.1 = f.1 := Option.some.inj c
        rw [← ef, ha] at hb
        have hb : b = a := by simpa using hb
        subst hb
        have e2 : f.2 = e.2 := (h.fl f hf).uniq L (by rw [← ef]; exact h.fl e he)
        rw [e2]
        exact .inr ⟨_, mn, rfl, (elt_lin L).irr _⟩
    · rw [if_neg c] at hb
      exact go (h.ar f hf b (by rw [if_neg c]; exact hb))
  · rw [hk] at hkv
    by_cases c : v = a.1
    · rw [if_pos c] at hkv
      cases hkv
      refine .inr ⟨_, mn, c.symm, ?_⟩
      show ((ext e.2 a.1 a.2).1, (ext e.2 a.1 a.2).2.length) = _
      unfold ext
      rw [List.length_append]
      rfl
    · rw [if_neg c] at hkv
      exact go (h.kn v k hkv)
theorem DjI.skip (L : Lin lt) {e : ν × Pth ν} {j : Nat} {a : ν × Int} (h : DjI lt S A F Q Kn (some e.1) j) (he : e ∈ F) (ha : (A e.1)[j]? = some a) {k : Int × Nat} (hk : Kn a.1 = some k) (hlt : k.1 < e.2.1 + a.2 ∨ (k.1 = e.2.1 + a.2 ∧ k.2 < e.2.2.length + 1)) : DjI lt S A F Q Kn (some e.1) (j + 1) := by
  refine ⟨h.fl, h.fn, h.qp, fun f hf b hb => ?_, h.st, h.kn⟩
  by_cases c : some e.1 = some f.1
  · rw [if_pos c, List.take_add_one, List.mem_append] at hb
    rcases hb with hb | hb
    · exact h.ar f hf b (by rw [if_pos c]; exact hb)
    · have ef : e.1 = f.1 := Option.some.inj c
      rw [← ef, ha] at hb
      have hb : b = a := by simpa using hb
      subst hb
      have e2 : f.2 = e.2 := (h.fl f hf).uniq L (by rw [← ef]; exact h.fl e he)
      rw [e2]
      rcases h.kn _ _ hk with h' | ⟨d, hd, d1, d2⟩
      · exact .inl h'
      · refine .inr ⟨d, hd, d1, ?_⟩
        rw [← d2] at hlt
        rw [elt_false]
        unfold ext
        dsimp only
        rw [List.length_append]
        dsimp only at hlt
        rintro (z | ⟨z1, z | ⟨z2, z3⟩⟩)
        · omega
        · have : e.2.2.length + 1 < d.2.2.length := z
          omega
        · have : e.2.2.length + 1 = d.2.2.length := z2
          omega
  · rw [if_neg c] at hb
    exact h.ar f hf b (by rw [if_neg c]; exact hb)
theorem DjI.done {e : ν × Pth ν} {j : Nat} (h : DjI lt S A F Q Kn (some e.1) j) (hj : (A e.1).length ≤ j) : DjI lt S A F Q Kn none 0 :=
  ⟨h.fl, h.fn, h.qp, fun f hf b hb => h.ar f hf b (by
    rw [if_neg (fun z => nomatch z)] at hb
    by_cases c : some e.1 = some f.1
    · rw [if_pos c, ← Option.some.inj c, List.take_of_length_le hj, Option.some.inj c]
      exact hb
    · rw [if_neg c]
      exact hb), h.st, h.kn⟩
theorem DjI.begin (L : Lin lt) {Q : List (ν × Pth ν)} {Kn : ν → Option (Int × Nat)} (hq : Q.Perm (S.map fun s => (s.1, (s.2, [s.1])))) (hk : ∀ v k, Kn v = some k → ∃ s ∈ S, s.1 = v ∧ k = (s.2, 1)) : DjI lt S A [] Q Kn none 0 :=
  ⟨fun f hf => (nomatch hf), .nil, fun e he => by
    obtain ⟨s, hs, rfl⟩ := List.mem_map.mp (hq.mem_iff.mp he)
    exact .start hs, fun f hf => (nomatch hf), fun s hs => .inr ⟨(s.1, (s.2, [s.1])), hq.mem_iff.mpr (List.mem_map.mpr ⟨s, hs, rfl⟩), rfl, (elt_lin L).irr _⟩, fun v k h => by
    obtain ⟨s, hs, h1, h2⟩ := hk v k h
    exact .inr ⟨(s.1, (s.2, [s.1])), hq.mem_iff.mpr (List.mem_map.mpr ⟨s, hs, rfl⟩), h1, h2.symm⟩⟩
end
end
/-! ### paths as data -/
open PySem.W (alike dataLt keyToks keyToksAll) in
theorem dl_nil {y : PyData} {ys : List PyData} : PyProof.Rows.lexLt itemOrd (keyToksAll []) (keyToksAll (y :: ys)) = true := by
  rw [PySem.W.toks_all_cons]
  simp only [keyToksAll]
  rw [lex_diff (O := itemOrd) (by simp)]
  rfl
open PySem.W (alike dataLt keyToks keyToksAll) in
theorem dl_cons0 {x : PyData} {xs : List PyData} : PyProof.Rows.lexLt itemOrd (keyToksAll (x :: xs)) (keyToksAll []) = false := by
  rw [PySem.W.toks_all_cons]
  simp only [keyToksAll]
  rw [lex_diff (O := itemOrd) (by simp)]
  rfl
/-- how the nodes of a graph stand as values, as keys, as data -/
structure NodeM (K : PySem.W.Frag) (ν κ : Type) [DecidableEq ν] [DecidableEq κ] where
  key : ν → κ
  inj : ∀ a b, key a = key b → a = b
  di : List (κ × V) → HO
  noL : ∀ kvs xs, di kvs ≠ .lst xs
  noT : ∀ kvs xs, di kvs ≠ .tup xs
  NV : Hp → V → ν → Prop
  to : ∀ {H H' : Hp} {v : V} {n : ν}, NV H v n → Same H H' → NV H' v n
  but : ∀ {H : Hp} {o : Addr} {v : V} {n : ν}, NV H v n → (∀ xs, H o ≠ some (.tup xs)) → NV (but H o) v n
  get : ∀ {H : Hp} {d : Addr} {v : V} {n : ν} {kvs : List (κ × V)}, NV H v n → H d = some (di kvs) → DGet H d v (valV kvs (key n))
  put : ∀ {H : Hp} {d : Addr} {v z : V} {n : ν} {kvs : List (κ × V)}, NV H v n → H d = some (di kvs) → kvs.length < sizeLine → DPut H d v z (upd H d (di (putK kvs (key n) z)))
  isD : ∀ {H : Hp} {d : Addr} {kvs : List (κ × V)}, H d = some (di kvs) → IsD H d
  nd : ν → PyData
  dp : ∀ {H : Hp} {v : V} {n : ν}, NV H v n → Dp K H v (nd n)
  lt : ν → ν → Bool
  lin : Lin lt
  al : ∀ a b, PySem.W.alike (nd a) (nd b) = true
  eq : ∀ a b, PyData.eqv (nd a) (nd b) = decide (a = b)
  ltd : ∀ a b, PySem.W.dataLt (nd a) (nd b) = lt a b
  dep : ∀ a, (nd a).depth ≤ 5
section
variable {K : PySem.W.Frag} {ν κ : Type} [DecidableEq ν] [DecidableEq κ] (M : NodeM K ν κ)
def NodeM.trip (x : Pth ν) : PyData := .tuple [.int x.1, .int (x.2.length : Nat), .list (x.2.map M.nd)]
theorem NodeM.al_list (p q : List ν) : PySem.W.alikeAll (p.map M.nd) (q.map M.nd) = true := by
  induction p generalizing q with
  | nil => simp [PySem.W.alikeAll]
  | cons x p ih =>
    cases q with
    | nil => simp [PySem.W.alikeAll]
    | cons y q =>
      rw [List.map_cons, List.map_cons, PySem.W.alikeAll, M.al, ih]
      rfl
theorem NodeM.eq_list (p q : List ν) : PyData.eqvAll (p.map M.nd) (q.map M.nd) = decide (p = q) := by
  induction p generalizing q with
  | nil =>
    cases q with
    | nil => rfl
    | cons y q => rfl
  | cons x p ih =>
    cases q with
    | nil => rfl
    | cons y q =>
      rw [List.map_cons, List.map_cons, PySem.W.eqv_all_cons, M.eq, ih]
      rw [Bool.eq_iff_iff, Bool.and_eq_true, decide_eq_true_eq, decide_eq_true_eq, decide_eq_true_eq, List.cons.injEq]
theorem NodeM.lt_list (p q : List ν) : PyProof.Rows.lexLt itemOrd (PySem.W.keyToksAll (p.map M.nd)) (PySem.W.keyToksAll (q.map M.nd)) = pl M.lt p q := by
  induction p generalizing q with
  | nil =>
    cases q with
    | nil => exact PyProof.Rows.lex_irrefl _
    | cons y q => exact dl_nil
  | cons x p ih =>
    cases q with
    | nil => exact dl_cons0
    | cons y q =>
      rw [List.map_cons, List.map_cons, pl_cons]
      by_cases c : x = y
      · subst c
        rw [PySem.W.dataLt_all_yes (M.al _ _) (by rw [M.eq]; exact decide_eq_true rfl), ih, M.lin.irr]
        rfl
      · rw [PySem.W.dataLt_all_no (M.al _ _) (by rw [M.eq]; exact decide_eq_false c), M.ltd]
        cases e : M.lt x y with
        | true => rfl
        | false =>
          cases e2 : M.lt y x with
          | true => rfl
          | false => exact absurd (M.lin.tot _ _ e e2) c
theorem al_int (a b : Int) : PySem.W.alike (.int a) (.int b) = true := by simp [PySem.W.alike]
theorem NodeM.al_trip (x y : Pth ν) : PySem.W.alike (M.trip x) (M.trip y) = true := by
  unfold NodeM.trip
  simp only [PySem.W.alike, PySem.W.alikeAll, M.al_list]
  rfl
theorem eqv_int (a b : Int) : PyData.eqv (.int a) (.int b) = decide (a = b) := by
  rw [PyData.eqv]
  by_cases h : a = b
  · subst h
    simp
  · rw [decide_eq_false h]
    exact beq_eq_false_iff_ne.mpr h
theorem NodeM.lt_trip (x y : Pth ν) : PySem.W.dataLt (M.trip x) (M.trip y) = elt M.lt x y := by
  unfold NodeM.trip
  rw [PySem.W.dataLt_tuple, Bool.eq_iff_iff, elt_true]
  by_cases c1 : x.1 = y.1
  · rw [PySem.W.dataLt_all_yes (al_int _ _) (by rw [eqv_int]; exact decide_eq_true c1)]
    by_cases c2 : x.2.length = y.2.length
    · rw [PySem.W.dataLt_all_yes (al_int _ _) (by rw [eqv_int, c2]; exact decide_eq_true rfl)]
      by_cases c3 : x.2 = y.2
      · rw [PySem.W.dataLt_all_yes (by simp only [PySem.W.alike, M.al_list]) (by rw [PyData.eqv, M.eq_list]; exact decide_eq_true c3), PyProof.Rows.lex_irrefl, c3, (pl_lin M.lin).irr]
        constructor
        · intro h
          cases h
        · rintro (h | ⟨_, h | ⟨_, h⟩⟩)
          · omega
          · omega
          · cases h
      · rw [PySem.W.dataLt_all_no (by simp only [PySem.W.alike, M.al_list]) (by rw [PyData.eqv, M.eq_list]; exact decide_eq_false c3), PySem.W.dataLt_list, M.lt_list]
        constructor
        · exact fun h => .inr ⟨c1, .inr ⟨c2, h⟩⟩
        · rintro (h | ⟨_, h | ⟨_, h⟩⟩)
          · omega
          · omega
          · exact h
    · rw [PySem.W.dataLt_all_no (al_int _ _) (by rw [eqv_int]; exact decide_eq_false (by omega)), PySem.W.dataLt_int, decide_eq_true_eq]
      constructor
      · exact fun h => .inr ⟨c1, .inl (by omega)⟩
      · rintro (h | ⟨_, h | ⟨h, _⟩⟩) <;> omega
  · rw [PySem.W.dataLt_all_no (al_int _ _) (by rw [eqv_int]; exact decide_eq_false c1), PySem.W.dataLt_int, decide_eq_true_eq]
    constructor
    · exact fun h => .inl h
    · rintro (h | ⟨h, _⟩) <;> omega
theorem depth_le {ds : List PyData} {m : Nat} (h : ∀ d ∈ ds, d.depth ≤ m) : PyData.depthAll ds ≤ m := by
  induction ds with
  | nil => exact Nat.zero_le _
  | cons d ds ih =>
    show max d.depth (PyData.depthAll ds) ≤ m
    have := h d List.mem_cons_self
    have := ih fun e he => h e (List.mem_cons_of_mem _ he)
    omega
theorem NodeM.dep_trip (x : Pth ν) : (M.trip x).depth ≤ 20 := by
  have h : PyData.depthAll (x.2.map M.nd) ≤ 5 := depth_le fun d hd => by
    obtain ⟨n, _, rfl⟩ := List.mem_map.mp hd
    exact M.dep n
  unfold NodeM.trip
  show max 0 (max 0 (max (PyData.depthAll (x.2.map M.nd) + 1) 0)) + 1 ≤ 20
  omega
/-- a list of values of nodes -/
def NodeM.NVs (H : Hp) (vs : List V) (p : List ν) : Prop := Paired (M.NV H) vs p
variable {M}
theorem NodeM.NVs.to {H H' : Hp} {vs : List V} {p : List ν} (h : M.NVs H vs p) (s : Same H H') : M.NVs H' vs p := by
  unfold NodeM.NVs at h ⊢
  induction h with
  | nil => exact .nil
  | cons h t ih => exact .cons (M.to h s) ih
theorem NodeM.NVs.but {H : Hp} {o : Addr} {vs : List V} {p : List ν} (h : M.NVs H vs p) (ho : ∀ xs, H o ≠ some (.tup xs)) : M.NVs (Ovc.but H o) vs p := by
  unfold NodeM.NVs at h ⊢
  induction h with
  | nil => exact .nil
  | cons h t ih => exact .cons (M.but h ho) ih
theorem NodeM.NVs.app {H : Hp} {vs : List V} {p : List ν} {v : V} {n : ν} (h : M.NVs H vs p) (k : M.NV H v n) : M.NVs H (vs ++ [v]) (p ++ [n]) := by
  unfold NodeM.NVs at h ⊢
  induction h with
  | nil => exact .cons k .nil
  | cons h t ih => exact .cons h ih
theorem NodeM.NVs.len {H : Hp} {vs : List V} {p : List ν} (h : M.NVs H vs p) : vs.length = p.length := Paired.length h
theorem NodeM.NVs.last {H : Hp} {vs : List V} {p : List ν} {n : ν} (h : M.NVs H vs p) (hl : p.getLast? = some n) : ∃ v, vs.getLast? = some v ∧ M.NV H v n := by
  unfold NodeM.NVs at h
  induction h with
  | nil => cases hl
  | @cons v m vs p h t ih =>
    cases t with
    | nil =>
      cases hl
      exact ⟨v, rfl, h⟩
    | @cons v2 m2 vs2 p2 h2 t2 =>
      rw [List.getLast?_cons_cons] at hl
      obtain ⟨u, hu, hn⟩ := ih hl
      exact ⟨u, by rw [List.getLast?_cons_cons]; exact hu, hn⟩
theorem NodeM.NVs.dp {H : Hp} {vs : List V} {p : List ν} (h : M.NVs H vs p) : DpAll K H vs (p.map M.nd) := by
  unfold NodeM.NVs at h
  induction h with
  | nil => exact .nil
  | cons h t ih => exact .cons (M.dp h) ih
variable (M)
/-- a value that is a path's tuple -/
def NodeM.PV (H : Hp) (v : V) (x : Pth ν) : Prop := ∃ T P vs, v = .ref T ∧ H T = some (.tup [.int x.1, .int (x.2.length : Nat), .ref P]) ∧ H P = some (.lst vs) ∧ M.NVs H vs x.2
variable {M}
theorem NodeM.PV.to {H H' : Hp} {v : V} {x : Pth ν} (h : M.PV H v x) (s : Same H H') : M.PV H' v x := by
  obtain ⟨T, P, vs, e, h1, h2, h3⟩ := h
  exact ⟨T, P, vs, e, s _ _ h1, s _ _ h2, h3.to s⟩
theorem NodeM.PV.dp {H : Hp} {v : V} {x : Pth ν} (h : M.PV H v x) : Dp K H v (M.trip x) := by
  obtain ⟨T, P, vs, rfl, h1, h2, h3⟩ := h
  exact .tup (.of h1) (.cons (.int _) (.cons (.int _) (.cons (.lst (.of h2) h3.dp) .nil)))
variable (M)
/-- rows of arcs -/
def NodeM.AR (H : Hp) (ts : List V) (A : List (ν × Int)) : Prop := Paired (fun t (a : ν × Int) => ∃ T v, t = V.ref T ∧ H T = some (.tup [v, .int a.2]) ∧ M.NV H v a.1) ts A
variable {M}
theorem NodeM.AR.to {H H' : Hp} {ts : List V} {A : List (ν × Int)} (h : M.AR H ts A) (s : Same H H') : M.AR H' ts A := by
  unfold NodeM.AR at h ⊢
  induction h with
  | nil => exact .nil
  | cons h t ih =>
    obtain ⟨T, v, e, h1, h2⟩ := h
    exact .cons ⟨T, v, e, s _ _ h1, M.to h2 s⟩ ih
theorem NodeM.AR.get {H : Hp} {ts : List V} {A : List (ν × Int)} (h : M.AR H ts A) {i : Nat} {a : ν × Int} (hi : A[i]? = some a) : ∃ T v, ts[i]? = some (.ref T) ∧ H T = some (.tup [v, .int a.2]) ∧ M.NV H v a.1 := by
  unfold NodeM.AR at h
  induction h generalizing i with
  | nil => simp at hi
  | cons h t ih =>
    cases i with
    | zero =>
      cases hi
      obtain ⟨T, v, rfl, h1, h2⟩ := h
      exact ⟨T, v, rfl, h1, h2⟩
    | succ i => exact ih hi
theorem NodeM.AR.len {H : Hp} {ts : List V} {A : List (ν × Int)} (h : M.AR H ts A) : ts.length = A.length := Paired.length h
end
/-! weights of what isn't found yet -/
section
variable {ν : Type} [DecidableEq ν]
def wS (A : ν → List (ν × Int)) (F : List ν) : List ν → Nat
  | [] => 0
  | u :: U => (if u ∈ F then 0 else (A u).length + 1) + wS A F U
theorem wS_mono {A : ν → List (ν × Int)} {F : List ν} {v : ν} : ∀ U : List ν, wS A (F ++ [v]) U ≤ wS A F U
  | [] => Nat.le_refl _
  | u :: U => by
    have ih := wS_mono (A := A) (F := F) (v := v) U
    show (if u ∈ F ++ [v] then 0 else (A u).length + 1) + wS A (F ++ [v]) U ≤ (if u ∈ F then 0 else (A u).length + 1) + wS A F U
    by_cases c : u ∈ F
    · rw [if_pos c, if_pos (List.mem_append_left _ c)]
      omega
    · rw [if_neg c]
      split <;> omega
theorem wS_step {A : ν → List (ν × Int)} {F : List ν} {v : ν} (hF : v ∉ F) : ∀ U : List ν, v ∈ U → wS A (F ++ [v]) U + ((A v).length + 1) ≤ wS A F U
  | [], h => nomatch h
  | u :: U, h => by
    show (if u ∈ F ++ [v] then 0 else (A u).length + 1) + wS A (F ++ [v]) U + ((A v).length + 1) ≤ (if u ∈ F then 0 else (A u).length + 1) + wS A F U
    by_cases c : u = v
    · subst c
      have := wS_mono (A := A) (F := F) (v := u) U
      rw [if_pos (List.mem_append_right _ List.mem_cons_self), if_neg hF]
      omega
    · have hm : v ∈ U := (List.mem_cons.mp h).resolve_left fun z => c z.symm
      have ih := wS_step (A := A) hF U hm
      by_cases d : u ∈ F
      · rw [if_pos d, if_pos (List.mem_append_left _ d)]
        omega
      · rw [if_neg d, if_neg (fun z => (List.mem_append.mp z).elim d fun z => c (List.mem_singleton.mp z))]
        omega
theorem perm_map_inv {α β : Type} {f : α → β} {ys zs : List β} (h : ys.Perm zs) : ∀ {l : List α}, zs = l.map f → ∃ l' : List α, l'.Perm l ∧ ys = l'.map f := by
  induction h with
  | nil => exact fun {l} e => ⟨l, List.Perm.refl _, e⟩
  | @cons x l1 l2 h ih =>
    intro l e
    cases l with
    | nil => cases e
    | cons a l =>
      have e1 := (List.cons.inj e).1
      obtain ⟨l', p, e'⟩ := ih (List.cons.inj e).2
      exact ⟨a :: l', p.cons a, by rw [e', e1]; rfl⟩
  | swap x y t =>
    intro l e
    cases l with
    | nil => cases e
    | cons a l =>
      cases l with
      | nil => cases (List.cons.inj e).2
      | cons b l =>
        have e1 := (List.cons.inj e).1
        have e2 := (List.cons.inj (List.cons.inj e).2).1
        have e3 := (List.cons.inj (List.cons.inj e).2).2
        exact ⟨b :: a :: l, List.Perm.swap a b l, by rw [e1, e2, e3]; rfl⟩
  | trans h1 h2 ih1 ih2 =>
    intro l e
    obtain ⟨l2, p2, e2⟩ := ih2 e
    obtain ⟨l1, p1, e1⟩ := ih1 e2
    exact ⟨l1, p1.trans p2, e1⟩
end
/-! ### the loop of the search -/
theorem room70 {k : Nat} {A : Around} (r : Room k A) : A.units + 70 < cLine := by
  have := r.un
  omega
/-! heaps without three objects -/
def B3 (q kd fd : Addr) (H : Hp) : Hp := but (but (but H q) kd) fd
section
variable {q kd fd : Addr} {H H' : Hp}
theorem b3_same : Same (B3 q kd fd H) H := (but_same.trans but_same).trans but_same
theorem b3_mono (s : Same H H') : Same (B3 q kd fd H) (B3 q kd fd H') := but_mono (but_mono (but_mono s))
theorem b3_ne {a : Addr} (h1 : a ≠ q) (h2 : a ≠ kd) (h3 : a ≠ fd) : B3 q kd fd H a = H a := by
  unfold B3
  rw [but_ne h3, but_ne h2, but_ne h1]
theorem b3_at {a : Addr} (h : a = q ∨ a = kd ∨ a = fd) : B3 q kd fd H a = none := by
  unfold B3
  by_cases c3 : a = fd
  · rw [c3, but_at]
  · rw [but_ne c3]
    by_cases c2 : a = kd
    · rw [c2, but_at]
    · rw [but_ne c2]
      rcases h with h | h | h
      · rw [h, but_at]
      · exact absurd h c2
      · exact absurd h c3
theorem b3_eq (h : ∀ a, a ≠ q → a ≠ kd → a ≠ fd → H a = H' a) : B3 q kd fd H = B3 q kd fd H' := by
  funext a
  by_cases c : a = q ∨ a = kd ∨ a = fd
  · rw [b3_at c, b3_at c]
  · have c1 : a ≠ q := fun e => c (.inl e)
    have c2 : a ≠ kd := fun e => c (.inr (.inl e))
    have c3 : a ≠ fd := fun e => c (.inr (.inr e))
    rw [b3_ne c1 c2 c3, b3_ne c1 c2 c3]
    exact h a c1 c2 c3
theorem b3_q {o : HO} : B3 q kd fd (upd H q o) = B3 q kd fd H := b3_eq fun a h _ _ => upd_ne h
theorem b3_k {o : HO} : B3 q kd fd (upd H kd o) = B3 q kd fd H := b3_eq fun a _ h _ => upd_ne h
theorem b3_f {o : HO} : B3 q kd fd (upd H fd o) = B3 q kd fd H := b3_eq fun a _ _ h => upd_ne h
theorem b3_no {a : Addr} {u : HO} (h : B3 q kd fd H a = some u) : a ≠ q ∧ a ≠ kd ∧ a ≠ fd := by
  refine ⟨fun e => ?_, fun e => ?_, fun e => ?_⟩
  · rw [b3_at (.inl e)] at h
    cases h
  · rw [b3_at (.inr (.inl e))] at h
    cases h
  · rw [b3_at (.inr (.inr e))] at h
    cases h
theorem b3_to {o : HO} : Same (B3 q kd fd H) (upd H q o) := fun a u h => by
  rw [upd_ne (b3_no h).1]
  exact b3_same _ _ h
end
section
variable {K : PySem.W.Frag} {ν κ : Type} [DecidableEq ν] [DecidableEq κ] (M : NodeM K ν κ)
theorem NodeM.but3 {H : Hp} {q kd fd : Addr} {v : V} {n : ν} (h : M.NV H v n) (h1 : ∀ xs, H q ≠ some (.tup xs)) (h2 : ∀ xs, H kd ≠ some (.tup xs)) (h3 : ∀ xs, H fd ≠ some (.tup xs)) : M.NV (B3 q kd fd H) v n := by
  unfold B3
  refine M.but (M.but (M.but h h1) fun xs e => ?_) fun xs e => ?_
  · exact h2 xs (but_same _ _ e)
  · exact h3 xs (but_same _ _ (but_same _ _ e))
/-! the readings -/
def lpIn (K : PySem.W.Frag) : TS := tSeq (tAsg (tTup (tCons (tOp (rI0 fun i j => V.int (i + j)) (tVar 3) (tVar 10)) (tCons (tOp (rI0 fun i j => V.int (i + j)) (tVar 7) (tC (V.int 1))) tNil))) (gName 11))
  (tIfS (tTest (tOp (rLeT K) (tVar 11) (tDGet2 (tVar 5) (tVar 9) (tVar 11))))
    (tSeq (sDPut (tVar 5) (tVar 9) (tVar 11)) (tDrop (tCB (rHPush K) (tCons (tVar 4) (tCons (tTup (tCons (tOp (rI0 fun i j => V.int (i + j)) (tVar 3) (tVar 10)) (tCons (tOp (rI0 fun i j => V.int (i + j)) (tVar 7) (tC (V.int 1))) (tCons (tOp rCat (tVar 8) (tLst (tCons (tVar 9) tNil))) tNil)))) tNil))))) tNext)
def lpFor (K : PySem.W.Frag) : TS := tFor (iList K (tDGet (tVar 0) (tVar 2))) (gTup K 2 (gCons (gName 9) (gCons (gName 10) gNil))) (lpIn K)
def lpBody (K : PySem.W.Frag) : TS := tSeq (tAsg (tCB (rHPop K) (tCons (tVar 4) tNil)) (gTup K 3 (gCons (gName 3) (gCons (gName 7) (gCons (gName 8) gNil)))))
  (tSeq (tAsg (tOp (rIxL K) (tVar 8) (tUn (rU fun i => V.int (-i)) (tC (V.int 1)))) (gName 2))
    (tSeq (tIfS (tB (tDIn (tVar 2) (tVar 6))) tCont tNext) (tSeq (sDPut (tVar 6) (tVar 2) (tTup (tCons (tVar 3) (tCons (tVar 7) (tCons (tVar 8) tNil))))) (lpFor K))))
def lpLoop (K : PySem.W.Frag) : TS := tSeq (tWhile (fun σ H Q => tVar 4 σ H fun x H' => ∃ k, TruV K x H' k ∧ Q k H') (lpBody K)) (tRet (tVar 6))
/-- what the dict of known sizes tells -/
def NodeM.KnAt (H : Hp) (kvk : List (κ × V)) (Kn : ν → Option (Int × Nat)) : Prop := ∀ v, (Kn v = none ∧ valV kvk (M.key v) = none) ∨ ∃ R t c, Kn v = some (t, c) ∧ valV kvk (M.key v) = some (.ref R) ∧ H R = some (.tup [.int t, .int (c : Nat)])
/-- the dict of what is found -/
def NodeM.FdAt (H : Hp) (F : List (ν × Pth ν)) (kvf : List (κ × V)) : Prop := Paired (fun (f : ν × Pth ν) (kv : κ × V) => kv.1 = M.key f.1 ∧ M.PV H kv.2 f.2) F kvf
variable {M}
theorem NodeM.KnAt.to {H H' : Hp} {kvk : List (κ × V)} {Kn : ν → Option (Int × Nat)} (h : M.KnAt H kvk Kn) (s : Same H H') : M.KnAt H' kvk Kn := fun v => (h v).elim .inl fun ⟨R, t, c, h1, h2, h3⟩ => .inr ⟨R, t, c, h1, h2, s _ _ h3⟩
theorem NodeM.FdAt.to {H H' : Hp} {F : List (ν × Pth ν)} {kvf : List (κ × V)} (h : M.FdAt H F kvf) (s : Same H H') : M.FdAt H' F kvf := by
  unfold NodeM.FdAt at h ⊢
  induction h with
  | nil => exact .nil
  | cons h t ih => exact .cons ⟨h.1, h.2.to s⟩ ih
theorem NodeM.FdAt.len {H : Hp} {F : List (ν × Pth ν)} {kvf : List (κ × V)} (h : M.FdAt H F kvf) : F.length = kvf.length := Paired.length h
theorem NodeM.FdAt.snoc {H : Hp} {F : List (ν × Pth ν)} {kvf : List (κ × V)} (h : M.FdAt H F kvf) {f : ν × Pth ν} {kv : κ × V} (k : kv.1 = M.key f.1 ∧ M.PV H kv.2 f.2) : M.FdAt H (F ++ [f]) (kvf ++ [kv]) := by
  unfold NodeM.FdAt at h ⊢
  induction h with
  | nil => exact .cons k .nil
  | cons h t ih => exact .cons h ih
theorem NodeM.FdAt.keys {H : Hp} {F : List (ν × Pth ν)} {kvf : List (κ × V)} (h : M.FdAt H F kvf) : kvf.map (·.1) = F.map fun f => M.key f.1 := by
  unfold NodeM.FdAt at h
  induction h with
  | nil => rfl
  | cons h t ih => rw [List.map_cons, List.map_cons, ih, h.1]
theorem valV_someG {κ : Type} [DecidableEq κ] {kvs : List (κ × V)} {k : κ} : (valV kvs k).isSome = true ↔ k ∈ kvs.map (·.1) := by
  unfold valV
  rw [Option.isSome_map, List.find?_isSome]
  constructor
  · rintro ⟨x, hx, e⟩
    exact List.mem_map.mpr ⟨x, hx, of_decide_eq_true e⟩
  · intro h
    obtain ⟨x, hx, e⟩ := List.mem_map.mp h
    exact ⟨x, hx, decide_eq_true e⟩
theorem NodeM.FdAt.has {H : Hp} {F : List (ν × Pth ν)} {kvf : List (κ × V)} (h : M.FdAt H F kvf) {n : ν} : (valV kvf (M.key n)).isSome = true ↔ ∃ g ∈ F, g.1 = n := by
  rw [valV_someG, h.keys]
  constructor
  · intro z
    obtain ⟨g, hg, e⟩ := List.mem_map.mp z
    exact ⟨g, hg, M.inj _ _ e⟩
  · rintro ⟨g, hg, rfl⟩
    exact List.mem_map.mpr ⟨g, hg, rfl⟩
theorem putK_newG {κ : Type} [DecidableEq κ] {kvs : List (κ × V)} {k : κ} {v : V} (h : k ∉ kvs.map (·.1)) : putK kvs k v = kvs ++ [(k, v)] := by
  have e : (kvs.any fun kv => decide (kv.1 = k)) = false := by
    rw [Bool.eq_false_iff]
    intro z
    obtain ⟨x, hx, ex⟩ := List.any_eq_true.mp z
    exact h (List.mem_map.mpr ⟨x, hx, of_decide_eq_true ex⟩)
  unfold putK
  rw [e, if_neg Bool.false_ne_true]
theorem putK_lenG {κ : Type} [DecidableEq κ] {kvs : List (κ × V)} {k : κ} {v : V} : (putK kvs k v).length ≤ kvs.length + 1 := by
  unfold putK
  split
  · rw [List.length_map]
    exact Nat.le_succ _
  · rw [List.length_append]
    exact Nat.le_refl _
theorem atI_lastG {xs : List V} {x : V} (h : xs.getLast? = some x) : atI xs (-1) = some x := by
  have hl : 1 ≤ xs.length := by
    cases xs with
    | nil => cases h
    | cons a l => exact Nat.succ_le_succ (Nat.zero_le _)
  have e : ixN xs.length (-1) = some (xs.length - 1) := by
    unfold ixN
    rw [if_neg (by omega), if_pos (by omega)]
    congr 1
    omega
  unfold atI
  rw [e]
  rw [List.getLast?_eq_getElem?] at h
  exact h
variable (M)
/-- what holds while the search goes on -/
structure LpI (S : List (ν × Int)) (A : ν → List (ν × Int)) (U : List ν) (N0 : Nat) (q kd fd : Addr) (H0 : Hp) (cur : Option ν) (j r mb : Nat) (F : List (ν × Pth ν)) (H : Hp) : Prop where
  s : Same (B3 q kd fd H0) (B3 q kd fd H)
  ex : ∃ (cs : List (HB × (ν × Pth ν))) (kvk kvf : List (κ × V)) (Kn : ν → Option (Int × Nat)), H q = some (.lst (cs.map fun c => c.1.1)) ∧ H kd = some (M.di kvk) ∧ H fd = some (M.di kvf) ∧
    (∀ c ∈ cs, M.PV (B3 q kd fd H) c.1.1 c.2.2 ∧ c.1.2 = M.trip c.2.2 ∧ c.2.2.2.length ≤ F.length + 1) ∧ HqM.HeapAt hlt 0 (cs.map (·.1)) ∧ DjI M.lt S A F (cs.map (·.2)) Kn cur j ∧ M.FdAt (B3 q kd fd H) F kvf ∧ M.KnAt (B3 q kd fd H) kvk Kn ∧
    cs.length + wS A (F.map (·.1)) U + r ≤ mb ∧ kvk.length + wS A (F.map (·.1)) U + r ≤ N0
  fl : F.length + wS A (F.map (·.1)) U ≤ N0
  pl : ∀ f ∈ F, f.2.2.length ≤ F.length
end
/-! ### the turns of the search -/
section
variable {K : PySem.W.Frag} {ν κ : Type} [DecidableEq ν] [DecidableEq κ]
/-- the graph, and where it stands -/
structure LpG (M : NodeM K ν κ) (S : List (ν × Int)) (A : ν → List (ν × Int)) (U : List ν) (N0 : Nat) (q kd fd ad : Addr) (H0 : Hp) : Prop where
  su : ∀ s ∈ S, s.1 ∈ U
  au : ∀ u ∈ U, ∀ a ∈ A u, a.1 ∈ U
  w : ∀ u a, a ∈ A u → 1 ≤ a.2
  n0 : N0 ≤ 1000000
  qk : q ≠ kd
  qf : q ≠ fd
  kf : kd ≠ fd
  arc : ∃ kva, B3 q kd fd H0 ad = some (M.di kva) ∧ ∀ u ∈ U, ∃ row ts, valV kva (M.key u) = some (.ref row) ∧ B3 q kd fd H0 row = some (.lst ts) ∧ M.AR (B3 q kd fd H0) ts (A u)
variable {M : NodeM K ν κ} {S : List (ν × Int)} {A : ν → List (ν × Int)} {U : List ν} {N0 : Nat} {q kd fd ad : Addr} {H0 : Hp}
theorem LpG.inU (G : LpG M S A U N0 q kd fd ad H0) {v : ν} {x : Pth ν} (h : IsP S A v x) : v ∈ U := by
  induction h with
  | start h => exact G.su _ h
  | step h a ih => exact G.au _ ih _ a
theorem hqOk_of {H : Hp} {cs : List (HB × (ν × Pth ν))} (h : ∀ c ∈ cs, M.PV (B3 q kd fd H) c.1.1 c.2.2 ∧ c.1.2 = M.trip c.2.2) : HqOk K H q (cs.map (·.1)) := by
  refine ⟨fun b hb o => ?_, fun b hb => ?_, fun b hb => ?_, fun b hb c hc => ?_⟩
  · obtain ⟨c, hc, rfl⟩ := List.mem_map.mp hb
    obtain ⟨h1, h2⟩ := h c hc
    rw [h2]
    exact Dp.to h1.dp b3_to
  · obtain ⟨c, hc, rfl⟩ := List.mem_map.mp hb
    rw [(h c hc).2]
    exact Nat.le_trans (M.dep_trip _) (by decide)
  · obtain ⟨c, hc, rfl⟩ := List.mem_map.mp hb
    rw [(h c hc).2]
    intro z
    cases z
  · obtain ⟨c1, hc1, rfl⟩ := List.mem_map.mp hb
    obtain ⟨c2, hc2, rfl⟩ := List.mem_map.mp hc
    rw [(h c1 hc1).2, (h c2 hc2).2]
    exact M.al_trip _ _
theorem map2_fst {α β γ : Type} {cs : List ((α × β) × γ)} : (cs.map (·.1)).map (·.1) = cs.map fun c => c.1.1 := by
  rw [List.map_map]
  rfl
theorem ne_ofN {H : Hp} {a b : Addr} {u : HO} (h : H a = some u) (n : H b = none) : a ≠ b := fun e => by
  rw [e, n] at h
  cases h
/-- one arc -/
theorem lpIn_ok (G : LpG M S A U N0 q kd fd ad H0) {e : ν × Pth ν} {F : List (ν × Pth ν)} (he : e ∈ F) {j r mb : Nat} (hmb : mb ≤ N0) {a : ν × Int} (ha : (A e.1)[j]? = some a) {H : Hp} (h : LpI M S A U N0 q kd fd H0 (some e.1) j (r + 1) mb F H) {P : Addr} {vs : List V} (hP : B3 q kd fd H P = some (.lst vs)) (hvs : M.NVs (B3 q kd fd H) vs e.2.2) {v : V} (hv : M.NV (B3 q kd fd H) v a.1) {D : Ends} {x1 x2 x11 : Option V}
    (k : ∀ x11 H', LpI M S A U N0 q kd fd H0 (some e.1) (j + 1) r mb F H' → Same (B3 q kd fd H) (B3 q kd fd H') → D.nx [some (.ref ad), x1, x2, some (.int e.2.1), some (.ref q), some (.ref kd), some (.ref fd), some (.int (e.2.2.length : Nat)), some (.ref P), some v, some (.int a.2), x11] H') :
    lpIn K D [some (.ref ad), x1, x2, some (.int e.2.1), some (.ref q), some (.ref kd), some (.ref fd), some (.int (e.2.2.length : Nat)), some (.ref P), some v, some (.int a.2), x11] H := by
  obtain ⟨s0, ⟨cs, kvk, kvf, Kn, hq, hk, hf, hc, hh, hd, hF, hKn, hb1, hb2⟩, fl, plen⟩ := h
  have n0 := G.n0
  unfold lpIn
  refine q_asgTup (va_cons (vl_I0 (g := fun i j => .int (i + j)) (vl_var rfl) (vl_var rfl)) (va_cons (vl_I0 (g := fun i j => .int (i + j)) (vl_var rfl) vl_c) va_nil)) (by show 2 ≤ sizeLine; decide) fun Z nZ => ?_
  have sZ := same_upd (o := .tup [V.int (e.2.1 + a.2), V.int ((e.2.2.length : Int) + 1)]) nZ
  have eZ := upd_same (H := H) (a := Z) (o := .tup [V.int (e.2.1 + a.2), V.int ((e.2.2.length : Int) + 1)])
  have Zq : Z ≠ q := fun z => ne_ofN hq nZ z.symm
  have Zk : Z ≠ kd := fun z => ne_ofN hk nZ z.symm
  have Zf : Z ≠ fd := fun z => ne_ofN hf nZ z.symm
  generalize upd H Z (.tup [V.int (e.2.1 + a.2), V.int ((e.2.2.length : Int) + 1)]) = H1 at sZ eZ
  have s1 : Same (B3 q kd fd H) (B3 q kd fd H1) := b3_mono sZ
  have hq1 := sZ _ _ hq
  have hk1 := sZ _ _ hk
  have hf1 := sZ _ _ hf
  have hv1 : M.NV H1 v a.1 := M.to hv (s1.trans b3_same)
  have eZ1 : B3 q kd fd H1 Z = some (.tup [V.int (e.2.1 + a.2), V.int ((e.2.2.length : Int) + 1)]) := by rw [b3_ne Zq Zk Zf]; exact eZ
  have klen : kvk.length < sizeLine := Nat.lt_of_le_of_lt (m := 1000000) (by omega) (by decide)
  -- the test
  have test : ∃ b, An (tTest (tOp (rLeT K) (tVar 11) (tDGet2 (tVar 5) (tVar 9) (tVar 11)))) [some (.ref ad), x1, x2, some (.int e.2.1), some (.ref q), some (.ref kd), some (.ref fd), some (.int (e.2.2.length : Nat)), some (.ref P), some v, some (.int a.2), some (.ref Z)] H1 b ∧
      (b = false → ∃ kk, Kn a.1 = some kk ∧ (kk.1 < e.2.1 + a.2 ∨ (kk.1 = e.2.1 + a.2 ∧ kk.2 < e.2.2.length + 1))) := by
    rcases hKn a.1 with ⟨k1, k2⟩ | ⟨R, t0, c0, k1, k2, k3⟩
    · refine ⟨true, fun Q kq => ⟨.ref Z, rfl, .ref kd, rfl, kd, rfl, M.isD hk1, v, rfl, .ref Z, rfl, _, M.get hv1 hk1, ?_⟩, fun z => nomatch z⟩
      rw [k2]
      refine ⟨Z, Z, [e.2.1 + a.2, (e.2.2.length : Int) + 1], [e.2.1 + a.2, (e.2.2.length : Int) + 1], rfl, rfl, .of eZ, .of eZ, _, rfl, ?_⟩
      rw [lexAt2, decide_eq_true (.inr ⟨rfl, Int.le_refl _⟩)]
      exact kq
    · have eR : H1 R = some (.tup [.int t0, .int (c0 : Nat)]) := sZ _ _ (b3_same _ _ k3)
      refine ⟨decide (e.2.1 + a.2 < t0 ∨ (e.2.1 + a.2 = t0 ∧ (e.2.2.length : Int) + 1 ≤ (c0 : Int))), fun Q kq => ⟨.ref Z, rfl, .ref kd, rfl, kd, rfl, M.isD hk1, v, rfl, .ref Z, rfl, _, M.get hv1 hk1, ?_⟩, fun z => ⟨(t0, c0), k1, ?_⟩⟩
      · rw [k2]
        refine ⟨Z, R, [e.2.1 + a.2, (e.2.2.length : Int) + 1], [t0, (c0 : Int)], rfl, rfl, .of eZ, .of eR, _, rfl, ?_⟩
        rw [lexAt2]
        exact kq
      · have := of_decide_eq_false z
        dsimp only
        omega
  obtain ⟨b, hb, hbf⟩ := test
  refine g_when hb (fun eb => ?_) (fun eb => ?_)
  · -- better: known, and into the queue
    refine ⟨.ref Z, rfl, .ref kd, rfl, v, rfl, kd, _, rfl, M.put hv1 hk1 klen, ?_⟩
    have hq2 : upd H1 kd (M.di (putK kvk (M.key a.1) (.ref Z))) q = some (.lst (cs.map fun c => c.1.1)) := by rw [upd_ne G.qk]; exact hq1
    have hf2 : upd H1 kd (M.di (putK kvk (M.key a.1) (.ref Z))) fd = some (M.di kvf) := by rw [upd_ne (fun z => G.kf z.symm)]; exact hf1
    have hk2 := upd_same (H := H1) (a := kd) (o := M.di (putK kvk (M.key a.1) (.ref Z)))
    have e2 : B3 q kd fd (upd H1 kd (M.di (putK kvk (M.key a.1) (.ref Z)))) = B3 q kd fd H1 := b3_k
    generalize upd H1 kd (M.di (putK kvk (M.key a.1) (.ref Z))) = H2 at hq2 hf2 hk2 e2
    have s2 : Same (B3 q kd fd H) (B3 q kd fd H2) := by rw [e2]; exact s1
    have hP2 : H2 P = some (.lst vs) := b3_same _ _ (s2 _ _ hP)
    refine ⟨.ref q, rfl, (vl_I0 (g := fun i j => .int (i + j)) (vl_var rfl) (vl_var rfl)) _ ((vl_I0 (g := fun i j => .int (i + j)) (vl_var rfl) vl_c) _ ⟨.ref P, rfl, v, rfl, by show 1 ≤ sizeLine; decide, fun L nL => ?_⟩)⟩
    have sL := same_upd (o := .lst [v]) nL
    have eL := upd_same (H := H2) (a := L) (o := .lst [v])
    generalize upd H2 L (.lst [v]) = H3 at sL eL
    have vl : vs.length ≤ 1000000 := by
      rw [hvs.len]
      have := plen e he
      omega
    refine ⟨P, L, vs, [v], rfl, rfl, sL _ _ hP2, eL, Nat.le_trans (m := 1000001) (by show vs.length + 1 ≤ _; omega) (by decide), fun P2 nP2 => ?_⟩
    have sP := same_upd (o := .lst (vs ++ [v])) nP2
    have eP := upd_same (H := H3) (a := P2) (o := .lst (vs ++ [v]))
    have qP : P2 ≠ q := fun z => ne_ofN (sL _ _ hq2) nP2 z.symm
    have kP : P2 ≠ kd := fun z => ne_ofN (sL _ _ hk2) nP2 z.symm
    have fP : P2 ≠ fd := fun z => ne_ofN (sL _ _ hf2) nP2 z.symm
    generalize upd H3 P2 (.lst (vs ++ [v])) = H4 at sP eP
    refine ⟨by show 3 ≤ sizeLine; decide, fun T nT => ?_⟩
    have sT := same_upd (o := .tup [V.int (e.2.1 + a.2), V.int ((e.2.2.length : Int) + 1), .ref P2]) nT
    have eT := upd_same (H := H4) (a := T) (o := .tup [V.int (e.2.1 + a.2), V.int ((e.2.2.length : Int) + 1), .ref P2])
    have qT : T ≠ q := fun z => ne_ofN (sP _ _ (sL _ _ hq2)) nT z.symm
    have kT : T ≠ kd := fun z => ne_ofN (sP _ _ (sL _ _ hk2)) nT z.symm
    have fT : T ≠ fd := fun z => ne_ofN (sP _ _ (sL _ _ hf2)) nT z.symm
    generalize upd H4 T (.tup [V.int (e.2.1 + a.2), V.int ((e.2.2.length : Int) + 1), .ref P2]) = H5 at sT eT
    have s25 : Same H2 H5 := sL.trans (sP.trans sT)
    have sB : Same (B3 q kd fd H) (B3 q kd fd H5) := s2.trans (b3_mono s25)
    have eT5 : B3 q kd fd H5 T = some (.tup [V.int (e.2.1 + a.2), V.int ((e.2.2.length : Int) + 1), .ref P2]) := by rw [b3_ne qT kT fT]; exact eT
    have eP5 : B3 q kd fd H5 P2 = some (.lst (vs ++ [v])) := by rw [b3_ne qP kP fP]; exact sT _ _ eP
    have eZ5 : B3 q kd fd H5 Z = some (.tup [V.int (e.2.1 + a.2), V.int ((e.2.2.length : Int) + 1)]) := (b3_mono s25) _ _ (by rw [e2]; exact eZ1)
    have pv5 : M.PV (B3 q kd fd H5) (.ref T) (ext e.2 a.1 a.2) := by
      refine ⟨T, P2, vs ++ [v], rfl, ?_, eP5, (hvs.to sB).app (M.to hv sB)⟩
      rw [eT5]
      show _ = some (HO.tup [V.int (e.2.1 + a.2), V.int (((e.2.2 ++ [a.1]).length : Nat) : Int), .ref P2])
      rw [List.length_append]
      rfl
    have hq5 := s25 _ _ hq2
    have hk5 := s25 _ _ hk2
    have hf5 := s25 _ _ hf2
    have hc5 : ∀ c ∈ cs ++ [((V.ref T, M.trip (ext e.2 a.1 a.2)), (a.1, ext e.2 a.1 a.2))], M.PV (B3 q kd fd H5) c.1.1 c.2.2 ∧ c.1.2 = M.trip c.2.2 ∧ c.2.2.2.length ≤ F.length + 1 := fun c hm => by
      rcases List.mem_append.mp hm with hm | hm
      · obtain ⟨c1, c2, c3⟩ := hc c hm
        exact ⟨c1.to sB, c2, c3⟩
      · rw [List.mem_singleton.mp hm]
        refine ⟨pv5, rfl, ?_⟩
        show (e.2.2 ++ [a.1]).length ≤ _
        rw [List.length_append]
        have := plen e he
        exact Nat.succ_le_succ this
    refine ⟨q, cs.map (·.1), (.ref T, M.trip (ext e.2 a.1 a.2)), rfl, by rw [map2_fst]; exact hq5, by rw [List.length_map]; exact Nat.lt_of_le_of_lt (m := 1000000) (by omega) (by decide), ?_, hh, fun bs' hperm hheap => ?_⟩
    · have := hqOk_of (M := M) (cs := cs ++ [((V.ref T, M.trip (ext e.2 a.1 a.2)), (a.1, ext e.2 a.1 a.2))]) fun c hm => ⟨(hc5 c hm).1, (hc5 c hm).2.1⟩
      rw [List.map_append] at this
      exact this
    · obtain ⟨cs', hp', rfl⟩ := perm_map_inv hperm (f := fun c : HB × (ν × Pth ν) => c.1) (l := cs ++ [((V.ref T, M.trip (ext e.2 a.1 a.2)), (a.1, ext e.2 a.1 a.2))]) (by rw [List.map_append]; rfl)
      have e6 : B3 q kd fd (upd H5 q (.lst ((cs'.map (·.1)).map (·.1)))) = B3 q kd fd H5 := b3_q
      have pl := hp'.length_eq
      rw [List.length_append] at pl
      have pl : cs'.length = cs.length + 1 := pl
      refine k _ _ ⟨by rw [e6]; exact s0.trans sB, ⟨cs', putK kvk (M.key a.1) (.ref Z), kvf, fun u => if u = a.1 then some (e.2.1 + a.2, e.2.2.length + 1) else Kn u, ?_, ?_, ?_, fun c hm => ?_, hheap, ?_, ?_, fun u => ?_, by omega, ?_⟩, fl, plen⟩ (by rw [e6]; exact sB)
      · rw [upd_same, map2_fst]
      · rw [upd_ne (fun z => G.qk z.symm)]
        exact hk5
      · rw [upd_ne (fun z => G.qf z.symm)]
        exact hf5
      · rw [e6]
        exact hc5 c (hp'.mem_iff.mp hm)
      · refine hd.push M.lin he ha ?_ (fun u => rfl)
        have := hp'.map (·.2)
        rw [List.map_append] at this
        exact this
      · rw [e6]
        exact hF.to sB
      · rw [e6]
        by_cases c : u = a.1
        · subst c
          exact .inr ⟨Z, e.2.1 + a.2, e.2.2.length + 1, if_pos rfl, by rw [valV_put, if_pos rfl], eZ5⟩
        · dsimp only
          rw [if_neg c, valV_put, if_neg (fun z => c (M.inj _ _ z))]
          rcases hKn u with h | ⟨R, t, c', h1, h2, h3⟩
          · exact .inl h
          · exact .inr ⟨R, t, c', h1, h2, sB _ _ h3⟩
      · have := putK_lenG (kvs := kvk) (k := M.key a.1) (v := .ref Z)
        omega
  · -- nothing
    obtain ⟨kk, h1, h2⟩ := hbf eb
    exact k _ _ ⟨s0.trans s1, ⟨cs, kvk, kvf, Kn, hq1, hk1, hf1, fun c hm => ⟨(hc c hm).1.to s1, (hc c hm).2⟩, hh, hd.skip M.lin he ha h1 h2, hF.to s1, hKn.to s1, by omega, by omega⟩, fl, plen⟩ s1
/-- one turn: the least entry -/
theorem lpBody_ok (G : LpG M S A U N0 q kd fd ad H0) {F : List (ν × Pth ν)} {mb : Nat} (hmb : mb ≤ N0) {H : Hp} (h : LpI M S A U N0 q kd fd H0 none 0 0 mb F H) (hne : H q ≠ some (.lst [])) {D : Ends} {x1 x2 x3 x7 x8 x9 x10 x11 : Option V}
    (k : ∀ (x2 x3 x7 x8 x9 x10 x11 : Option V) H' F' m', m' < mb → LpI M S A U N0 q kd fd H0 none 0 0 m' F' H' → D.nx [some (.ref ad), x1, x2, x3, some (.ref q), some (.ref kd), some (.ref fd), x7, x8, x9, x10, x11] H' ∧ D.ct [some (.ref ad), x1, x2, x3, some (.ref q), some (.ref kd), some (.ref fd), x7, x8, x9, x10, x11] H') :
    lpBody K D [some (.ref ad), x1, x2, x3, some (.ref q), some (.ref kd), some (.ref fd), x7, x8, x9, x10, x11] H := by
  obtain ⟨s0, ⟨cs, kvk, kvf, Kn, hq, hk, hf, hc, hh, hd, hF, hKn, hb1, hb2⟩, fl, plen⟩ := h
  have n0 := G.n0
  have csne : cs ≠ [] := fun z => hne (by rw [hq, z]; rfl)
  unfold lpBody
  refine ⟨.ref q, rfl, q, cs.map (·.1), rfl, by rw [map2_fst]; exact hq, fun z => csne (List.map_eq_nil_iff.mp z), hqOk_of (M := M) fun c hm => ⟨(hc c hm).1, (hc c hm).2.1⟩, hh, fun b bs' hperm hmin hheap => ?_⟩
  obtain ⟨cs', hp', ecs⟩ := perm_map_inv hperm (f := fun c : HB × (ν × Pth ν) => c.1) (l := cs) rfl
  obtain ⟨c0, cs1, rfl, eb, e1⟩ : ∃ c0 cs1, cs' = c0 :: cs1 ∧ b = c0.1 ∧ bs' = cs1.map (·.1) := by
    cases cs' with
    | nil => cases ecs
    | cons c0 cs1 => exact ⟨c0, cs1, rfl, (List.cons.inj ecs).1, (List.cons.inj ecs).2⟩
  subst eb e1
  have hm0 : c0 ∈ cs := hp'.mem_iff.mp List.mem_cons_self
  have pl := hp'.length_eq
  have pl : cs1.length + 1 = cs.length := pl
  obtain ⟨⟨T, P, vs, hT0, hT, hPl, hvs⟩, ht, hl⟩ := hc c0 hm0
  have e6 : B3 q kd fd (upd H q (.lst ((cs1.map (·.1)).map (·.1)))) = B3 q kd fd H := b3_q
  have hq6 : upd H q (.lst ((cs1.map (·.1)).map (·.1))) q = some (.lst (cs1.map fun c => c.1.1)) := by rw [upd_same, map2_fst]
  have hk6 : upd H q (.lst ((cs1.map (·.1)).map (·.1))) kd = some (M.di kvk) := by rw [upd_ne (fun z => G.qk z.symm)]; exact hk
  have hf6 : upd H q (.lst ((cs1.map (·.1)).map (·.1))) fd = some (M.di kvf) := by rw [upd_ne (fun z => G.qf z.symm)]; exact hf
  generalize upd H q (.lst ((cs1.map (·.1)).map (·.1))) = H1 at e6 hq6 hk6 hf6
  have sB1 : ∀ {x u}, B3 q kd fd H x = some u → H1 x = some u := fun {x u} z => b3_same _ _ (by rw [e6]; exact z)
  rw [hT0]
  refine ⟨T, _, rfl, .of (sB1 hT), rfl, _, _, rfl, _, _, rfl, _, _, rfl, rfl, ?_⟩
  refine nx_of ?_
  have pth : IsP S A c0.2.1 c0.2.2 := hd.qp c0.2 (List.mem_map.mpr ⟨c0, hm0, rfl⟩)
  obtain ⟨v, hvl, hv⟩ := hvs.last pth.last
  have hv1 : M.NV H1 v c0.2.1 := M.to hv fun x u z => sB1 z
  refine q_asg (v := v) (vl_ixL (K := K) (vl_var rfl) (vl_neg vl_c) (.of (sB1 hPl)) (atI_lastG hvl)) ?_
  have an : An (tB (tDIn (tVar 2) (tVar 6))) [some (.ref ad), x1, some v, some (.int c0.2.2.1), some (.ref q), some (.ref kd), some (.ref fd), some (.int (c0.2.2.2.length : Nat)), some (.ref P), x9, x10, x11] H1 (valV kvf (M.key c0.2.1)).isSome := fun Q kq => ⟨v, rfl, .ref fd, rfl, fd, _, rfl, M.get hv1 hf6, _, rfl, kq⟩
  have hpm := hp'.map (·.2)
  refine q_when an (fun eb => ?_) (fun eb => ?_)
  · -- found already
    have hin := hF.has.mp eb
    refine (k _ _ _ _ _ _ _ H1 F (mb - 1) (by omega) ⟨by rw [e6]; exact s0, ⟨cs1, kvk, kvf, Kn, hq6, hk6, hf6, fun c hm => ?_, hheap, hd.drop hpm hin, by rw [e6]; exact hF, by rw [e6]; exact hKn, by omega, by omega⟩, fl, plen⟩).2
    rw [e6]
    exact hc c (hp'.mem_iff.mp (List.mem_cons_of_mem _ hm))
  · -- new
    have hnew : ¬ ∃ g ∈ F, g.1 = c0.2.1 := fun z => by
      rw [hF.has.mpr z] at eb
      cases eb
    have hU := G.inU pth
    have hmin' : ∀ c ∈ cs1.map (·.2), elt M.lt c.2 c0.2.2 = false := fun c hm => by
      obtain ⟨d, hd', rfl⟩ := List.mem_map.mp hm
      have z := hmin d.1 (List.mem_map.mpr ⟨d, hd', rfl⟩)
      have e3 := (hc d (hp'.mem_iff.mp (List.mem_cons_of_mem _ hd'))).2.1
      unfold hlt at z
      rw [e3, ht, M.lt_trip] at z
      exact z
    have hd2 := hd.find M.lin G.w hpm hmin' hnew
    have ws := wS_step (A := A) (F := F.map (·.1)) (v := c0.2.1) (fun z => by
      obtain ⟨g, hg, e⟩ := List.mem_map.mp z
      exact hnew ⟨g, hg, e⟩) U hU
    have eF : (F ++ [c0.2]).map (·.1) = F.map (·.1) ++ [c0.2.1] := by rw [List.map_append]; rfl
    have lF : (F ++ [c0.2]).length = F.length + 1 := by rw [List.length_append]; rfl
    -- found[node] = (total, count, path)
    refine ⟨.int c0.2.2.1, rfl, .int (c0.2.2.2.length : Nat), rfl, .ref P, rfl, by show 3 ≤ sizeLine; decide, fun T2 nT2 => ?_⟩
    have sT2 := same_upd (o := .tup [V.int c0.2.2.1, V.int (c0.2.2.2.length : Nat), .ref P]) nT2
    have eT2 := upd_same (H := H1) (a := T2) (o := .tup [V.int c0.2.2.1, V.int (c0.2.2.2.length : Nat), .ref P])
    have qT : T2 ≠ q := fun z => ne_ofN hq6 nT2 z.symm
    have kT : T2 ≠ kd := fun z => ne_ofN hk6 nT2 z.symm
    have fT : T2 ≠ fd := fun z => ne_ofN hf6 nT2 z.symm
    generalize upd H1 T2 (.tup [V.int c0.2.2.1, V.int (c0.2.2.2.length : Nat), .ref P]) = H2 at sT2 eT2
    have hq2 := sT2 _ _ hq6
    have hk2 := sT2 _ _ hk6
    have hf2 := sT2 _ _ hf6
    have s2 : Same (B3 q kd fd H) (B3 q kd fd H2) := by
      rw [← e6]
      exact b3_mono sT2
    have kfl := hF.len
    refine ⟨.ref fd, rfl, v, rfl, fd, _, rfl, M.put (M.to hv1 sT2) hf2 (Nat.lt_of_le_of_lt (m := 1000000) (by omega) (by decide)), ?_⟩
    have knew : M.key c0.2.1 ∉ kvf.map (·.1) := fun z => by
      rw [hF.keys] at z
      obtain ⟨g, hg, e⟩ := List.mem_map.mp z
      exact hnew ⟨g, hg, M.inj _ _ e⟩
    rw [putK_newG knew]
    have e7 : B3 q kd fd (upd H2 fd (M.di (kvf ++ [(M.key c0.2.1, V.ref T2)]))) = B3 q kd fd H2 := b3_f
    have hq7 : upd H2 fd (M.di (kvf ++ [(M.key c0.2.1, V.ref T2)])) q = some (.lst (cs1.map fun c => c.1.1)) := by rw [upd_ne G.qf]; exact hq2
    have hk7 : upd H2 fd (M.di (kvf ++ [(M.key c0.2.1, V.ref T2)])) kd = some (M.di kvk) := by rw [upd_ne G.kf]; exact hk2
    have hf7 := upd_same (H := H2) (a := fd) (o := M.di (kvf ++ [(M.key c0.2.1, V.ref T2)]))
    generalize upd H2 fd (M.di (kvf ++ [(M.key c0.2.1, V.ref T2)])) = H3 at e7 hq7 hk7 hf7
    have s3 : Same (B3 q kd fd H) (B3 q kd fd H3) := by rw [e7]; exact s2
    have pv3 : M.PV (B3 q kd fd H3) (.ref T2) c0.2.2 := ⟨T2, P, vs, rfl, by rw [e7, b3_ne qT kT fT]; exact eT2, s3 _ _ hPl, hvs.to s3⟩
    have I3 : LpI M S A U N0 q kd fd H0 (some c0.2.1) 0 (A c0.2.1).length (mb - 2) (F ++ [c0.2]) H3 := by
      refine ⟨s0.trans s3, ⟨cs1, kvk, _, Kn, hq7, hk7, hf7, fun c hm => ?_, hheap, hd2, (hF.to s3).snoc ⟨rfl, pv3⟩, hKn.to s3, by rw [eF]; omega, by rw [eF]; omega⟩, by rw [eF, lF]; omega, fun f hf => ?_⟩
      · obtain ⟨h1, h2, h3⟩ := hc c (hp'.mem_iff.mp (List.mem_cons_of_mem _ hm))
        exact ⟨h1.to s3, h2, by rw [lF]; omega⟩
      · rw [lF]
        rcases List.mem_append.mp hf with hf | hf
        · have := plen f hf
          omega
        · rw [List.mem_singleton.mp hf]
          exact hl
    obtain ⟨kva, had, harc⟩ := G.arc
    obtain ⟨row, ts, hrow, hts, hAR⟩ := harc c0.2.1 hU
    have s03 := s0.trans s3
    have v3 : M.NV (B3 q kd fd H3) v c0.2.1 := M.to hv s3
    unfold lpFor
    have vg : Vl (tDGet (tVar 0) (tVar 2)) [some (.ref ad), x1, some v, some (.int c0.2.2.1), some (.ref q), some (.ref kd), some (.ref fd), some (.int (c0.2.2.2.length : Nat)), some (.ref P), x9, x10, x11] H3 (.ref row) := fun Q kq => ⟨.ref ad, rfl, v, rfl, ad, .ref row, rfl, by
      rw [← hrow]
      exact M.get (M.to v3 b3_same) (b3_same _ _ (s03 _ _ had)), kq⟩
    refine vg _ ⟨row, rfl, ⟨ts, .of (b3_same _ _ (s03 _ _ hts))⟩, for_list (K := K) (a := row) (xs := ts) (fun j σ H' => ∃ y9 y10 y11, σ = [some (.ref ad), x1, some v, some (.int c0.2.2.1), some (.ref q), some (.ref kd), some (.ref fd), some (.int (c0.2.2.2.length : Nat)), some (.ref P), y9, y10, y11] ∧ Same (B3 q kd fd H3) (B3 q kd fd H') ∧ LpI M S A U N0 q kd fd H0 (some c0.2.1) j ((A c0.2.1).length - j) (mb - 2) (F ++ [c0.2]) H')
      ⟨_, _, _, rfl, Same.refl _, I3⟩ (fun j σ H' hj hP => ?_) (fun j y σ H' hj hP => ?_) (fun σ H' hP => ?_)⟩
    · obtain ⟨_, _, _, _, s', _⟩ := hP
      exact .of (b3_same _ _ ((s03.trans s') _ _ hts))
    · obtain ⟨y9, y10, y11, rfl, s', I'⟩ := hP
      have jl := (List.getElem?_eq_some_iff.mp hj).1
      rw [hAR.len] at jl
      have ha : (A c0.2.1)[j]? = some ((A c0.2.1)[j]'jl) := List.getElem?_eq_getElem jl
      generalize (A c0.2.1)[j]'jl = a at ha
      obtain ⟨Tr, u, h1, h2, h3⟩ := hAR.get ha
      cases hj.symm.trans h1
      refine ⟨Tr, _, rfl, .of (b3_same _ _ ((s03.trans s') _ _ h2)), rfl, _, _, rfl, _, _, rfl, rfl, ?_⟩
      have er : (A c0.2.1).length - j = ((A c0.2.1).length - (j + 1)) + 1 := by omega
      rw [er] at I'
      exact lpIn_ok G (e := c0.2) (List.mem_append_right _ List.mem_cons_self) (by omega) ha I' (s' _ _ (s3 _ _ hPl)) ((hvs.to s3).to s') (M.to h3 (s03.trans s')) fun y11 H'' I'' s'' => ⟨_, _, _, rfl, s'.trans s'', I''⟩
    · obtain ⟨y9, y10, y11, rfl, s', I'⟩ := hP
      rw [hAR.len, Nat.sub_self] at I'
      obtain ⟨s0', ⟨cs', kvk', kvf', Kn', h1, h2, h3, h4, h5, h6, h7, h8, h9, h10⟩, fl', plen'⟩ := I'
      exact (k _ _ _ _ _ _ _ H' (F ++ [c0.2]) (mb - 2) (by omega) ⟨s0', ⟨cs', kvk', kvf', Kn', h1, h2, h3, h4, h5, h6.done (e := c0.2) (Nat.le_refl _), h7, h8, h9, h10⟩, fl', plen'⟩).1
end
/-! ### the search, whole -/
section
variable {K : PySem.W.Frag} {ν κ : Type} [DecidableEq ν] [DecidableEq κ] (M : NodeM K ν κ)
/-- what is found: the least paths to all nodes that can be reached -/
structure FdOk (S : List (ν × Int)) (A : ν → List (ν × Int)) (F : List (ν × Pth ν)) : Prop where
  fl : ∀ f ∈ F, Lst M.lt S A f.1 f.2
  nd : (F.map (·.1)).Nodup
  all : ∀ v y, IsP S A v y → ∃ g ∈ F, g.1 = v
  len : F.length ≤ 1000000
  pl : ∀ f ∈ F, f.2.2.length ≤ F.length
variable {M} {S : List (ν × Int)} {A : ν → List (ν × Int)} {U : List ν} {N0 : Nat} {q kd fd ad : Addr} {H0 : Hp}
theorem lpLoop_ok (G : LpG M S A U N0 q kd fd ad H0) {H : Hp} (h : LpI M S A U N0 q kd fd H0 none 0 0 N0 [] H) {D : Ends} {x1 x2 x3 x7 x8 x9 x10 x11 : Option V}
    (k : ∀ H' F kvf, Same (B3 q kd fd H0) (B3 q kd fd H') → H' fd = some (M.di kvf) → M.FdAt (B3 q kd fd H') F kvf → FdOk M S A F → D.rt (.ref fd) H') :
    lpLoop K D [some (.ref ad), x1, x2, x3, some (.ref q), some (.ref kd), some (.ref fd), x7, x8, x9, x10, x11] H := by
  have n0 := G.n0
  unfold lpLoop
  refine ⟨fun m σ H => ∃ (x2 x3 x7 x8 x9 x10 x11 : Option V) (F : List (ν × Pth ν)), σ = [some (.ref ad), x1, x2, x3, some (.ref q), some (.ref kd), some (.ref fd), x7, x8, x9, x10, x11] ∧ m ≤ N0 ∧ LpI M S A U N0 q kd fd H0 none 0 0 m F H, ⟨N0, _, _, _, _, _, _, _, [], rfl, Nat.le_refl _, h⟩, fun m σ H hW => ?_⟩
  obtain ⟨x2, x3, x7, x8, x9, x10, x11, F, rfl, hm, I⟩ := hW
  have I0 := I
  obtain ⟨s0, ⟨cs, kvk, kvf, Kn, hq, hk, hf, hc, hh, hd, hF, hKn, hb1, hb2⟩, fl, plen⟩ := I
  refine ⟨.ref q, rfl, _, .inl ⟨_, .of hq, rfl⟩, ?_⟩
  cases cs with
  | nil =>
    rw [if_neg (show ¬ ((!(List.map (fun c : HB × (ν × Pth ν) => c.1.1) []).isEmpty) = true) from Bool.false_ne_true)]
    refine g_ret (vl_var rfl) (k H F kvf s0 hf hF ⟨hd.fl, hd.fn, fun v y p => hd.all M.lin G.w p, by omega, plen⟩)
  | cons c cs =>
    rw [if_pos (show (!(List.map (fun c : HB × (ν × Pth ν) => c.1.1) (c :: cs)).isEmpty) = true from rfl)]
    refine ⟨fun σ' H' => ∃ m', m' < m ∧ ∃ (x2 x3 x7 x8 x9 x10 x11 : Option V) (F : List (ν × Pth ν)), σ' = [some (.ref ad), x1, x2, x3, some (.ref q), some (.ref kd), some (.ref fd), x7, x8, x9, x10, x11] ∧ m' ≤ N0 ∧ LpI M S A U N0 q kd fd H0 none 0 0 m' F H', fun σ' H' h => h, ?_⟩
    refine lpBody_ok G hm I0 (fun z => by rw [hq] at z; cases z) fun x2 x3 x7 x8 x9 x10 x11 H' F' m' hlt I' => ?_
    have : ∃ m'', m'' < m ∧ ∃ (y2 y3 y7 y8 y9 y10 y11 : Option V) (F : List (ν × Pth ν)), ([some (.ref ad), x1, x2, x3, some (.ref q), some (.ref kd), some (.ref fd), x7, x8, x9, x10, x11] : L2.St) = [some (.ref ad), x1, y2, y3, some (.ref q), some (.ref kd), some (.ref fd), y7, y8, y9, y10, y11] ∧ m'' ≤ N0 ∧ LpI M S A U N0 q kd fd H0 none 0 0 m'' F H' := ⟨m', hlt, _, _, _, _, _, _, _, F', rfl, by omega, I'⟩
    exact ⟨this, this⟩
end
/-! nodes that are ints -/
def nodeI (K : PySem.W.Frag) : NodeM K Int L2.Key where
  key := Sum.inl
  inj := fun a b h => Sum.inl.inj h
  di := HO.dK
  noL := fun kvs xs h => nomatch h
  noT := fun kvs xs h => nomatch h
  NV := fun _ v n => v = .int n
  to := fun h _ => h
  but := fun h _ => h
  get := fun {H d v n kvs} h e => by
    subst h
    exact DGet.k (k := Sum.inl n) e
  put := fun {H d v z n kvs} h e l => by
    subst h
    exact DPut.k (k := Sum.inl n) e l
  isD := fun {H d kvs} e => .inl ⟨_, .inl e⟩
  nd := PyData.int
  dp := fun {H v n} h => by
    subst h
    exact .int n
  lt := fun a b => decide (a < b)
  lin := ⟨fun a b h => decide_eq_false (by have := of_decide_eq_true h; omega), fun a b h k => by
    have := of_decide_eq_false h
    have := of_decide_eq_false k
    omega, fun a b c h k => decide_eq_true (by
    have := of_decide_eq_true h
    have := of_decide_eq_true k
    omega)⟩
  al := al_int
  eq := eqv_int
  ltd := PySem.W.dataLt_int
  dep := fun a => Nat.zero_le 5
theorem nvs_ints {K : PySem.W.Frag} {H : Hp} {vs : List V} {p : List Int} : (nodeI K).NVs H vs p ↔ vs = p.map V.int := by
  constructor
  · intro h
    unfold NodeM.NVs at h
    induction h with
    | nil => rfl
    | cons h t ih => rw [List.map_cons, ← ih, show _ = _ from h]
  · rintro rfl
    unfold NodeM.NVs
    induction p with
    | nil => exact .nil
    | cons x p ih => exact .cons rfl ih
theorem ar_tups {K : PySem.W.Frag} {H : Hp} : ∀ {ts : List V} {L : List (Int × Int)}, TupsAt H ts L → (nodeI K).AR H ts L := fun {ts L} h => by
  obtain ⟨hl, ha⟩ := h
  induction L generalizing ts with
  | nil =>
    rw [List.length_eq_zero_iff.mp hl]
    exact .nil
  | cons z L ih =>
    cases ts with
    | nil => cases hl
    | cons t ts =>
      obtain ⟨T, h1, h2⟩ := ha 0 z.1 z.2 rfl
      cases h1
      exact .cons ⟨T, .int z.1, rfl, h2, rfl⟩ (ih (Nat.succ.inj hl) fun i u v e => ha (i + 1) u v e)
/-! ### least_paths -/
theorem yes_now {σ : L2.St} {H : Hp} {Q : Bool → Hp → Prop} (h : Q true H) : tYes σ H Q := h
section
variable {K : PySem.W.Frag} {ν κ : Type} [DecidableEq ν] [DecidableEq κ] (M : NodeM K ν κ)
def spLeast : Sp := fun vs H Q _ => ∃ (ad sd : Addr) (kva : List (κ × V)) (ts : List V) (S : List (ν × Int)) (A : ν → List (ν × Int)) (U : List ν), vs = [.ref ad, .ref sd] ∧ H ad = some (M.di kva) ∧ (∀ u ∈ U, ∃ row rs, valV kva (M.key u) = some (.ref row) ∧ H row = some (.lst rs) ∧ M.AR H rs (A u)) ∧ H sd = some (.lst ts) ∧ M.AR H ts S ∧
  (∀ s ∈ S, s.1 ∈ U) ∧ (∀ u ∈ U, ∀ a ∈ A u, a.1 ∈ U) ∧ (∀ u a, a ∈ A u → 1 ≤ a.2) ∧ S.length ≤ 2500 ∧ wS A [] U + S.length ≤ 1000000 ∧
  ∀ H' fd kvf F, Same H H' → H fd = none → H' fd = some (M.di kvf) → M.FdAt H' F kvf → FdOk M S A F → Q (.ref fd) H'
variable {M}
/-- [(total, 1, [node]) for node, total in starts] -/
theorem lc_queue {σ : L2.St} {H : Hp} {tl : TE} {sd : Addr} {ts : List V} {S : List (ν × Int)} {Q : VK} (h2 : 2 < σ.length) (h3 : 3 < σ.length) (hl : Vl tl σ H (.ref sd)) (hs : H sd = some (.lst ts)) (hA : M.AR H ts S) (hz : S.length ≤ 1000000)
    (q : ∀ D H' (cs : List (HB × (ν × Pth ν))), Same H H' → H D = none → H' D = some (.lst (cs.map fun c => c.1.1)) → (∀ c ∈ cs, M.PV (but H' D) c.1.1 c.2.2 ∧ c.1.2 = M.trip c.2.2 ∧ c.2.2.2.length ≤ 1) → cs.map (·.2) = S.map (fun s => (s.1, (s.2, [s.1]))) → Q (.ref D) H') :
    tLc (iList K tl) (gTup K 2 (gCons (gName 2) (gCons (gName 3) gNil))) tYes (tTup (tCons (tVar 3) (tCons (tC (.int 1)) (tCons (tLst (tCons (tVar 2) tNil)) tNil)))) [2, 3] σ H Q := by
  refine hl _ ⟨sd, rfl, ⟨ts, .of hs⟩, fun D nD => lc_list (K := K) (a := sd) (xs := ts) (fun i H' => ∃ cs : List (HB × (ν × Pth ν)), H' D = some (.lst (cs.map fun c => c.1.1)) ∧ Same H H' ∧ (∀ c ∈ cs, M.PV (but H' D) c.1.1 c.2.2 ∧ c.1.2 = M.trip c.2.2 ∧ c.2.2.2.length ≤ 1) ∧ cs.map (·.2) = (S.take i).map (fun s => (s.1, (s.2, [s.1]))))
    ⟨[], upd_same, same_upd nD, fun c hc => (nomatch hc), rfl⟩ (fun i H' _ hP => .of (hP.choose_spec.2.1 _ _ hs)) (fun i y H2 hi hP => ?_) (fun H2 hP => ?_)⟩
  · obtain ⟨cs, hD, s2, hc, hm⟩ := hP
    have il := (List.getElem?_eq_some_iff.mp hi).1
    rw [hA.len] at il
    have hg : S[i]? = some (S[i]'il) := List.getElem?_eq_getElem il
    generalize S[i]'il = s at hg
    obtain ⟨T, v, h1', h2', hv⟩ := hA.get hg
    cases hi.symm.trans h1'
    have cl : cs.length ≤ S.length := by
      have := congrArg List.length hm
      rw [List.length_map, List.length_map, List.length_take] at this
      omega
    refine ⟨T, _, rfl, .of (s2 _ _ h2'), rfl, _, _, rfl, _, _, rfl, rfl, ?_⟩
    have e2 : (((wipe σ [2, 3]).set 2 (some v)).set 3 (some (V.int s.2)))[2]? = some (some v) := by
      rw [List.getElem?_set_ne (by decide)]
      exact List.getElem?_set_self (by show 2 < ((σ.set 3 none).set 2 none).length; rw [List.length_set, List.length_set]; exact h2)
    have e3 : (((wipe σ [2, 3]).set 2 (some v)).set 3 (some (V.int s.2)))[3]? = some (some (V.int s.2)) := List.getElem?_set_self (by
      show 3 < (((σ.set 3 none).set 2 none).set 2 (some v)).length
      rw [List.length_set, List.length_set, List.length_set]
      exact h3)
    have ew : wipe (((wipe σ [2, 3]).set 2 (some v)).set 3 (some (V.int s.2))) [2, 3] = wipe σ [2, 3] := by
      show ((((((σ.set 3 none).set 2 none).set 2 (some v)).set 3 (some (V.int s.2))).set 3 none).set 2 none) = ((σ.set 3 none).set 2 none)
      refine List.ext_getElem? fun i => ?_
      simp only [List.getElem?_set, List.length_set]
      by_cases c3 : 3 = i
      · simp [c3]
      · by_cases c2 : 2 = i
        · simp [c2]
        · simp [c2, c3]
    refine ⟨ew, iteT (B := ∃ cs : List (HB × (ν × Pth ν)), H2 D = some (.lst (cs.map fun c => c.1.1)) ∧ Same H H2 ∧ (∀ c ∈ cs, M.PV (but H2 D) c.1.1 c.2.2 ∧ c.1.2 = M.trip c.2.2 ∧ c.2.2.2.length ≤ 1) ∧ cs.map (·.2) = (S.take (i + 1)).map (fun s => (s.1, (s.2, [s.1])))) ?_⟩
    refine ⟨.int s.2, e3, v, e2, by show 1 ≤ sizeLine; decide, fun L nL => ⟨by show 3 ≤ sizeLine; decide, fun T2 nT2 => ?_⟩⟩
    have sL := same_upd (o := .lst [v]) nL
    have eL := upd_same (H := H2) (a := L) (o := .lst [v])
    have DL : L ≠ D := fun z => ne_ofN hD nL z.symm
    generalize upd H2 L (.lst [v]) = H3 at sL eL nT2
    have sT := same_upd (o := .tup [V.int s.2, .int 1, .ref L]) nT2
    have eT := upd_same (H := H3) (a := T2) (o := .tup [V.int s.2, .int 1, .ref L])
    have DT : T2 ≠ D := fun z => ne_ofN (sL _ _ hD) nT2 z.symm
    generalize upd H3 T2 (.tup [V.int s.2, .int 1, .ref L]) = H4 at sT eT
    have s24 := sL.trans sT
    have hD4 := s24 _ _ hD
    have hv2 : M.NV (but H4 D) v s.1 := M.but (M.to hv (s2.trans s24)) fun xs z => by rw [hD4] at z; cases z
    have eb : ∀ o, but (upd H4 D o) D = but H4 D := fun o => but_upd
    refine ⟨cs.map fun c => c.1.1, hD4, by rw [List.length_map]; exact Nat.lt_of_le_of_lt (m := 1000000) (by omega) (by decide), cs ++ [((V.ref T2, M.trip (s.2, [s.1])), (s.1, (s.2, [s.1])))], ?_, same_upd' (s2.trans s24) nD, fun c hm' => ?_, ?_⟩
    · rw [upd_same, List.map_append]
      rfl
    · rw [eb]
      rcases List.mem_append.mp hm' with hm' | hm'
      · obtain ⟨c1, c2, c3⟩ := hc c hm'
        exact ⟨c1.to (but_mono s24), c2, c3⟩
      · rw [List.mem_singleton.mp hm']
        refine ⟨⟨T2, L, [v], rfl, ?_, ?_, .cons hv2 .nil⟩, rfl, Nat.le_refl _⟩
        · rw [but_ne DT]
          exact eT
        · rw [but_ne DL]
          exact sT _ _ eL
    · rw [List.map_append, hm, take_snoc hg, List.map_append]
      rfl
  · obtain ⟨cs, hD, s2, hc, hm⟩ := hP
    rw [hA.len, List.take_length] at hm
    exact q D H2 cs s2 nD hD hc hm
end
theorem two_slots {σ : L2.St} {v w : V} (h2 : 2 < σ.length) (h3 : 3 < σ.length) : (((wipe σ [2, 3]).set 2 (some v)).set 3 (some w))[2]? = some (some v) ∧ (((wipe σ [2, 3]).set 2 (some v)).set 3 (some w))[3]? = some (some w) ∧ wipe (((wipe σ [2, 3]).set 2 (some v)).set 3 (some w)) [2, 3] = wipe σ [2, 3] := by
  refine ⟨?_, ?_, ?_⟩
  · rw [List.getElem?_set_ne (by decide)]
    exact List.getElem?_set_self (by show 2 < ((σ.set 3 none).set 2 none).length; rw [List.length_set, List.length_set]; exact h2)
  · exact List.getElem?_set_self (by
      show 3 < (((σ.set 3 none).set 2 none).set 2 (some v)).length
      rw [List.length_set, List.length_set, List.length_set]
      exact h3)
  · show ((((((σ.set 3 none).set 2 none).set 2 (some v)).set 3 (some w)).set 3 none).set 2 none) = ((σ.set 3 none).set 2 none)
    refine List.ext_getElem? fun i => ?_
    simp only [List.getElem?_set, List.length_set]
    by_cases c3 : 3 = i
    · simp [c3]
    · by_cases c2 : 2 = i
      · simp [c2]
      · simp [c2, c3]
section
variable {K : PySem.W.Frag}
/-- {node: (total, 1) for node, total in starts}, nodes that are ints -/
theorem dc_known {σ : L2.St} {H : Hp} {tl : TE} {sd : Addr} {ts : List V} {S : List (Int × Int)} {Q : VK} (h2 : 2 < σ.length) (h3 : 3 < σ.length) (hl : Vl tl σ H (.ref sd)) (hs : H sd = some (.lst ts)) (hA : (nodeI K).AR H ts S) (hz : S.length ≤ 1000000)
    (q : ∀ D H' kvs (Kn : Int → Option (Int × Nat)), Same H H' → H D = none → H' D = some (.dK kvs) → (nodeI K).KnAt (but H' D) kvs Kn → (∀ v k, Kn v = some k → ∃ s ∈ S, s.1 = v ∧ k = (s.2, 1)) → kvs.length ≤ S.length → Q (.ref D) H') :
    tDc (iList K tl) (gTup K 2 (gCons (gName 2) (gCons (gName 3) gNil))) tYes (tVar 2) (tTup (tCons (tVar 3) (tCons (tC (.int 1)) tNil))) [2, 3] σ H Q := by
  refine hl _ ⟨sd, rfl, ⟨ts, .of hs⟩, fun D nD => ?_⟩
  refine ⟨fun i m H2 => m + i = S.length ∧ ∃ kvs Kn, Same H H2 ∧ H2 D = some (.dK kvs) ∧ (nodeI K).KnAt (but H2 D) kvs Kn ∧ (∀ v k, Kn v = some k → ∃ s ∈ S, s.1 = v ∧ k = (s.2, 1)) ∧ kvs.length ≤ i,
    ⟨S.length, rfl, [], fun _ => none, same_upd nD, upd_same, fun v => .inl ⟨rfl, rfl⟩, fun v k h => (nomatch h), Nat.le_refl _⟩, fun i m H2 hW => ?_⟩
  obtain ⟨em, kvs, Kn, s2, hD, hKn, hS, hl'⟩ := hW
  by_cases hi : i < S.length
  · have hg : S[i]? = some (S[i]'hi) := List.getElem?_eq_getElem hi
    generalize S[i]'hi = s at hg
    obtain ⟨T, v, e1, e2, hv⟩ := hA.get hg
    refine .inr ⟨⟨_, _, .of (s2 _ _ hs), e1⟩, fun H2 => ∃ kvs Kn, Same H H2 ∧ H2 D = some (.dK kvs) ∧ (nodeI K).KnAt (but H2 D) kvs Kn ∧ (∀ v k, Kn v = some k → ∃ s ∈ S, s.1 = v ∧ k = (s.2, 1)) ∧ kvs.length ≤ i + 1, fun H' h => ⟨m - 1, by omega, by omega, h⟩, fun x H' hy => ?_⟩
    obtain ⟨rfl, hy⟩ := hy
    have hy := hy _ (.of (s2 _ _ hs))
    cases e1.symm.trans hy
    obtain ⟨w1, w2, w3⟩ := two_slots (v := v) (w := .int s.2) h2 h3
    refine ⟨T, _, rfl, .of (s2 _ _ e2), rfl, _, _, rfl, _, _, rfl, rfl, w3, ?_⟩
    refine yes_now ?_
    dsimp only
    rw [if_pos rfl]
    obtain rfl : v = .int s.1 := hv
    refine ⟨.int s.1, w1, .int s.2, w2, by show 2 ≤ sizeLine; decide, fun T2 nT2 => ?_⟩
    have sT := same_upd (o := .tup [V.int s.2, .int 1]) nT2
    have eT := upd_same (H := H') (a := T2) (o := .tup [V.int s.2, .int 1])
    have DT : T2 ≠ D := fun z => ne_ofN hD nT2 z.symm
    generalize upd H' T2 (.tup [V.int s.2, .int 1]) = H4 at sT eT
    have hD4 := sT _ _ hD
    refine ⟨kvs, Sum.inl s.1, rfl, hD4, Nat.lt_of_le_of_lt (m := 1000000) (by omega) (by decide), putK kvs (Sum.inl s.1) (.ref T2), fun u => if u = s.1 then some (s.2, 1) else Kn u, same_upd' (s2.trans sT) nD, upd_same, fun u => ?_, fun u k h => ?_, ?_⟩
    · rw [but_upd]
      dsimp only
      show _ ∨ ∃ R t c, (if u = s.1 then some (s.2, 1) else Kn u) = some (t, c) ∧ valV (putK kvs (Sum.inl s.1) (V.ref T2)) (Sum.inl u) = some (V.ref R) ∧ but H4 D R = some (.tup [.int t, .int (c : Nat)])
      by_cases c : u = s.1
      · subst c
        exact .inr ⟨T2, s.2, 1, if_pos rfl, by rw [valV_put, if_pos rfl], by rw [but_ne DT]; exact eT⟩
      · rcases hKn u with ⟨k1, k2⟩ | ⟨R, t, c', k1, k2, k3⟩
        · refine .inl ⟨by rw [if_neg c]; exact k1, ?_⟩
          show valV (putK kvs (Sum.inl s.1) (V.ref T2)) (Sum.inl u) = none
          rw [valV_put, if_neg (fun z => c (Sum.inl.inj z))]
          exact k2
        · exact .inr ⟨R, t, c', by rw [if_neg c]; exact k1, by rw [valV_put, if_neg (fun z => c (Sum.inl.inj z))]; exact k2, but_mono sT _ _ k3⟩
    · dsimp only at h
      by_cases c : u = s.1
      · rw [if_pos c] at h
        cases h
        exact ⟨s, List.mem_of_getElem? hg, c.symm, rfl⟩
      · rw [if_neg c] at h
        exact hS u k h
    · have := putK_lenG (kvs := kvs) (k := Sum.inl s.1) (v := .ref T2)
      omega
  · refine .inl ⟨⟨_, .of (s2 _ _ hs), by rw [hA.len]; omega⟩, q D H2 kvs Kn s2 nD hD hKn hS (by omega)⟩
end
/-! ### least_paths, nodes that are ints -/
section
variable {K : PySem.W.Frag} {ν κ : Type} [DecidableEq ν] [DecidableEq κ] {M : NodeM K ν κ}
theorem hqOk_but {H : Hp} {D : Addr} {cs : List (HB × (ν × Pth ν))} (h : ∀ c ∈ cs, M.PV (but H D) c.1.1 c.2.2 ∧ c.1.2 = M.trip c.2.2) : HqOk K H D (cs.map (·.1)) := by
  refine ⟨fun b hb o => ?_, fun b hb => ?_, fun b hb => ?_, fun b hb c hc => ?_⟩
  · obtain ⟨c, hc, rfl⟩ := List.mem_map.mp hb
    obtain ⟨h1, h2⟩ := h c hc
    rw [h2]
    exact Dp.to h1.dp but_upd_same
  · obtain ⟨c, hc, rfl⟩ := List.mem_map.mp hb
    rw [(h c hc).2]
    exact Nat.le_trans (M.dep_trip _) (by decide)
  · obtain ⟨c, hc, rfl⟩ := List.mem_map.mp hb
    rw [(h c hc).2]
    intro z
    cases z
  · obtain ⟨c1, hc1, rfl⟩ := List.mem_map.mp hb
    obtain ⟨c2, hc2, rfl⟩ := List.mem_map.mp hc
    rw [(h c1 hc1).2, (h c2 hc2).2]
    exact M.al_trip _ _
/-- the head of the search is done: what its loop begins with -/
theorem lp_begin {S : List (ν × Int)} {A : ν → List (ν × Int)} {U : List ν} {H H1 H2 H3 H4 : Hp} {ad D KD FD : Addr} {kva : List (κ × V)} {cs cs' : List (HB × (ν × Pth ν))} {kvk : List (κ × V)} {Kn : ν → Option (Int × Nat)}
    (had : H ad = some (M.di kva)) (harc : ∀ u ∈ U, ∃ row rs, valV kva (M.key u) = some (.ref row) ∧ H row = some (.lst rs) ∧ M.AR H rs (A u)) (su : ∀ s ∈ S, s.1 ∈ U) (au : ∀ u ∈ U, ∀ a ∈ A u, a.1 ∈ U) (hw : ∀ u a, a ∈ A u → 1 ≤ a.2) (hN : wS A [] U + S.length ≤ 1000000)
    (s1 : Same H H1) (nD : H D = none) (hc : ∀ c ∈ cs, M.PV (but H1 D) c.1.1 c.2.2 ∧ c.1.2 = M.trip c.2.2 ∧ c.2.2.2.length ≤ 1) (hm : cs.map (·.2) = S.map (fun s => (s.1, (s.2, [s.1])))) (hp : cs'.Perm cs) (hh : HqM.HeapAt hlt 0 (cs'.map (·.1))) (e2 : ∀ a, a ≠ D → H2 a = H1 a) (hq2 : H2 D = some (.lst (cs'.map fun c => c.1.1)))
    (s3 : Same H2 H3) (nK : H2 KD = none) (hk3 : H3 KD = some (M.di kvk)) (hKn : M.KnAt (but H3 KD) kvk Kn) (hKS : ∀ v k, Kn v = some k → ∃ s ∈ S, s.1 = v ∧ k = (s.2, 1)) (hkl : kvk.length ≤ S.length) (s4 : Same H3 H4) (nF : H3 FD = none) (hf4 : H4 FD = some (M.di [])) :
    LpG M S A U (wS A [] U + S.length) D KD FD ad H4 ∧ LpI M S A U (wS A [] U + S.length) D KD FD H4 none 0 0 (wS A [] U + S.length) [] H4 ∧ Same H (B3 D KD FD H4) := by
  have s02 : Same H H2 := fun a u e => by
    rw [e2 a (ne_of_none e nD)]
    exact s1 _ _ e
  have s04 := s02.trans (s3.trans s4)
  have DK : D ≠ KD := ne_ofN hq2 nK
  have DF : D ≠ FD := ne_ofN (s3 _ _ hq2) nF
  have KF : KD ≠ FD := ne_ofN hk3 nF
  have nKH : H KD = none := Same.free s02 nK
  have nFH : H FD = none := Same.free (s02.trans s3) nF
  have sB : Same H (B3 D KD FD H4) := fun a u e => by
    rw [b3_ne (ne_of_none e nD) (ne_of_none e nKH) (ne_of_none e nFH)]
    exact s04 _ _ e
  have sP : Same (but H1 D) (B3 D KD FD H4) := fun a u e => by
    have aD : a ≠ D := fun z => by
      rw [z, but_at] at e
      cases e
    rw [but_ne aD] at e
    have h2 : H2 a = some u := by rw [e2 a aD]; exact e
    rw [b3_ne aD (ne_of_none h2 nK) (ne_of_none (s3 _ _ h2) nF)]
    exact s4 _ _ (s3 _ _ h2)
  have lc : cs'.length = S.length := by
    have := congrArg List.length hm
    rw [List.length_map, List.length_map] at this
    rw [hp.length_eq, this]
  refine ⟨⟨su, au, hw, hN, DK, DF, KF, kva, sB _ _ had, fun u hu => ?_⟩, ⟨Same.refl _, ⟨cs', kvk, [], Kn, s4 _ _ (s3 _ _ hq2), s4 _ _ hk3, hf4, fun c hcm => ?_, hh, DjI.begin M.lin (by rw [← hm]; exact hp.map _) hKS, .nil, fun v => ?_, by rw [lc]; show S.length + wS A [] U + 0 ≤ _; omega, by show kvk.length + wS A [] U + 0 ≤ _; omega⟩, by show 0 + wS A [] U ≤ _; omega, fun f hf => nomatch hf⟩, sB⟩
  · obtain ⟨row, rs, h1, h2, h3⟩ := harc u hu
    exact ⟨row, rs, h1, sB _ _ h2, h3.to sB⟩
  · obtain ⟨h1, h2, h3⟩ := hc c (hp.mem_iff.mp hcm)
    exact ⟨h1.to sP, h2, h3⟩
  · rcases hKn v with h | ⟨R, t, c, h1, h2, h3⟩
    · exact .inl h
    · refine .inr ⟨R, t, c, h1, h2, ?_⟩
      have RK : R ≠ KD := fun z => by
        rw [z, but_at] at h3
        cases h3
      rw [but_ne RK] at h3
      have RD : R ≠ D := fun z => by
        rw [z, s3 _ _ hq2] at h3
        cases h3
      rw [b3_ne RD RK (ne_of_none h3 nF)]
      exact s4 _ _ h3
end
abbrev sLeastPaths : Stmt := topS 15
theorem scLeastPaths : FnScope ["arcs", "starts", "node", "total", "queue", "known", "found", "count", "path", "other", "price", "size"] ["arcs", "starts"] (defScope sLeastPaths) := ⟨rfl, rfl, rfl, by decide +kernel, rfl, by decide +kernel, by decide +kernel⟩
section
variable {P : Program} {w : World} {K : PySem.W.Frag} {mg : Str → Option Value} {base : Heap}
theorem ok_leastI {f : Addr} {fd : FuncData} {k : Nat} (F : Fun K "least_paths" "least_paths" sLeastPaths f fd) (g_heapify : mg "heapify" = some (.builtin "_heapq.heapify")) (g_heappop : mg "heappop" = some (.builtin "_heapq.heappop")) (g_heappush : mg "heappush" = some (.builtin "_heapq.heappush")) : FnOk P w K mg base CX0 (k + 1) f fd ["arcs", "starts"] (spLeast (nodeI K)) := by
  refine F.ok scLeastPaths (fun vs H Q E h => ?_) (fun cdv A outer s H vs Q E hr h => ?_)
  · obtain ⟨ad, sd, kva, ts, S, G, U, rfl, _⟩ := h
    rfl
  · obtain ⟨ad, sd, kva, ts, S, G, U, rfl, had, harc, hsd, hS, su, au, hw, hz, hN, q⟩ := h
    have hu := hu_of hr
    refine ⟨_, pss_cons (ps_setLc (i := 4) (own := [("node", 2), ("total", 3)]) (g := gTup K 2 (gCons (gName 2) (gCons (gName 3) (gNil)))) (tt := tYes) (te := (tTup (tCons (tVar 3) (tCons (tC (.int 1)) (tCons (tLst (tCons (tVar 2) tNil)) tNil))))) (by rfl) scLeastPaths.nd rfl rfl (sw_true rfl rfl rfl (by decide +kernel)) (pi_list (pv 1)) (blkOk_by (own := [("node", 2), ("total", 3)]) (N := ["arcs", "starts", "node", "total", "queue", "known", "found", "count", "path", "other", "price", "size"]) (sc := defScope sLeastPaths) (by decide +kernel)) (fun _ _ _ _ _ => pg_tup rfl (pgs_cons (pg_name (i := 2) scLeastPaths.nd rfl (Or.inl rfl)) (pgs_cons (pg_name (i := 3) scLeastPaths.nd rfl (Or.inl rfl)) pgs_nil))) (fun _ _ _ _ _ => by exact pts_nil) (fun _ _ _ _ _ => by exact (pe_tup (pa_cons (pv 3) (pa_cons pe_int (pa_cons (pe_lst (pa_cons (pv 2) pa_nil)) pa_nil))))))
      (pss_cons (ps_expr (pe_callGB (call_heapify (room70 hr)) (by rfl) g_heapify (pa_cons (pv 4) pa_nil)))
      (pss_cons (ps_setDc (i := 5) (own := [("node", 2), ("total", 3)]) (g := gTup K 2 (gCons (gName 2) (gCons (gName 3) (gNil)))) (tt := tYes) (tk := (tVar 2)) (tv := (tTup (tCons (tVar 3) (tCons (tC (.int 1)) tNil)))) rfl scLeastPaths.nd rfl rfl (swapsD rfl rfl rfl (by decide +kernel)) (pi_list (pv 1)) (blkOk_by (own := [("node", 2), ("total", 3)]) (N := ["arcs", "starts", "node", "total", "queue", "known", "found", "count", "path", "other", "price", "size"]) (sc := defScope sLeastPaths) (by decide +kernel)) (fun _ _ _ _ _ => pg_tup rfl (pgs_cons (pg_name (i := 2) scLeastPaths.nd rfl (Or.inl rfl)) (pgs_cons (pg_name (i := 3) scLeastPaths.nd rfl (Or.inl rfl)) pgs_nil))) (fun _ _ _ _ _ => by exact pts_nil) (fun _ _ _ _ _ => by exact (pv 2)) (fun _ _ _ _ _ => by exact (pe_tup (pa_cons (pv 3) (pa_cons pe_int pa_nil)))))
      (pss_cons (ps_set (i := 6) scLeastPaths.nd rfl (.inl rfl) pe_dnewK)
      (pss_cons (ps_while PassesOwn.never (pt_truth (pv 4) (by intro _; rfl))
      (pss_cons (ps_asg (pe_callGB (call_hpop (room70 hr)) (by rfl) g_heappop (pa_cons (pv 4) pa_nil)) (pg_tup rfl (pgs_cons (pg_name (i := 3) scLeastPaths.nd rfl (.inl rfl)) (pgs_cons (pg_name (i := 7) scLeastPaths.nd rfl (.inl rfl)) (pgs_cons (pg_name (i := 8) scLeastPaths.nd rfl (.inl rfl)) pgs_nil)))))
        (pss_cons (ps_set (i := 2) scLeastPaths.nd rfl (.inl rfl) (pe_ix ix_list (pv 8) (pe_un un_neg pe_int) (fun _ _ => rfl)))
        (pss_cons (ps_if (pt_cmp (pc_din hu (pv 2) (pv 6)))
        (pss_one ps_continue)
        pss_nil)
        (pss_cons (ps_dput hu (pv 6) (pv 2) (pe_tup (pa_cons (pv 3) (pa_cons (pv 7) (pa_cons (pv 8) pa_nil)))) rfl)
        (pss_one (ps_for PassesOwn.never rfl (pi_list (pe_dget hu (pv 0) (pv 2) (fun _ _ => rfl))) (pg_tup rfl (pgs_cons (pg_name (i := 9) scLeastPaths.nd rfl (.inl rfl)) (pgs_cons (pg_name (i := 10) scLeastPaths.nd rfl (.inl rfl)) pgs_nil)))
        (pss_cons (ps_set (i := 11) scLeastPaths.nd rfl (.inl rfl) (pe_tup (pa_cons (pe_op op_add (pv 3) (pv 10)) (pa_cons (pe_op op_add (pv 7) pe_int) pa_nil))))
          (pss_one (ps_if (pt_cmpR (op_leT hr.units0) (pv 11) (pe_dget2 hu (pv 5) (pv 9) (pv 11) ⟨by rfl, by rfl, by rfl, by rfl⟩) (nomark _))
          (pss_cons (ps_dput hu (pv 5) (pv 9) (pv 11) rfl)
            (pss_one (ps_expr (pe_callGB (call_hpush (room70 hr)) (by rfl) g_heappush (pa_cons (pv 4) (pa_cons (pe_tup (pa_cons (pe_op op_add (pv 3) (pv 10)) (pa_cons (pe_op op_add (pv 7) pe_int) (pa_cons (pe_op op_cat (pv 8) (pe_lst (pa_cons (pv 9) pa_nil))) pa_nil)))) pa_nil))))))
          pss_nil))))))))))
      (pss_one (ps_ret (pv 6))))))), ?_⟩
    refine q_asgE (lc_queue (M := nodeI K) (K := K) (by show 2 < 12; decide) (by show 3 < 12; decide) (vl_var rfl) hsd hS (by omega) fun D H1 cs s1 nD hD hc hm => ?_)
    have lcs : cs.length = S.length := by
      have := congrArg List.length hm
      rw [List.length_map, List.length_map] at this
      exact this
    refine ⟨.ref D, rfl, D, (cs.map fun c : HB × (Int × Pth Int) => c.1), rfl, by rw [map2_fst]; exact hD, by rw [List.length_map, lcs]; exact hz, hqOk_but (M := nodeI K) fun c hcm => ⟨(hc c hcm).1, (hc c hcm).2.1⟩, fun bs' hperm hheap => ?_⟩
    obtain ⟨cs', hp', rfl⟩ := perm_map_inv hperm (f := fun c : HB × (Int × Pth Int) => c.1) (l := cs) rfl
    have e2 : ∀ a, a ≠ D → upd H1 D (.lst ((cs'.map (·.1)).map (·.1))) a = H1 a := fun a h => upd_ne h
    have hq2 : upd H1 D (.lst ((cs'.map (·.1)).map (·.1))) D = some (.lst (cs'.map fun c => c.1.1)) := by rw [upd_same, map2_fst]
    have s2 : Same H (upd H1 D (.lst ((cs'.map (·.1)).map (·.1)))) := same_upd' s1 nD
    refine nx_of ?_
    generalize upd H1 D (.lst ((cs'.map (·.1)).map (·.1))) = H2 at e2 hq2 s2
    refine q_asgE (dc_known (K := K) (by show 2 < 12; decide) (by show 3 < 12; decide) (vl_var rfl) (s2 _ _ hsd) (hS.to s2) (by omega) fun KD H3 kvk Kn s3 nK hk3 hKn hKS hkl => ?_)
    refine q_dnewK fun FD nF => ?_
    obtain ⟨G4, I4, sB⟩ := lp_begin (M := nodeI K) had harc su au hw hN s1 nD hc hm hp' hheap e2 hq2 s3 nK hk3 hKn hKS hkl (same_upd nF) nF upd_same
    show lpLoop K _ _ _
    exact lpLoop_ok G4 I4 fun H' F' kvf sH hfd hF hok => q H' FD kvf F' (sB.trans (sH.trans b3_same)) (Same.free (s2.trans s3) nF) hfd (hF.to b3_same) hok
end
/-! ### least_paths, nodes that are pairs -/
def ltP (a b : Int × Int) : Bool := decide (a.1 < b.1 ∨ (a.1 = b.1 ∧ a.2 < b.2))
theorem ltP_lin : Lin ltP := by
  unfold ltP
  refine ⟨fun a b h => decide_eq_false ?_, fun a b h k => ?_, fun a b c h k => decide_eq_true ?_⟩
  · have := of_decide_eq_true h
    omega
  · have h1 := of_decide_eq_false h
    have k1 := of_decide_eq_false k
    exact Prod.ext (by omega) (by omega)
  · have h1 := of_decide_eq_true h
    have k1 := of_decide_eq_true k
    omega
theorem eqv_pair (a b : Int × Int) : PyData.eqv (pairD2 a) (pairD2 b) = decide (a = b) := by
  unfold pairD2
  rw [PyData.eqv, PySem.W.eqv_all_cons, PySem.W.eqv_all_cons, eqv_int, eqv_int, Bool.eq_iff_iff]
  simp only [PyData.eqvAll, Bool.and_eq_true, decide_eq_true_eq, and_true]
  exact ⟨fun h => Prod.ext h.1 h.2, fun h => by rw [h]; exact ⟨rfl, rfl⟩⟩
theorem ltd_pair (a b : Int × Int) : PySem.W.dataLt (pairD2 a) (pairD2 b) = ltP a b := by
  unfold pairD2 ltP
  rw [PySem.W.dataLt_tuple, Bool.eq_iff_iff, decide_eq_true_eq]
  by_cases c1 : a.1 = b.1
  · rw [PySem.W.dataLt_all_yes (al_int _ _) (by rw [eqv_int]; exact decide_eq_true c1)]
    by_cases c2 : a.2 = b.2
    · rw [PySem.W.dataLt_all_yes (al_int _ _) (by rw [eqv_int]; exact decide_eq_true c2), PyProof.Rows.lex_irrefl]
      constructor
      · intro h
        cases h
      · intro h
        omega
    · rw [PySem.W.dataLt_all_no (al_int _ _) (by rw [eqv_int]; exact decide_eq_false c2), PySem.W.dataLt_int, decide_eq_true_eq]
      omega
  · rw [PySem.W.dataLt_all_no (al_int _ _) (by rw [eqv_int]; exact decide_eq_false c1), PySem.W.dataLt_int, decide_eq_true_eq]
    omega
/-! nodes that are pairs -/
def nodeT (K : PySem.W.Frag) : NodeM K (Int × Int) (List L2.Key) where
  key := K2
  inj := fun a b h => K2_inj h
  di := HO.dT
  noL := fun kvs xs h => nomatch h
  noT := fun kvs xs h => nomatch h
  NV := fun H v n => ∃ b, v = .ref b ∧ H b = some (.tup [.int n.1, .int n.2])
  to := fun h s => h.imp fun b h => ⟨h.1, s _ _ h.2⟩
  but := fun {H o v n} h hn => h.imp fun b h => ⟨h.1, by
    rw [but_ne fun z => hn _ (z ▸ h.2)]
    exact h.2⟩
  get := fun {H d v n kvs} h e => by
    obtain ⟨b, rfl, eb⟩ := h
    exact DGet.t (k := K2 n) e eb
  put := fun {H d v z n kvs} h e l => by
    obtain ⟨b, rfl, eb⟩ := h
    exact DPut.t (k := K2 n) e eb l
  isD := fun {H d kvs} e => .inr ⟨_, .inl e⟩
  nd := pairD2
  dp := fun {H v n} h => by
    obtain ⟨b, rfl, eb⟩ := h
    exact .tup (.of eb) (.cons (.int _) (.cons (.int _) .nil))
  lt := ltP
  lin := ltP_lin
  al := fun a b => by
    unfold pairD2
    simp only [PySem.W.alike, PySem.W.alikeAll]
    rfl
  eq := eqv_pair
  ltd := ltd_pair
  dep := fun a => by
    show 0 + 1 ≤ 5
    decide
section
variable {K : PySem.W.Frag}
/-- {node: (total, 1) for node, total in starts}, nodes that are pairs -/
theorem dc_knownT {σ : L2.St} {H : Hp} {tl : TE} {sd : Addr} {ts : List V} {S : List ((Int × Int) × Int)} {Q : VK} (h2 : 2 < σ.length) (h3 : 3 < σ.length) (hl : Vl tl σ H (.ref sd)) (hs : H sd = some (.lst ts)) (hA : (nodeT K).AR H ts S) (hz : S.length ≤ 1000000)
    (q : ∀ D H' kvs (Kn : Int × Int → Option (Int × Nat)), Same H H' → H D = none → H' D = some (.dT kvs) → (nodeT K).KnAt (but H' D) kvs Kn → (∀ v k, Kn v = some k → ∃ s ∈ S, s.1 = v ∧ k = (s.2, 1)) → kvs.length ≤ S.length → Q (.ref D) H') :
    tDcT (iList K tl) (gTup K 2 (gCons (gName 2) (gCons (gName 3) gNil))) tYes (tVar 2) (tTup (tCons (tVar 3) (tCons (tC (.int 1)) tNil))) [2, 3] σ H Q := by
  refine hl _ ⟨sd, rfl, ⟨ts, .of hs⟩, fun D nD => ?_⟩
  refine ⟨fun i m H2 => m + i = S.length ∧ ∃ kvs Kn, Same H H2 ∧ H2 D = some (.dT kvs) ∧ (nodeT K).KnAt (but H2 D) kvs Kn ∧ (∀ v k, Kn v = some k → ∃ s ∈ S, s.1 = v ∧ k = (s.2, 1)) ∧ kvs.length ≤ i,
    ⟨S.length, rfl, [], fun _ => none, same_upd nD, upd_same, fun v => .inl ⟨rfl, rfl⟩, fun v k h => (nomatch h), Nat.le_refl _⟩, fun i m H2 hW => ?_⟩
  obtain ⟨em, kvs, Kn, s2, hD, hKn, hS, hl'⟩ := hW
  by_cases hi : i < S.length
  · have hg : S[i]? = some (S[i]'hi) := List.getElem?_eq_getElem hi
    generalize S[i]'hi = s at hg
    obtain ⟨T, v, e1, e2, hv⟩ := hA.get hg
    refine .inr ⟨⟨_, _, .of (s2 _ _ hs), e1⟩, fun H2 => ∃ kvs Kn, Same H H2 ∧ H2 D = some (.dT kvs) ∧ (nodeT K).KnAt (but H2 D) kvs Kn ∧ (∀ v k, Kn v = some k → ∃ s ∈ S, s.1 = v ∧ k = (s.2, 1)) ∧ kvs.length ≤ i + 1, fun H' h => ⟨m - 1, by omega, by omega, h⟩, fun x H' hy => ?_⟩
    obtain ⟨rfl, hy⟩ := hy
    have hy := hy _ (.of (s2 _ _ hs))
    cases e1.symm.trans hy
    obtain ⟨w1, w2, w3⟩ := two_slots (v := v) (w := .int s.2) h2 h3
    refine ⟨T, _, rfl, .of (s2 _ _ e2), rfl, _, _, rfl, _, _, rfl, rfl, w3, ?_⟩
    refine yes_now ?_
    dsimp only
    rw [if_pos rfl]
    obtain ⟨b, rfl, eb⟩ := hv
    refine ⟨.ref b, w1, .int s.2, w2, by show 2 ≤ sizeLine; decide, fun T2 nT2 => ?_⟩
    have sT := same_upd (o := .tup [V.int s.2, .int 1]) nT2
    have eT := upd_same (H := H') (a := T2) (o := .tup [V.int s.2, .int 1])
    have DT : T2 ≠ D := fun z => ne_ofN hD nT2 z.symm
    generalize upd H' T2 (.tup [V.int s.2, .int 1]) = H4 at sT eT
    have hD4 := sT _ _ hD
    refine ⟨kvs, K2 s.1, b, rfl, sT _ _ (s2 _ _ eb), hD4, Nat.lt_of_le_of_lt (m := 1000000) (by omega) (by decide), putK kvs (K2 s.1) (.ref T2), fun u => if u = s.1 then some (s.2, 1) else Kn u, same_upd' (s2.trans sT) nD, upd_same, fun u => ?_, fun u k h => ?_, ?_⟩
    · rw [but_upd]
      dsimp only
      show _ ∨ ∃ R t c, (if u = s.1 then some (s.2, 1) else Kn u) = some (t, c) ∧ valV (putK kvs (K2 s.1) (V.ref T2)) (K2 u) = some (V.ref R) ∧ but H4 D R = some (.tup [.int t, .int (c : Nat)])
      by_cases c : u = s.1
      · subst c
        exact .inr ⟨T2, s.2, 1, if_pos rfl, by rw [valV_put, if_pos rfl], by rw [but_ne DT]; exact eT⟩
      · rcases hKn u with ⟨k1, k2⟩ | ⟨R, t, c', k1, k2, k3⟩
        · refine .inl ⟨by rw [if_neg c]; exact k1, ?_⟩
          show valV (putK kvs (K2 s.1) (V.ref T2)) (K2 u) = none
          rw [valV_put, if_neg (fun z => c (K2_inj z))]
          exact k2
        · exact .inr ⟨R, t, c', by rw [if_neg c]; exact k1, by rw [valV_put, if_neg (fun z => c (K2_inj z))]; exact k2, but_mono sT _ _ k3⟩
    · dsimp only at h
      by_cases c : u = s.1
      · rw [if_pos c] at h
        cases h
        exact ⟨s, List.mem_of_getElem? hg, c.symm, rfl⟩
      · rw [if_neg c] at h
        exact hS u k h
    · have := putK_lenG (kvs := kvs) (k := K2 s.1) (v := .ref T2)
      omega
  · refine .inl ⟨⟨_, .of (s2 _ _ hs), by rw [hA.len]; omega⟩, q D H2 kvs Kn s2 nD hD hKn hS (by omega)⟩
end
abbrev sLeastT : Stmt := topS 15
theorem scLeastT : FnScope ["arcs", "starts", "node", "total", "queue", "known", "found", "count", "path", "other", "price", "size"] ["arcs", "starts"] (defScope sLeastT) := ⟨rfl, rfl, rfl, by decide +kernel, rfl, by decide +kernel, by decide +kernel⟩
section
variable {P : Program} {w : World} {K : PySem.W.Frag} {mg : Str → Option Value} {base : Heap}
theorem ok_leastT {f : Addr} {fd : FuncData} {k : Nat} (F : Fun K "least_paths" "least_paths" sLeastT f fd) (g_heapify : mg "heapify" = some (.builtin "_heapq.heapify")) (g_heappop : mg "heappop" = some (.builtin "_heapq.heappop")) (g_heappush : mg "heappush" = some (.builtin "_heapq.heappush")) : FnOk P w K mg base CX0 (k + 1) f fd ["arcs", "starts"] (spLeast (nodeT K)) := by
  refine F.ok scLeastT (fun vs H Q E h => ?_) (fun cdv A outer s H vs Q E hr h => ?_)
  · obtain ⟨ad, sd, kva, ts, S, G, U, rfl, _⟩ := h
    rfl
  · obtain ⟨ad, sd, kva, ts, S, G, U, rfl, had, harc, hsd, hS, su, au, hw, hz, hN, q⟩ := h
    have hu := hu_of hr
    refine ⟨_, pss_cons (ps_setLc (i := 4) (own := [("node", 2), ("total", 3)]) (g := gTup K 2 (gCons (gName 2) (gCons (gName 3) (gNil)))) (tt := tYes) (te := (tTup (tCons (tVar 3) (tCons (tC (.int 1)) (tCons (tLst (tCons (tVar 2) tNil)) tNil))))) (by rfl) scLeastT.nd rfl rfl (sw_true rfl rfl rfl (by decide +kernel)) (pi_list (pv 1)) (blkOk_by (own := [("node", 2), ("total", 3)]) (N := ["arcs", "starts", "node", "total", "queue", "known", "found", "count", "path", "other", "price", "size"]) (sc := defScope sLeastT) (by decide +kernel)) (fun _ _ _ _ _ => pg_tup rfl (pgs_cons (pg_name (i := 2) scLeastT.nd rfl (Or.inl rfl)) (pgs_cons (pg_name (i := 3) scLeastT.nd rfl (Or.inl rfl)) pgs_nil))) (fun _ _ _ _ _ => by exact pts_nil) (fun _ _ _ _ _ => by exact (pe_tup (pa_cons (pv 3) (pa_cons pe_int (pa_cons (pe_lst (pa_cons (pv 2) pa_nil)) pa_nil))))))
      (pss_cons (ps_expr (pe_callGB (call_heapify (room70 hr)) (by rfl) g_heapify (pa_cons (pv 4) pa_nil)))
      (pss_cons (ps_setDcT (i := 5) (own := [("node", 2), ("total", 3)]) (g := gTup K 2 (gCons (gName 2) (gCons (gName 3) (gNil)))) (tt := tYes) (tk := (tVar 2)) (tv := (tTup (tCons (tVar 3) (tCons (tC (.int 1)) tNil)))) hu rfl scLeastT.nd rfl rfl (swapsD rfl rfl rfl (by decide +kernel)) (pi_list (pv 1)) (blkOk_by (own := [("node", 2), ("total", 3)]) (N := ["arcs", "starts", "node", "total", "queue", "known", "found", "count", "path", "other", "price", "size"]) (sc := defScope sLeastT) (by decide +kernel)) (fun _ _ _ _ _ => pg_tup rfl (pgs_cons (pg_name (i := 2) scLeastT.nd rfl (Or.inl rfl)) (pgs_cons (pg_name (i := 3) scLeastT.nd rfl (Or.inl rfl)) pgs_nil))) (fun _ _ _ _ _ => by exact pts_nil) (fun _ _ _ _ _ => by exact (pv 2)) (fun _ _ _ _ _ => by exact (pe_tup (pa_cons (pv 3) (pa_cons pe_int pa_nil)))))
      (pss_cons (ps_set (i := 6) scLeastT.nd rfl (.inl rfl) pe_dnewT)
      (pss_cons (ps_while PassesOwn.never (pt_truth (pv 4) (by intro _; rfl))
      (pss_cons (ps_asg (pe_callGB (call_hpop (room70 hr)) (by rfl) g_heappop (pa_cons (pv 4) pa_nil)) (pg_tup rfl (pgs_cons (pg_name (i := 3) scLeastT.nd rfl (.inl rfl)) (pgs_cons (pg_name (i := 7) scLeastT.nd rfl (.inl rfl)) (pgs_cons (pg_name (i := 8) scLeastT.nd rfl (.inl rfl)) pgs_nil)))))
        (pss_cons (ps_set (i := 2) scLeastT.nd rfl (.inl rfl) (pe_ix ix_list (pv 8) (pe_un un_neg pe_int) (fun _ _ => rfl)))
        (pss_cons (ps_if (pt_cmp (pc_din hu (pv 2) (pv 6)))
        (pss_one ps_continue)
        pss_nil)
        (pss_cons (ps_dput hu (pv 6) (pv 2) (pe_tup (pa_cons (pv 3) (pa_cons (pv 7) (pa_cons (pv 8) pa_nil)))) rfl)
        (pss_one (ps_for PassesOwn.never rfl (pi_list (pe_dget hu (pv 0) (pv 2) (fun _ _ => rfl))) (pg_tup rfl (pgs_cons (pg_name (i := 9) scLeastT.nd rfl (.inl rfl)) (pgs_cons (pg_name (i := 10) scLeastT.nd rfl (.inl rfl)) pgs_nil)))
        (pss_cons (ps_set (i := 11) scLeastT.nd rfl (.inl rfl) (pe_tup (pa_cons (pe_op op_add (pv 3) (pv 10)) (pa_cons (pe_op op_add (pv 7) pe_int) pa_nil))))
          (pss_one (ps_if (pt_cmpR (op_leT hr.units0) (pv 11) (pe_dget2 hu (pv 5) (pv 9) (pv 11) ⟨by rfl, by rfl, by rfl, by rfl⟩) (nomark _))
          (pss_cons (ps_dput hu (pv 5) (pv 9) (pv 11) rfl)
            (pss_one (ps_expr (pe_callGB (call_hpush (room70 hr)) (by rfl) g_heappush (pa_cons (pv 4) (pa_cons (pe_tup (pa_cons (pe_op op_add (pv 3) (pv 10)) (pa_cons (pe_op op_add (pv 7) pe_int) (pa_cons (pe_op op_cat (pv 8) (pe_lst (pa_cons (pv 9) pa_nil))) pa_nil)))) pa_nil))))))
          pss_nil))))))))))
      (pss_one (ps_ret (pv 6))))))), ?_⟩
    refine q_asgE (lc_queue (M := nodeT K) (K := K) (by show 2 < 12; decide) (by show 3 < 12; decide) (vl_var rfl) hsd hS (by omega) fun D H1 cs s1 nD hD hc hm => ?_)
    have lcs : cs.length = S.length := by
      have := congrArg List.length hm
      rw [List.length_map, List.length_map] at this
      exact this
    refine ⟨.ref D, rfl, D, (cs.map fun c : HB × ((Int × Int) × Pth (Int × Int)) => c.1), rfl, by rw [map2_fst]; exact hD, by rw [List.length_map, lcs]; exact hz, hqOk_but (M := nodeT K) fun c hcm => ⟨(hc c hcm).1, (hc c hcm).2.1⟩, fun bs' hperm hheap => ?_⟩
    obtain ⟨cs', hp', rfl⟩ := perm_map_inv hperm (f := fun c : HB × ((Int × Int) × Pth (Int × Int)) => c.1) (l := cs) rfl
    have e2 : ∀ a, a ≠ D → upd H1 D (.lst ((cs'.map (·.1)).map (·.1))) a = H1 a := fun a h => upd_ne h
    have hq2 : upd H1 D (.lst ((cs'.map (·.1)).map (·.1))) D = some (.lst (cs'.map fun c => c.1.1)) := by rw [upd_same, map2_fst]
    have s2 : Same H (upd H1 D (.lst ((cs'.map (·.1)).map (·.1)))) := same_upd' s1 nD
    refine nx_of ?_
    generalize upd H1 D (.lst ((cs'.map (·.1)).map (·.1))) = H2 at e2 hq2 s2
    refine q_asgE (dc_knownT (K := K) (by show 2 < 12; decide) (by show 3 < 12; decide) (vl_var rfl) (s2 _ _ hsd) (hS.to s2) (by omega) fun KD H3 kvk Kn s3 nK hk3 hKn hKS hkl => ?_)
    refine q_dnewT fun FD nF => ?_
    obtain ⟨G4, I4, sB⟩ := lp_begin (M := nodeT K) had harc su au hw hN s1 nD hc hm hp' hheap e2 hq2 s3 nK hk3 hKn hKS hkl (same_upd nF) nF upd_same
    show lpLoop K _ _ _
    exact lpLoop_ok G4 I4 fun H' F' kvf sH hfd hF hok => q H' FD kvf F' (sB.trans (sH.trans b3_same)) (Same.free (s2.trans s3) nF) hfd (hF.to b3_same) hok
end
end Ovc
namespace L2
open PySem PySem.Spec PyProof.Rows
section
variable {X : Cx} {pins : List (Addr × Obj)} {σ : St} {H : Hp} {s : Shared} {d : Addr} {o : Obj}
theorem Inv.frzTV {kvs : List (List Key × V)} (I : Inv X pins σ H s) (h : H d = some (.frz o (.dT kvs))) :
    (d == sysModules) = false ∧ s.heap.get? d = some o ∧ o.ExactDict ∧ ∃ (es : Array DictEntry) (ep : Nat), o.data = .dict es ep ∧ es.size = kvs.length ∧
      ∀ (i : Nat) (k : List Key) (v : V), kvs[i]? = some (k, v) → ∃ (en : DictEntry) (q : Addr), es[i]? = some en ∧ en.key = .ref q ∧ H q = some (.tup (k.map kV)) ∧ RelV v en.val := by
  obtain ⟨hd, z, hs, xs, pr, o', es, ep, ho, hx, hdt, he, _⟩ := I.hok d _ h
  rw [hd] at ho
  cases ho
  refine ⟨hs, hd, hx, es, ep, hdt, ?_, fun i k v e => ?_⟩
  · have l1 : es.size = xs.length := size_of_entries he
    have l2 : kvs.length = xs.length := Paired.length pr
    omega
  · obtain ⟨b, hb, e1, e2, e3⟩ := paired_get pr e
    have q := entry_at he i
    rw [hb] at q
    exact ⟨_, b.2.1, q, rfl, e2, e3⟩
end
/-- the pairs of the locked dict at d, each a new tuple of the key's own tuple and the value -/
def ItiT (d : Addr) (o : Obj) (kvs : List (List Key × V)) : It :=
  ⟨fun i H => H d = some (.frz o (.dT kvs)) ∧ i < kvs.length, fun i H x H' => ∃ T k v q, kvs[i]? = some (k, v) ∧ H q = some (.tup (k.map kV)) ∧ x = .ref T ∧ H T = none ∧ H' = upd H T (.tup [.ref q, v]), fun i H => H d = some (.frz o (.dT kvs)) ∧ kvs.length ≤ i⟩
section
variable {P : Program} {w : World} {K : PySem.W.Frag} {d : Addr} {o : Obj} {es : Array DictEntry} {ep : Nat}
theorem turn_itemsT {kvs : List (List Key × V)} {elts : List Expr} {kk : Nat} {tpos : Pos} (it : Addr) (hod : o.data = .dict es ep) :
    Turn P w K (.Tuple elts kk tpos) (ItiT d o kvs) [it] it (fun i h => ∃ ok ov, IsItemIter h it d i kvs.length ep ok ov) where
  mem := by simp
  obj := fun i h st b hb => by
    have e : b = it := by simpa using hb
    subst e
    obtain ⟨ok, ov, e⟩ := st
    exact ⟨_, e, fun v z => nomatch z⟩
  keep := fun i h h' st k => let ⟨ok, ov, e⟩ := st; ⟨ok, ov, k it (by simp) _ e⟩
  item := by
    intro X hP hw hK hc i pins s σ H E I hf st hg
    subst hP hw hK
    obtain ⟨hd, hi⟩ := hg
    obtain ⟨hs, hgd, hx, es', ep', hdt, hsz, ent⟩ := I.frzTV hd
    obtain ⟨rfl, rfl⟩ := dict_ep hod hdt
    obtain ⟨⟨k, v⟩, hkv⟩ : ∃ p, kvs[i]? = some p := ⟨kvs[i], List.getElem?_eq_getElem hi⟩
    obtain ⟨en, q, hen, hkey, hq, hval⟩ := ent i k v hkv
    obtain ⟨ok, ov, he⟩ := st
    rw [← hsz] at he hi
    have een : es'[i]'hi = en := by
      have z := Array.getElem?_eq_getElem hi
      rw [hen] at z
      exact (Option.some.inj z).symm
    have hlt : it < s.heap.objs.size := Heap.lt_size he
    refine wpAny_pyNext_items_item_raw he ⟨o, hgd, hx, hdt⟩ hi fun h' ho hT hz hk => ?_
    rw [een] at ho hT
    refine ⟨_, rfl, wpAny_letOwnedTupleGo_items (s := { s with heap := h' }) ho fun h'' he' sb => ?_⟩
    have hT2 : h''.get? s.heap.objs.size = some { cls := .type "tuple", data := .seq #[en.key, en.val] } := (sb.2 _ (Nat.ne_of_gt hlt)).trans hT
    have new : ObjOk X.prog X.w (upd H s.heap.objs.size (.tup [.ref q, v])) h'' s.heap.objs.size (.tup [.ref q, v]) :=
      ⟨by show 2 ≤ sizeLine; decide, [en.key, en.val], .cons hkey (.cons hval .nil), ⟨_, hT2, rfl, _, rfl⟩⟩
    have I1 : Inv X pins σ (upd H s.heap.objs.size (.tup [.ref q, v])) { s with heap := h'' } :=
      I.turnedNew (t' := s.toks) (ch := [it]) (fun b ob hb e => (sb.2 b (by simpa using hb)).trans (hk b ob (by simpa using hb) e)) hf (Nat.le_refl _) new
    refine ⟨.ref s.heap.objs.size, _, I1, rfl, ⟨_, k, v, q, hkv, hq, rfl, I.hok.fresh (Nat.le_refl _), rfl⟩, ⟨en.key, en.val, ?_⟩, fun b hb => ?_⟩
    · rw [← hsz]
      exact he'
    · have e : b = it := by simpa using hb
      rw [e, upd_ne (Nat.ne_of_lt hlt)]
      exact (hf it (by simp)).1
  done := by
    intro X hP hw hK hc i pins s σ H E I hf st hg
    subst hP hw hK
    obtain ⟨hd, hi⟩ := hg
    obtain ⟨f0, f1, f2, f3, f4, f5⟩ := hf it (by simp)
    obtain ⟨hs, hgd, hx, es', ep', hdt, hsz, ent⟩ := I.frzTV hd
    obtain ⟨rfl, rfl⟩ := dict_ep hod hdt
    obtain ⟨ok, ov, he⟩ := st
    rw [← hsz] at he hi
    exact wpAny_pyNext_items_end_raw (I.ok.hd hc) he ⟨o, hgd, hx, hdt⟩ hi fun h' eb => ⟨rfl, I.turned (t' := s.toks) (fun b ob hb e => eb b ob hb e) f0 f1 f3 f4 f5⟩
  self := fun A i s Q E st h => let ⟨_, _, e⟩ := st; PySem.W.kcp_self e h
end
/-- in e.items(), e a dict that nothing else is done to from here on: it is locked for good -/
def iItemsT (td : TE) : TI := fun σ H R => td σ H fun x H1 => ∃ d kvs, x = .ref d ∧ H1 d = some (.dT kvs) ∧ ∀ od, R (ItiT d od kvs) (upd H1 d (.frz od (.dT kvs)))
theorem pi_itemsT {X : Cx} {e : Expr} {td : TE} {elts : List Expr} {kk : Nat} {tpos apos cpos : Pos} (he : PE X e td) (hbase : attributeBase e "items" X.env (eval e X.env) = eval e X.env := by rfl) (hline : (apos.endLine == cpos.line) = true := by rfl) :
    PI X (.Tuple elts kk tpos) (.Call (.Attribute e "items" apos) [] [] cpos) (iItemsT td) := by
  refine ⟨fun pins s σ H R I h => ?_⟩
  refine wpAny_Call_method (T := "dict") (id := "dict.items") hbase rfl hline PySem.F.plainAttrs_dict PySem.F.slot_dict_items PySem.F.type_dict_items (thn (he.run pins s σ H _ I h) fun u s1 ⟨x, H1, I1, rx, d, kvs, ex, hd, q⟩ => ?_)
  subst ex
  obtain rfl : u = Value.ref d := rx
  obtain ⟨od, I2⟩ := I1.lock hd (by trivial)
  obtain ⟨hs, hgd, hx, es, ep, hdt, hsz, ent⟩ := I2.frzTV (d := d) upd_same
  have ti : s1.TypeIs (.ref d) "dict" := ⟨od, hgd, hx.1⟩
  refine ⟨ti, fun b e => ?_, ?_⟩
  · cases e
    exact ⟨od, hgd, hx.2.1⟩
  have I3 : Inv X pins σ (upd H1 d (.frz od (.dT kvs))) { s1 with heap := s1.heap.push { cls := .type "dict_items", data := .fields #[.ref d] } } := I2.kept (t' := s1.toks) fun b ob q => Heap.get?_push_of_some _ q
  have fin : wpAny (model X.prog X.w) X.A (pyIter (.ref s1.heap.objs.size)) (PIE X pins σ (.Tuple elts kk tpos) R) X.xe { s1 with heap := s1.heap.push { cls := .type "dict_items", data := .fields #[.ref d] } } := by
    refine wpAny_pyIter_items_raw (d := d) (es := es) (ep := ep) ⟨_, Heap.get?_push_size _ rfl, rfl, rfl⟩ ⟨od, Heap.get?_push_of_some _ hgd, hx, hdt⟩ (pi_one (tk := s1.toks) I3 _ (turn_itemsT _ hdt) ⟨.none, .none, ?_⟩ (q od))
    rw [← hsz]
    exact Heap.get?_push_size _ rfl
  show wpAny _ _ (callWith cpos (.builtin "dict.items") [.ref d] [] []) _ X.xe s1
  exact method_meetsIn PySem.F.slot_dict_items PySem.F.entry_dict_items rfl (PySem.evalArgs_none ⟨rfl, ti, PySem.F.args_dict_items_1 _, _, DT.meetsItems (es := es) (ep := ep) hs, ⟨od, hgd, hx, hdt⟩, fin⟩)
theorem walk_itemsT {d : Addr} {o : Obj} {kvs : List (List Key × V)} : Walk (ItiT d o kvs) kvs.length (fun H => H d = some (.frz o (.dT kvs)))
    (fun i H x H' => ∃ T k v q, kvs[i]? = some (k, v) ∧ H q = some (.tup (k.map kV)) ∧ x = .ref T ∧ H T = none ∧ H' = upd H T (.tup [.ref q, v])) :=
  ⟨fun _ _ hi q => ⟨q, hi⟩, fun _ q => ⟨q, Nat.le_refl _⟩, fun _ _ _ _ _ _ y => y⟩
end L2
namespace Ovc
open PySem PySem.Spec PyProof.Rows L2
end Ovc
namespace L2
open PySem PySem.Spec PyProof.Rows
/-! ### for k in d, the keys of d are tuples -/
def iKeysT9 (td : TE) : TI := fun σ H R => td σ H fun x H1 => ∃ d kvs, x = .ref d ∧ H1 d = some (.dT kvs) ∧ ∀ od, R (Itkt d od kvs) (upd H1 d (.frz od (.dT kvs)))
theorem pi_keysT9 {X : Cx} {tg e : Expr} {td : TE} (he : PE X e td) : PI X tg e (iKeysT9 td) := by
  refine ⟨fun pins s σ H R I h => ?_⟩
  refine thn (he.run pins s σ H _ I h) fun u s1 ⟨x, H1, I1, rx, d, kvs, ex, hd, q⟩ => ?_
  subst ex
  obtain rfl : u = Value.ref d := rx
  obtain ⟨od, I2⟩ := I1.lock hd (by trivial)
  obtain ⟨hs, hgd, hx, es, ep, hdt, hsz, ent⟩ := I2.frzT (d := d) upd_same
  refine iter_keys hs hgd hx hdt (pi_one (tk := s1.toks) I2 _ (turn_keysT _ hdt) ⟨_, Heap.get?_push_size _ rfl, rfl, ?_⟩ (q od))
  rw [hsz] <;> rfl
/-- for k in d, the keys of d are plain; d may be locked before -/
def iKeysI9 (td : TE) : TI := fun σ H R => td σ H fun x H1 => ∃ d kvs, x = .ref d ∧ ((∃ od, H1 d = some (.frz od (.dK kvs)) ∧ R (Itk d od kvs) H1) ∨ (H1 d = some (.dK kvs) ∧ ∀ od, R (Itk d od kvs) (upd H1 d (.frz od (.dK kvs)))))
theorem pi_keysI9 {X : Cx} {tg e : Expr} {td : TE} (he : PE X e td) : PI X tg e (iKeysI9 td) := by
  refine ⟨fun pins s σ H R I h => ?_⟩
  refine thn (he.run pins s σ H _ I h) fun u s1 ⟨x, H1, I1, rx, d, kvs, ex, q⟩ => ?_
  subst ex
  obtain rfl : u = Value.ref d := rx
  rcases q with ⟨od, hd, q⟩ | ⟨hd, q⟩
  · obtain ⟨hs, hgd, hx, es, ep, vs, hdt, hsz, kv, hm⟩ := I1.frzK hd
    refine iter_keys hs hgd hx hdt (pi_one (tk := s1.toks) I1 _ (turn_keys _ hdt) ⟨_, Heap.get?_push_size _ rfl, rfl, ?_⟩ q)
    rw [hsz] <;> rfl
  · obtain ⟨od, I2⟩ := I1.lock hd (by trivial)
    obtain ⟨hs, hgd, hx, es, ep, vs, hdt, hsz, kv, hm⟩ := I2.frzK (d := d) upd_same
    refine iter_keys hs hgd hx hdt (pi_one (tk := s1.toks) I2 _ (turn_keys _ hdt) ⟨_, Heap.get?_push_size _ rfl, rfl, ?_⟩ (q od))
    rw [hsz] <;> rfl
end L2
namespace Ovc
open PySem PySem.Spec PyProof.Rows L2
/-! ### sorted(d), the keys pairs of ints -/
def kOf (H : Hp) (u : Value) : Int × Int := match u with
  | .ref b => match H b with
    | some (.tup [.int x, .int y]) => (x, y)
    | _ => (0, 0)
  | _ => (0, 0)
theorem kOf_at {H : Hp} {b : Addr} {x y : Int} (h : H b = some (.tup [.int x, .int y])) : kOf H (.ref b) = (x, y) := by
  show (match H b with | some (.tup [.int x, .int y]) => (x, y) | _ => (0, 0)) = (x, y)
  rw [h]
/-- the refs hold the pairs -/
def PrsAt (H : Hp) (bs : List Addr) (M : List (Int × Int)) : Prop := Paired (fun (m : Int × Int) b => H b = some (.tup [.int m.1, .int m.2])) M bs
theorem PrsAt.get {H : Hp} {bs : List Addr} {M : List (Int × Int)} (h : PrsAt H bs M) {i : Nat} {b : Addr} (hi : bs[i]? = some b) : ∃ m, M[i]? = some m ∧ H b = some (.tup [.int m.1, .int m.2]) := by
  unfold PrsAt at h
  induction h generalizing i with
  | nil => cases hi
  | cons h t ih =>
    cases i with
    | zero =>
      cases hi
      exact ⟨_, rfl, h⟩
    | succ i => exact ih hi
theorem PrsAt.get2 {H : Hp} {bs : List Addr} {M : List (Int × Int)} (h : PrsAt H bs M) {i : Nat} {m : Int × Int} (hi : M[i]? = some m) : ∃ b, bs[i]? = some b ∧ H b = some (.tup [.int m.1, .int m.2]) := by
  unfold PrsAt at h
  induction h generalizing i with
  | nil => cases hi
  | cons h t ih =>
    cases i with
    | zero =>
      cases hi
      exact ⟨_, rfl, h⟩
    | succ i => exact ih hi
theorem PrsAt.len {H : Hp} {bs : List Addr} {M : List (Int × Int)} (h : PrsAt H bs M) : M.length = bs.length := Paired.length h
theorem PrsAt.to {H H' : Hp} {bs : List Addr} {M : List (Int × Int)} (h : PrsAt H bs M) (s : Same H H') : PrsAt H' bs M := by
  unfold PrsAt at h ⊢
  induction h with
  | nil => exact .nil
  | cons h t ih => exact .cons (s _ _ h) ih
theorem prsAt_of {H : Hp} : ∀ {bs : List Addr}, (∀ b ∈ bs, ∃ x y, H b = some (.tup [.int x, .int y])) → PrsAt H bs (bs.map fun b => kOf H (.ref b))
  | [], _ => .nil
  | b :: bs, h => .cons (by
    obtain ⟨x, y, e⟩ := h b List.mem_cons_self
    show H b = some (.tup [.int (kOf H (.ref b)).1, .int (kOf H (.ref b)).2])
    rw [kOf_at e]
    exact e) (prsAt_of fun c hc => h c (List.mem_cons_of_mem _ hc))
theorem keys_prs {H : Hp} : ∀ {kvs : List (List L2.Key × V)} {bs : List Addr} {L : List (Int × Int)}, IsKeys H kvs bs → kvs.map (·.1) = L.map K2 → PrsAt H bs L
  | [], _, [], .nil, _ => .nil
  | [], _, _ :: _, _, h => by cases h
  | _ :: _, _, [], _, h => by cases h
  | p :: kvs, _, m :: L, .cons h t, e => .cons (by
    have e1 : p.1 = K2 m := (List.cons.inj e).1
    rw [e1] at h
    exact h) (keys_prs t (List.cons.inj e).2)
theorem PrsAt.kmap {H : Hp} {bs : List Addr} {M : List (Int × Int)} (h : PrsAt H bs M) : bs.map (fun b => kOf H (.ref b)) = M := by
  unfold PrsAt at h
  induction h with
  | nil => rfl
  | cons h t ih => rw [List.map_cons, ih, kOf_at h]
def rSortedDT : List V → Hp → VK → Prop := fun xs H Q => ∃ (a : Addr) (kvs : List (List L2.Key × V)) (L : List (Int × Int)), xs = [.ref a] ∧ H a = some (.dT kvs) ∧ kvs.map (·.1) = L.map K2 ∧
  ∀ (bs : List Addr) (M : List (Int × Int)) (p : Addr), PrsAt H bs M → M.Perm L → M.Pairwise (fun p q => SrtO.lexB q p = false) → H p = none → Q (.ref p) (upd H p (.lst (bs.map V.ref)))
section
variable {X : Cx}
theorem call_sortedDT (hcalm : X.calm = true) : CallR X (.builtin "sorted") rSortedDT := by
  intro pins s σ H xs us Q I r q
  obtain ⟨a, kvs, L, ex, hd, hks, q⟩ := q
  subst ex
  obtain ⟨u, eu, rx⟩ := vals1 r
  subst eu
  cases rx
  obtain ⟨z, hs, ks, pr, o, es, ep, ho, hx, hdt, he, hn⟩ := (show ObjOk X.prog X.w H s.heap a (.dT kvs) from I.hok a _ hd)
  have l1 : es.size = ks.length := size_of_entries he
  have l2 : kvs.length = ks.length := Paired.length pr
  refine Calls.call_function_entry PyProof.Rows.kind_sorted PyProof.Rows.plain_sorted PyProof.Rows.entry_sorted (PyProof.Rows.args_sorted1 _) ?_
  unfold Builtin.«sorted»
  refine wpAny_bind (m := checkCount "sorted" 1 1 _) (wpAny_pure ?_)
  refine wpAny_bind (PySem.W.kdu_collect (A := X.A.in1) (kdl_raw hs hx hdt) (I.ok.hd hcalm) ho (by omega) fun h' tk acc hk it => ?_)
  have ea : acc.toList = ks.map fun x => Value.ref x.2.1 := by
    have hl : acc.toList.length = ks.length := by rw [Array.length_toList, it.1]; exact l1
    apply List.ext_getElem?
    intro j
    rw [List.getElem?_map]
    cases hj : acc.toList[j]? with
    | none =>
      have h1 := List.getElem?_eq_none_iff.mp hj
      rw [List.getElem?_eq_none (by omega)]
      all_goals rfl
    | some v =>
      obtain ⟨en, hen, hv⟩ := it.2 j v (by rw [← Array.getElem?_toList]; exact hj)
      have qe := entry_at he j
      rw [hen] at qe
      cases hb : ks[j]? with
      | none =>
        rw [hb] at qe
        exact nomatch (show some en = none from qe)
      | some b =>
        rw [hb] at qe
        have e2 : en = entryOfKey (tupleKind (mixKind X.prog X.w)) b := Option.some.inj qe
        rw [hv, e2]
        all_goals rfl
  have hP : PrsAt H (ks.map fun x => x.2.1) L := keys_prs (isKeys_of pr) hks
  have eb : acc.toList = (ks.map fun x => x.2.1).map Value.ref := by rw [ea, List.map_map]; all_goals rfl
  generalize (ks.map fun x => x.2.1) = bs at hP eb
  have hbl : bs.length = acc.toList.length := by rw [eb, List.length_map]
  have hal : acc.toList.length ≤ sizeLine := by
    rw [Array.length_toList, it.1]
    omega
  have I1 : Inv X pins σ H { s with heap := h', toks := tk } := I.kept hk
  have hpair : ∀ v ∈ acc.toList, Srt.IsPair h' v (kOf H v).1 (kOf H v).2 := fun v hv => by
    rw [eb] at hv
    obtain ⟨b, hb, rfl⟩ := List.mem_map.mp hv
    obtain ⟨i, hi, ei⟩ := List.getElem_of_mem hb
    obtain ⟨m, _, hm⟩ := hP.get (List.getElem?_eq_some_iff.mpr ⟨hi, ei⟩)
    rw [kOf_at hm]
    obtain ⟨_, its2, r2, o, ho, hc, n, hd⟩ := I1.hok _ _ hm
    obtain ⟨u1, u2, rfl, ri, rj⟩ := vals2 r2
    obtain ⟨t1, rfl⟩ := ri
    obtain ⟨t2, rfl⟩ := rj
    exact ⟨b, o, t1, t2, n, rfl, ho, hc, hd⟩
  refine wpAny_bind (wpAny_newList ?_ hal)
  have hoL : (h'.push (seqObj "list" acc.toList.toArray 0)).get? h'.objs.size = some (seqObj "list" acc.toList.toArray 0) := Heap.get?_push_size _ rfl
  show wpAny _ _ _ _ _ { s with heap := h'.push (seqObj "list" acc.toList.toArray 0), toks := tk }
  refine wpAny_bind (wpAny_holding (wpAny_call_entry slot_list_sort ⟨_, hoL, rfl⟩ entry_list_sort
    (SrtO.list_sort_ord (s := { s with heap := h'.push (seqObj "list" acc.toList.toArray 0), toks := tk }) (SrtO.swo_lex (kOf H)) hoL hal (fun h2 => SrtO.pairs_sortableO (by omega) (fun v hm => (hpair v hm).keeps fun b o e _ => Heap.get?_push_of_some _ e) fun o e => ?_) fun out g1 g2 => ⟨_, rfl, ?_⟩) (args_list_sort _)))
  · have e' : some o = some (seqObj "list" acc.toList.toArray 0) := e.symm.trans hoL
    cases e'
    intro c
    exact absurd (Value.type.inj c) (by decide)
  obtain ⟨e', he'⟩ := PyProof.Rows.sortedHeap_at (vs := acc.toList) (out := out.toArray) hoL
  have hmem : ∀ v ∈ out, ∃ b, b ∈ bs ∧ v = Value.ref b := fun v hv => by
    have := g2.perm.mem_iff.mp hv
    rw [eb] at this
    obtain ⟨b, hb, rfl⟩ := List.mem_map.mp this
    exact ⟨b, hb, rfl⟩
  have hall : ∀ (l : List Value), (∀ v ∈ l, ∃ b, b ∈ bs ∧ v = Value.ref b) → ∃ cs : List Addr, l = cs.map Value.ref ∧ ∀ c ∈ cs, c ∈ bs := by
    intro l
    induction l with
    | nil => exact fun _ => ⟨[], rfl, fun _ h => nomatch h⟩
    | cons v l ih =>
      intro h
      obtain ⟨b, hb, rfl⟩ := h v List.mem_cons_self
      obtain ⟨cs, h1, h2⟩ := ih fun v hv => h v (List.mem_cons_of_mem _ hv)
      refine ⟨b :: cs, by rw [h1]; rfl, fun c hc => ?_⟩
      rcases List.mem_cons.mp hc with rfl | hc
      · exact hb
      · exact h2 c hc
  obtain ⟨cs, rfl, hcs⟩ := hall out hmem
  have hC : PrsAt H cs (cs.map fun b => kOf H (.ref b)) := prsAt_of fun b hb => by
    obtain ⟨i, hi, ei⟩ := List.getElem_of_mem (hcs b hb)
    obtain ⟨m, _, hm⟩ := hP.get (List.getElem?_eq_some_iff.mpr ⟨hi, ei⟩)
    exact ⟨_, _, hm⟩
  have hperm : (cs.map fun b => kOf H (.ref b)).Perm L := by
    have h1 := g2.perm.map (kOf H)
    rw [eb, List.map_map, List.map_map] at h1
    rw [← hP.kmap]
    exact h1
  have hsrt : (cs.map fun b => kOf H (.ref b)).Pairwise (fun p q => SrtO.lexB q p = false) := by
    have h1 : (cs.map Value.ref).Pairwise _ := g1
    rw [List.pairwise_map] at h1 ⊢
    exact h1
  have hlen : (cs.map V.ref).length ≤ sizeLine := by
    have := g2.perm.length_eq
    rw [List.length_map] at this ⊢
    omega
  refine wpAny_pure ⟨_, rfl, .ref h'.objs.size, upd H h'.objs.size (.lst (cs.map V.ref)), I1.laid (t' := tk) (fun b u e => ?_) (Nat.le_refl _)
    (show ObjOk X.prog X.w _ _ _ (.lst (cs.map V.ref)) from ⟨hlen, cs.map Value.ref, e', vals_refs cs, he'⟩), rfl, q cs _ _ hC hperm hsrt (I1.hok.fresh (Nat.le_refl _))⟩
  have hb : b < h'.objs.size := Heap.lt_size e
  rw [PyProof.Rows.sortedHeap_old (Nat.ne_of_lt hb) (by rw [size_push']; exact Nat.lt_succ_of_lt hb)]
  exact Heap.get?_push_of_some _ e
end
/-! ### the open ways of a net, by their places -/
def Lx2 (p q : (Int × Int) × Int) : Prop := SrtO.lexB p.1 q.1 = true
/-- the open ways with their prices, in their order -/
structure OwOk (N : Net) (L : List ((Int × Int) × Int)) : Prop where
  srt : L.Pairwise Lx2
  mem : ∀ x y p, ((x, y), p) ∈ L ↔ wyP N.ls x y = some p
theorem lx2_irr (p : (Int × Int) × Int) : ¬ Lx2 p p := fun h => by
  have := SrtO.lexB_iff.mp h
  omega
theorem lx2_asym {p q : (Int × Int) × Int} (h : Lx2 p q) (k : Lx2 q p) : False := by
  have a := SrtO.lexB_iff.mp h
  have b := SrtO.lexB_iff.mp k
  omega
theorem OwOk.nd {N : Net} {L : List ((Int × Int) × Int)} (h : OwOk N L) : L.Nodup := List.Pairwise.imp (S := fun a b => a ≠ b) (fun {p q} k (e : p = q) => lx2_irr p (by
  have := k
  rw [← e] at this
  exact this)) h.srt
theorem OwOk.uniq {N : Net} {L M : List ((Int × Int) × Int)} (h : OwOk N L) (k : OwOk N M) : L = M :=
  List.Perm.eq_of_pairwise (fun a b _ _ h1 h2 => (lx2_asym h1 h2).elim) h.srt k.srt ((List.perm_ext_iff_of_nodup h.nd k.nd).mpr fun z => by
    obtain ⟨⟨x, y⟩, p⟩ := z
    rw [h.mem, k.mem])
def owK (L : List ((Int × Int) × Int)) : List (List L2.Key × V) := L.map fun z => (K2 z.1, V.int z.2)
/-- the dict of the ways of links, its keys told -/
structure LinksK (H : Hp) (d : Addr) (ls : List Lnk) : Prop where
  ex : ∃ (kvs : List (List L2.Key × V)) (L : List (Int × Int)), H d = some (.dT kvs) ∧ kvs.length ≤ 2 * ls.length ∧ kvs.map (·.1) = L.map K2 ∧ L.Nodup ∧ ∀ x y : Int, valV kvs (K2 (x, y)) = lkv ls x y
theorem LinksK.to {H H' : Hp} {d : Addr} {ls : List Lnk} (h : LinksK H d ls) (s : Same H H') : LinksK H' d ls := by
  obtain ⟨kvs, L, e, r⟩ := h.ex
  exact ⟨kvs, L, s _ _ e, r⟩
theorem keys_putK {κ : Type} [DecidableEq κ] {kvs : List (κ × V)} {k : κ} {v : V} : (putK kvs k v).map (·.1) = if k ∈ kvs.map (·.1) then kvs.map (·.1) else kvs.map (·.1) ++ [k] := by
  unfold putK
  by_cases c : k ∈ kvs.map (·.1)
  · have c2 : (kvs.any fun kv => decide (kv.1 = k)) = true := by
      obtain ⟨z, hz, e⟩ := List.mem_map.mp c
      exact List.any_eq_true.mpr ⟨z, hz, decide_eq_true e⟩
    rw [if_pos c2, if_pos c, List.map_map]
    refine List.map_congr_left fun z _ => ?_
    show (if z.1 = k then (z.1, v) else z).1 = z.1
    split <;> rfl
  · have c2 : ¬ (kvs.any fun kv => decide (kv.1 = k)) = true := fun h => by
      obtain ⟨z, hz, e⟩ := List.any_eq_true.mp h
      exact c (List.mem_map.mpr ⟨z, hz, of_decide_eq_true e⟩)
    rw [if_neg c2, if_neg c, List.map_append]
    rfl
theorem keys_put2 {kvs : List (List L2.Key × V)} {L : List (Int × Int)} {p : Int × Int} {v : V} (h : kvs.map (·.1) = L.map K2) (nd : L.Nodup) : ∃ L' : List (Int × Int), (putK kvs (K2 p) v).map (·.1) = L'.map K2 ∧ L'.Nodup := by
  rw [keys_putK, h]
  by_cases c : p ∈ L
  · exact ⟨L, by rw [if_pos (List.mem_map.mpr ⟨p, c, rfl⟩)], nd⟩
  · refine ⟨L ++ [p], ?_, ?_⟩
    · rw [if_neg (fun z => by
        obtain ⟨q, hq, e⟩ := List.mem_map.mp z
        exact c (by rw [← K2_inj e]; exact hq)), List.map_append]
      rfl
    · refine List.nodup_append.mpr ⟨nd, List.nodup_cons.mpr ⟨List.not_mem_nil, .nil⟩, fun x hx y hy e => ?_⟩
      rw [List.mem_singleton.mp hy] at e
      exact c (e ▸ hx)
theorem valV_isSome {κ : Type} [DecidableEq κ] {kvs : List (κ × V)} {k : κ} : (valV kvs k).isSome = true ↔ k ∈ kvs.map (·.1) := by
  unfold valV
  rw [Option.isSome_map, List.find?_isSome]
  constructor
  · rintro ⟨z, hz, e⟩
    exact List.mem_map.mpr ⟨z, hz, of_decide_eq_true e⟩
  · intro h
    obtain ⟨z, hz, e⟩ := List.mem_map.mp h
    exact ⟨z, hz, decide_eq_true e⟩
theorem putK_new {κ : Type} [DecidableEq κ] {kvs : List (κ × V)} {k : κ} {v : V} (h : k ∉ kvs.map (·.1)) : putK kvs k v = kvs ++ [(k, v)] := by
  unfold putK
  exact if_neg fun c => by
    obtain ⟨z, hz, e⟩ := List.any_eq_true.mp c
    exact h (List.mem_map.mpr ⟨z, hz, of_decide_eq_true e⟩)
def spLinkWaysK (K : PySem.W.Frag) : Sp := fun vs H Q _ => ∃ (v : V) (N : Net), vs = [v] ∧ Dp K H v (netD N) ∧ N.ls.length ≤ 1700 ∧ ∀ H' d, Same H H' → LinksK H' d N.ls → Q (.ref d) H'
def spOpenWays (K : PySem.W.Frag) : Sp := fun vs H Q _ => ∃ (v : V) (N : Net), vs = [v] ∧ Dp K H v (netD N) ∧ NetOk N ∧ ∀ H' d L, Same H H' → H d = none → H' d = some (.dT (owK L)) → OwOk N L → L.length ≤ 5000 → Q (.ref d) H'
abbrev sOpenWays : Stmt := topS 11
theorem scOpenWays : FnScope ["net", "prices", "way"] ["net"] (defScope sOpenWays) := ⟨rfl, rfl, rfl, by decide +kernel, rfl, by decide +kernel, by decide +kernel⟩
section
variable {K : PySem.W.Frag} {σ : L2.St} {H : Hp} {td : TE} {Q : VK}
/-- the part of it that is open, in order -/
def opOf (ls : List Lnk) (M : List (Int × Int)) : List ((Int × Int) × Int) := M.filterMap fun p => (wyP ls p.1 p.2).map fun c => (p, c)
theorem opOf_snoc {ls : List Lnk} {M : List (Int × Int)} {p : Int × Int} : opOf ls (M ++ [p]) = opOf ls M ++ (match wyP ls p.1 p.2 with | some c => [(p, c)] | none => []) := by
  unfold opOf
  rw [List.filterMap_append]
  congr 1
  cases e : wyP ls p.1 p.2 with
  | none => rw [List.filterMap_cons_none (by rw [e]; rfl)]; rfl
  | some c => rw [List.filterMap_cons_some (b := (p, c)) (by rw [e]; rfl)]; rfl
theorem mem_opOf {ls : List Lnk} {M : List (Int × Int)} {z : (Int × Int) × Int} (h : z ∈ opOf ls M) : z.1 ∈ M ∧ wyP ls z.1.1 z.1.2 = some z.2 := by
  unfold opOf at h
  obtain ⟨p, hp, e⟩ := List.mem_filterMap.mp h
  obtain ⟨c, hc, e⟩ := Option.map_eq_some_iff.mp e
  subst e
  exact ⟨hp, hc⟩
theorem opOf_srt {ls : List Lnk} : ∀ {M : List (Int × Int)}, M.Nodup → M.Pairwise (fun p q => SrtO.lexB q p = false) → (opOf ls M).Pairwise Lx2
  | [], _, _ => .nil
  | p :: M, n, h => by
    obtain ⟨n1, n2⟩ := List.nodup_cons.mp n
    obtain ⟨h1, h2⟩ := List.pairwise_cons.mp h
    have ih := opOf_srt (ls := ls) n2 h2
    unfold opOf
    cases e : wyP ls p.1 p.2 with
    | none =>
      rw [List.filterMap_cons_none (by rw [e]; rfl)]
      exact ih
    | some c =>
      rw [List.filterMap_cons_some (b := (p, c)) (by rw [e]; rfl)]
      refine List.pairwise_cons.mpr ⟨fun z hz => ?_, ih⟩
      have hm := (mem_opOf hz).1
      have a := SrtO.lexB_no.mp (h1 z.1 hm)
      have ne : p ≠ z.1 := fun e => n1 (e ▸ hm)
      refine SrtO.lexB_iff.mpr ?_
      have ne2 : ¬ (p.1 = z.1.1 ∧ p.2 = z.1.2) := fun e => ne (Prod.ext e.1 e.2)
      show p.1 < z.1.1 ∨ p.1 = z.1.1 ∧ p.2 < z.1.2
      omega
/-- {way: d[way] for way in sorted(d) if d[way] is not None} -/
theorem dcT_open {j : Nat} {N : Net} {o : Addr} {bs : List Addr} {M : List (Int × Int)} {kl : List (List L2.Key × V)} {S : Addr} (ok : NetOk N) (hj : ∀ x, ((σ.set j none).set j (some x))[j]? = some (some x)) (hd : ∀ x H', Vl td ((σ.set j none).set j (some x)) H' (.ref o)) (ho : H o = some (.dT kl)) (hk : ∀ x y : Int, valV kl (K2 (x, y)) = lkv N.ls x y)
    (hS : H S = some (.lst (bs.map V.ref))) (hP : PrsAt H bs M) (nd : M.Nodup) (hin : ∀ p ∈ M, (lkv N.ls p.1 p.2).isSome = true) (hz : M.length ≤ 5000)
    (q : ∀ D H', Same H H' → H D = none → H' D = some (.dT (owK (opOf N.ls M))) → Q (.ref D) H') : ∀ D, H D = none → ∃ W : Nat → Nat → Hp → Prop, (∃ m, W 0 m (upd H D (.dT []))) ∧ ∀ i m H2, W i m H2 →
      ((Itl K S).stop i H2 ∧ Q (.ref D) H2) ∨ ((Itl K S).go i H2 ∧ ∃ Nx : Hp → Prop, (∀ H', Nx H' → ∃ m', m' < m ∧ W (i + 1) m' H') ∧ ∀ x H', (Itl K S).yld i H2 x H' → gName j x (wipe σ [j]) H' fun σ2 H2 => wipe σ2 [j] = wipe σ [j] ∧ tTest (tOp (fun x y H Q => y = V.non ∧ Q (V.bl (!decide (x = V.non))) H) (tDGet td (tVar j)) (tC .non)) σ2 H2 fun c H3 =>
        if c = true then (tVar j) σ2 H3 fun y H4 => (tDGet td (tVar j)) σ2 H4 fun z H5 => ∃ kvs k b, y = .ref b ∧ H5 b = some (.tup (k.map kV)) ∧ H5 D = some (.dT kvs) ∧ kvs.length < sizeLine ∧ Nx (upd H5 D (.dT (putK kvs k z))) else Nx H3) := fun D nD => by
  have bl := hP.len
  refine ⟨fun i m H2 => m + i = M.length ∧ H2 D = some (.dT (owK (opOf N.ls (M.take i)))) ∧ Same H H2, ⟨M.length, rfl, upd_same, same_upd nD⟩, fun i m H2 hW => ?_⟩
  obtain ⟨em, hD, s2⟩ := hW
  by_cases hi : i < M.length
  · have hg : M[i]? = some (M[i]'hi) := List.getElem?_eq_getElem hi
    have hnew : M[i]'hi ∉ M.take i := fun h => by
      obtain ⟨k, hk⟩ := List.mem_iff_getElem?.mp h
      have hlt := (List.getElem?_eq_some_iff.mp hk).1
      rw [List.length_take] at hlt
      rw [List.getElem?_take, if_pos (by omega), ← hg] at hk
      have := (List.getElem?_inj (by omega) nd).mp hk
      omega
    generalize M[i]'hi = p at hg hnew
    obtain ⟨b, hb, eb⟩ := hP.get2 hg
    have hbs : (bs.map V.ref)[i]? = some (.ref b) := by rw [List.getElem?_map, hb]; rfl
    refine .inr ⟨⟨_, _, .of (s2 _ _ hS), hbs⟩, fun H' => H' D = some (.dT (owK (opOf N.ls (M.take (i + 1))))) ∧ Same H H', fun H' h => ⟨m - 1, by omega, by omega, h⟩, fun x H' hy => ?_⟩
    obtain ⟨rfl, hy⟩ := hy
    cases (hy _ (.of (s2 _ _ hS))).symm.trans hbs
    obtain ⟨v, hv⟩ := Option.isSome_iff_exists.mp (hin p (List.mem_of_getElem? hg))
    have hvv : valV kl (K2 p) = some v := by
      have := hk p.1 p.2
      rw [hv] at this
      exact this
    have ev : v = oV (wyP N.ls p.1 p.2) := by
      have := lkv_wyP ok p.1 p.2
      rw [hv] at this
      exact this
    have get : Vl (tDGet td (tVar j)) ((σ.set j none).set j (some (V.ref b))) H' v := fun Q q => hd _ _ _ ⟨_, hj _, o, v, rfl, by rw [← hvv]; exact DGet.t (k := K2 p) (s2 _ _ ho) (s2 _ _ eb), q⟩
    refine ⟨?_, ?_⟩
    · show ((σ.set j none).set j (some (V.ref b))).set j none = σ.set j none
      rw [List.set_set, List.set_set]
    · refine get _ ⟨rfl, _, rfl, ?_⟩
      rw [take_snoc hg, opOf_snoc]
      cases e : wyP N.ls p.1 p.2 with
      | none =>
        rw [e] at ev
        rw [ev]
        refine iteF ⟨?_, s2⟩
        show H' D = some (.dT (owK (opOf N.ls (M.take i) ++ [])))
        rw [List.append_nil]
        exact hD
      | some c =>
        rw [e] at ev
        have evn : (!decide (v = .non)) = true := by rw [ev]; rfl
        rw [evn]
        refine iteT ⟨_, hj _, get _ ⟨_, K2 p, b, rfl, s2 _ _ eb, hD, ?_, ?_, same_upd' s2 nD⟩⟩
        · unfold owK opOf
          rw [List.length_map]
          have := List.length_filterMap_le (fun p : Int × Int => (wyP N.ls p.1 p.2).map fun c => (p, c)) (M.take i)
          rw [List.length_take] at this
          exact Nat.lt_of_le_of_lt (m := 5000) (by omega) (by decide)
        · rw [upd_same, putK_new, ev]
          · unfold owK
            rw [List.map_append]
            rfl
          · intro h
            unfold owK at h
            rw [List.map_map] at h
            obtain ⟨z, hz, ez⟩ := List.mem_map.mp h
            have : z.1 = p := K2_inj ez
            exact hnew (this ▸ (mem_opOf hz).1)
  · refine .inl ⟨⟨_, .of (s2 _ _ hS), by rw [List.length_map]; omega⟩, ?_⟩
    rw [List.take_of_length_le (by omega)] at hD
    exact q D H2 s2 nD hD
end
section
variable {P : Program} {w : World} {K : PySem.W.Frag} {mg : Str → Option Value} {base : Heap}
theorem ok_linkWaysK {f : Addr} {fd : FuncData} {k : Nat} (F : Fun K "link_ways" "link_ways" sLinkWays f fd) : FnOk P w K mg base CX0 (k + 1) f fd ["net"] (spLinkWaysK K) := by
  refine F.ok scLinkWays (fun vs H Q E h => ?_) (fun cdv A outer s H vs Q E hr h => ?_)
  · obtain ⟨v, N, rfl, _⟩ := h
    rfl
  · obtain ⟨v, N, rfl, hN, hl, q⟩ := h
    have hu := hu_of hr
    refine ⟨_, pss_cons (ps_set (i := 1) scLinkWays.nd rfl (.inl rfl) pe_dnewT)
      (pss_cons (ps_for PassesOwn.never rfl (pi_list (pe_ix ix_tup (pv 0) pe_int (fun _ _ => rfl))) (pg_tup rfl (pgs_cons (pg_name (i := 2) scLinkWays.nd rfl (.inl rfl)) (pgs_cons (pg_name (i := 3) scLinkWays.nd rfl (.inl rfl)) (pgs_cons (pg_name (i := 4) scLinkWays.nd rfl (.inl rfl)) (pgs_cons (pg_name (i := 5) scLinkWays.nd rfl (.inl rfl)) pgs_nil)))))
      (pss_cons (ps_dput hu (pv 1) (pe_tup (pa_cons (pv 2) (pa_cons (pv 3) pa_nil))) (pv 4) rfl)
        (pss_one (ps_dput hu (pv 1) (pe_tup (pa_cons (pv 3) (pa_cons (pv 2) pa_nil))) (pv 5) rfl))))
      (pss_one (ps_ret (pv 1)))), ?_⟩
    obtain ⟨p, c, xs, rfl, hp, hc, hx⟩ := Dp.net_inv hN
    refine q_dnewT fun o no => ?_
    refine q_forLnk (Hb := H) (vl_ixT (K := K) (vl_var rfl) vl_c (seqT (same_upd no) hp) (atI_nat (j := 1) rfl)) hc hx (same_upd no)
      (fun i σ H3 => ∃ y2 y3 y4 y5 kvs L, σ = [some (.ref p), some (.ref o), y2, y3, y4, y5] ∧ Same H H3 ∧ H3 o = some (.dT kvs) ∧ kvs.length ≤ 2 * i ∧ kvs.map (·.1) = L.map K2 ∧ L.Nodup ∧ ∀ x y : Int, valV kvs (K2 (x, y)) = lkv (N.ls.take i) x y)
      ⟨none, none, none, none, [], [], rfl, same_upd no, upd_same, Nat.zero_le _, rfl, .nil, fun x y => rfl⟩ (fun i σ H3 hP => ?_) (fun i l σ H3 hi hP => ?_) (fun σ H3 hP => ?_)
    · obtain ⟨_, _, _, _, _, _, _, s3, _⟩ := hP
      exact s3
    · obtain ⟨y2, y3, y4, y5, kvs, L, rfl, s3, ho, hlen, hks, hnd, hv⟩ := hP
      have hil := (List.getElem?_eq_some_iff.mp hi).1
      refine q_dputK (vl_var rfl) (vl_var rfl) (vl_var rfl) (vl_var rfl) ho (Nat.lt_of_le_of_lt (m := 10000) (by omega) (by decide)) fun T nT oT => ?_
      obtain ⟨L1, k1, n1⟩ := keys_put2 (p := (l.a, l.b)) (v := oV l.t) hks hnd
      refine g_dputK (vl_var rfl) (vl_var rfl) (vl_var rfl) (vl_var rfl) upd_same (Nat.lt_of_le_of_lt (m := 10000) (Nat.le_trans put_len (by omega)) (by decide)) fun T2 nT2 oT2 => ?_
      obtain ⟨L2_, k2, n2⟩ := keys_put2 (p := (l.b, l.a)) (v := oV l.k) k1 n1
      refine ⟨_, _, _, _, _, L2_, rfl, ?_, upd_same, Nat.le_trans put_len (Nat.le_trans (Nat.succ_le_succ put_len) (by omega)), k2, n2, fun x y => ?_⟩
      · refine fun b u e => ?_
        have e3 := s3 _ _ e
        have bo : b ≠ o := fun z => by rw [z, no] at e; cases e
        have sT : Same H3 (upd (upd H3 T (.tup [.int l.a, .int l.b])) o (.dT (putK kvs [Sum.inl l.a, Sum.inl l.b] (oV l.t)))) ∨ True := .inr trivial
        have bT : b ≠ T := fun z => by rw [z, nT] at e3; cases e3
        have bT2 : b ≠ T2 := fun z => by
          rw [← z, upd_ne bo, upd_ne bT, e3] at nT2
          cases nT2
        rw [upd_ne bo, upd_ne bT2, upd_ne bo, upd_ne bT]
        exact e3
      · rw [take_snoc hi, lkv_snoc]
        show valV (putK (putK kvs [Sum.inl l.a, Sum.inl l.b] (oV l.t)) [Sum.inl l.b, Sum.inl l.a] (oV l.k)) [Sum.inl x, Sum.inl y] = _
        have hv' : valV kvs [Sum.inl x, Sum.inl y] = lkv (N.ls.take i) x y := hv x y
        rw [valV_put, valV_put, hv']
        unfold lkS
        by_cases c1 : x = l.b ∧ y = l.a
        · rw [if_pos c1, if_pos (key2.mpr c1)]
        · rw [if_neg c1, if_neg (fun z => c1 (key2.mp z))]
          by_cases c2 : x = l.a ∧ y = l.b
          · rw [if_pos c2, if_pos (key2.mpr c2)]
          · rw [if_neg c2, if_neg (fun z => c2 (key2.mp z))]
    · obtain ⟨y2, y3, y4, y5, kvs, L, rfl, s3, ho, hlen, hks, hnd, hv⟩ := hP
      rw [List.take_length] at hv
      exact g_ret (vl_var rfl) (q H3 o s3 ⟨kvs, L, ho, hlen, hks, hnd, hv⟩)
theorem ok_openWays {f : Addr} {fd : FuncData} {k : Nat} (F : Fun K "open_ways" "open_ways" sOpenWays f fd) (c_link_ways : Kal P w K mg base k "link_ways" ["net"] (spLinkWaysK K)) (mo : mg "sorted" = none) : FnOk P w K mg base CX0 (k + 1) f fd ["net"] (spOpenWays K) := by
  refine F.ok scOpenWays (fun vs H Q E h => ?_) (fun cdv A outer s H vs Q E hr h => ?_)
  · obtain ⟨v, N, rfl, _⟩ := h
    rfl
  · obtain ⟨v, N, rfl, hN, ok, q⟩ := h
    have hu := hu_of hr
    refine ⟨_, pss_cons (ps_set (i := 1) scOpenWays.nd rfl (.inr rfl) (pe_k c_link_ways hr (by first | decide | omega) (by rfl) (pa_cons (pv 0) pa_nil)))
      (pss_one (ps_ret (pe_dcT (own := [("way", 2)]) (g := gName 2) (tt := (tTest (tOp (fun x y H Q => y = V.non ∧ Q (V.bl (!decide (x = V.non))) H) (tDGet (tVar 1) (tVar 2)) (tC .non)))) (tk := (tVar 2)) (tv := (tDGet (tVar 1) (tVar 2))) hu rfl scOpenWays.nd (pi_list (pe_callB (call_sortedDT rfl) (by rfl) mo (by decide +kernel) (pa_cons (pv 1) pa_nil))) (blkOk_by (own := [("way", 2)]) (N := ["net", "prices", "way"]) (sc := defScope sOpenWays) (by decide +kernel)) (fun _ _ _ _ _ => pg_name (i := 2) scOpenWays.nd rfl (Or.inl rfl)) (fun _ _ _ _ _ => by exact (pts_one (pt_cmpR op_notN (pe_dget hu (pv 1) (pv 2) (fun _ _ => rfl)) pe_non (nomark _)))) (fun _ _ _ _ _ => by exact (pv 2)) (fun _ _ _ _ _ => by exact (pe_dget hu (pv 1) (pv 2) (fun _ _ => rfl)))))), ?_⟩
    have l16 := ok.len
    refine q_asgE ⟨v, rfl, v, N, rfl, hN, by omega, fun H1 o s1 hL => ?_⟩
    obtain ⟨kl, L, ho, hlen, hks, hnd, hv⟩ := hL.ex
    have kLl : L.length ≤ 3200 := by
      have := congrArg List.length hks
      rw [List.length_map, List.length_map] at this
      omega
    refine ⟨.ref o, rfl, o, kl, L, rfl, ho, hks, fun bs M S hP hperm hsrt nS => ?_⟩
    have hPn : PrsAt (upd H1 S (.lst (bs.map V.ref))) bs M := hP.to (same_upd nS)
    refine ⟨S, rfl, ⟨_, .of upd_same⟩, dcT_open (K := K) (N := N) (kl := kl) (bs := bs) (M := M) ok (fun _ => rfl) (fun _ _ => vl_var rfl) (same_upd nS _ _ ho) hv upd_same hPn (hperm.nodup_iff.mpr hnd) (fun p hp => ?_) (by rw [hperm.length_eq]; omega) fun D H2 s2 nD eD => ?_⟩
    · have hm : K2 p ∈ kl.map (·.1) := by
        rw [hks]
        exact List.mem_map.mpr ⟨p, hperm.mem_iff.mp hp, rfl⟩
      have := valV_isSome.mpr hm
      rw [hv p.1 p.2] at this
      exact this
    · have sH := (s1.trans (same_upd nS)).trans s2
      refine q H2 D (opOf N.ls M) sH (Same.free (s1.trans (same_upd nS)) nD) eD ⟨opOf_srt (hperm.nodup_iff.mpr hnd) hsrt, fun x y p => ⟨fun h => (mem_opOf h).2, fun h => ?_⟩⟩ (by
        unfold opOf
        have := List.length_filterMap_le (fun p : Int × Int => (wyP N.ls p.1 p.2).map fun c => (p, c)) M
        have := hperm.length_eq
        omega)
      unfold opOf
      refine List.mem_filterMap.mpr ⟨(x, y), hperm.mem_iff.mpr ?_, by rw [h]; rfl⟩
      have e := lkv_wyP ok x y
      rw [h] at e
      have hs : (valV kl (K2 (x, y))).isSome = true := by
        rw [hv]
        cases z : lkv N.ls x y with
        | none => rw [z] at e; cases e
        | some v => rfl
      have := valV_isSome.mp hs
      rw [hks] at this
      obtain ⟨z, hz, ez⟩ := List.mem_map.mp this
      rw [← K2_inj ez]
      exact hz
end
def spLOpen (K : PySem.W.Frag) : Sp := fun vs H Q _ => ∃ (v : V) (N : Net) (x : Int), vs = [v, .int x] ∧ Dp K H v (netD N) ∧ NetOk N ∧ ∀ H' q ts L, Same H H' → H' q = some (.lst ts) → TupsAt H' ts L → L.Perm (opL N.ls x) → Q (.ref q) H'
def nearL (ls : List Lnk) (x : Int) : List Int := (ls.filter fun l => decide (l.a = x)).map (·.b) ++ (ls.filter fun l => decide (l.b = x)).map (·.a)
def spLNear9 (K : PySem.W.Frag) : Sp := fun vs H Q _ => ∃ (v : V) (N : Net) (x : Int), vs = [v, .int x] ∧ Dp K H v (netD N) ∧ NetOk N ∧ ∀ H' q, Same H H' → H' q = some (.lst ((nearL N.ls x).map V.int)) → Q (.ref q) H'
section
variable {K : PySem.W.Frag} {σ : L2.St} {H : Hp} {tl te : TE} {tt : TT} {D : Ends}
/-- out.append((i, v)), v an int or None -/
theorem g_appOp {ta tb to_ : TE} {l : Addr} {xs : List V} {x y : V} (ho : Vl to_ σ H (.ref l)) (hl : H l = some (.lst xs)) (hx : Vl ta σ H x) (hy : Vl tb σ H y) (hz : xs.length < sizeLine) (k : ∀ T, H T = none → D.nx σ (L2.upd (L2.upd H T (.tup [x, y])) l (.lst (xs ++ [.ref T])))) :
    tDrop (tBM K "list" rAppend to_ (tCons (tTup (tCons ta (tCons tb tNil))) tNil)) D σ H := ho _ ⟨.inl ⟨rfl, _, .inl (.inl hl)⟩, hx _ (hy _ ⟨by show 2 ≤ sizeLine; decide, fun T nT => ⟨l, xs, .ref T, rfl, rfl, same_upd nT _ _ hl, hz, k T nT⟩⟩)⟩
/-- [v for a, b, t, k in links if ..] -/
theorem vn_lcLnk {j1 j2 j3 j4 : Nat} {a : Addr} {xs : List V} {ls : List Lnk} {pb : Lnk → Bool} {f : Lnk → Int} (h : Vl tl σ H (.ref a)) (hx : SqL K H a xs) (hL : DpAll K H xs (ls.map lnkD)) (hz : ls.length ≤ 10000)
    (hs : ∀ v1 v2 v3 v4 : V, wipe (((((wipe σ [j1, j2, j3, j4]).set j1 (some v1)).set j2 (some v2)).set j3 (some v3)).set j4 (some v4)) [j1, j2, j3, j4] = wipe σ [j1, j2, j3, j4])
    (ht : ∀ (l : Lnk) H', An tt (((((wipe σ [j1, j2, j3, j4]).set j1 (some (.int l.a))).set j2 (some (.int l.b))).set j3 (some (oV l.t))).set j4 (some (oV l.k))) H' (pb l))
    (he : ∀ (l : Lnk) H', Vl te (((((wipe σ [j1, j2, j3, j4]).set j1 (some (.int l.a))).set j2 (some (.int l.b))).set j3 (some (oV l.t))).set j4 (some (oV l.k))) H' (.int (f l))) :
    Vn (tLc (iList K tl) (gTup K 4 (gCons (gName j1) (gCons (gName j2) (gCons (gName j3) (gCons (gName j4) gNil))))) tt te [j1, j2, j3, j4]) σ H (((ls.filter pb).map f).map V.int) := fun Q q => by
  refine h _ ⟨a, rfl, ⟨_, hx⟩, fun D nD => lc_list (K := K) (a := a) (xs := xs) (fun i H' => H' D = some (.lst ((((ls.take i).filter pb).map f).map V.int)) ∧ Same H H') ⟨upd_same, same_upd nD⟩ (fun i H' _ hP => hP.2.seq hx) (fun i x H2 hi hP => ?_) (fun H2 hP => ?_)⟩
  · obtain ⟨hD, s2⟩ := hP
    have e := DpAll.len hL
    rw [List.length_map] at e
    have hlt := (List.getElem?_eq_some_iff.mp hi).1
    have hg : ls[i]? = some (ls[i]'(by omega)) := List.getElem?_eq_getElem (by omega)
    generalize ls[i]'(by omega) = l at hg
    obtain ⟨v, hv, dv⟩ := DpAll.get (i := i) (d := lnkD l) hL (by
      rw [List.getElem?_map, hg]
      rfl)
    cases hi.symm.trans hv
    obtain ⟨t, rfl, htl⟩ := Dp.lnk_inv dv
    refine ⟨t, _, rfl, seqT s2 htl, rfl, _, _, rfl, _, _, rfl, _, _, rfl, _, _, rfl, rfl, hs _ _ _ _, ht l H2 _ ?_⟩
    rw [take_snoc hg, List.filter_append]
    cases e2 : pb l with
    | true =>
      refine iteT (he l H2 _ ⟨_, hD, ?_, ?_, same_upd' s2 nD⟩)
      · rw [List.length_map, List.length_map]
        have h1 := List.length_filter_le pb (ls.take i)
        rw [List.length_take] at h1
        exact Nat.lt_of_le_of_lt (m := 10000) (by omega) (by decide)
      · rw [upd_same, List.filter_cons_of_pos e2, List.map_append, List.map_append]
        rfl
    | false =>
      refine iteF ⟨?_, s2⟩
      rw [List.filter_cons_of_neg (by rw [e2]; exact Bool.false_ne_true), List.filter_nil, List.append_nil]
      exact hD
  · obtain ⟨hD, s2⟩ := hP
    have e := DpAll.len hL
    rw [List.length_map] at e
    rw [e, List.take_length] at hD
    exact q D H2 s2 nD hD
end
section
variable {P : Program} {w : World} {K : PySem.W.Frag} {mg : Str → Option Value} {base : Heap}
end
/-! ### the open ways from each place -/
def frS (L : List ((Int × Int) × Int)) (x : Int) : List (Int × Int) := (L.filter fun z => decide (z.1.1 = x)).map fun z => (z.1.2, z.2)
theorem frS_snoc {L : List ((Int × Int) × Int)} {z : (Int × Int) × Int} {x : Int} : frS (L ++ [z]) x = frS L x ++ (if z.1.1 = x then [(z.1.2, z.2)] else []) := by
  unfold frS
  rw [List.filter_append, List.map_append]
  congr 1
  by_cases c : z.1.1 = x
  · rw [List.filter_cons_of_pos (p := fun z : (Int × Int) × Int => decide (z.1.1 = x)) (decide_eq_true c), if_pos c]
    rfl
  · rw [List.filter_cons_of_neg (p := fun z : (Int × Int) × Int => decide (z.1.1 = x)) (by rw [decide_eq_false c]; exact Bool.false_ne_true), if_neg c]
    rfl
theorem frS_len {L : List ((Int × Int) × Int)} {x : Int} : (frS L x).length ≤ L.length := by
  unfold frS
  rw [List.length_map]
  exact List.length_filter_le _ _
theorem mem_frS {L : List ((Int × Int) × Int)} {x y p : Int} : (y, p) ∈ frS L x ↔ ((x, y), p) ∈ L := by
  unfold frS
  rw [List.mem_map]
  constructor
  · rintro ⟨z, hz, e⟩
    obtain ⟨h1, h2⟩ := List.mem_filter.mp hz
    obtain ⟨⟨a, b⟩, c⟩ := z
    cases e
    have : a = x := of_decide_eq_true h2
    rw [← this]
    exact h1
  · exact fun h => ⟨((x, y), p), List.mem_filter.mpr ⟨h, decide_eq_true rfl⟩, rfl⟩
structure NearD (N : Net) (H : Hp) (d : Addr) (L : List ((Int × Int) × Int)) : Prop where
  ok : OwOk N L
  len : L.length ≤ 5000
  ex : ∃ kvs : List (L2.Key × V), H d = some (.dK kvs) ∧ ∀ x : Int, 0 ≤ x → x < N.n → ∃ a ts, valV kvs (.inl x) = some (.ref a) ∧ H a = some (.lst ts) ∧ TupsAt H ts (frS L x)
  keys : ∀ kvs : List (L2.Key × V), H d = some (.dK kvs) → kvs.map (·.1) = (rng N.n).map Sum.inl
theorem kz_keys9 {κ : Type} : ∀ {ks : List κ} {rs : List Addr}, ks.length = rs.length → (kz ks rs).map (·.1) = ks
  | [], _, _ => rfl
  | k :: ks, [], h => (nomatch h)
  | k :: ks, r :: rs, h => by
    show k :: (kz ks rs).map (·.1) = k :: ks
    rw [kz_keys9 (Nat.succ.inj h)]
theorem NearD.to {N : Net} {H H' : Hp} {d : Addr} {L : List ((Int × Int) × Int)} (h : NearD N H d L) (s : Same H H') : NearD N H' d L := by
  obtain ⟨kvs, e, r⟩ := h.ex
  refine ⟨h.ok, h.len, ⟨kvs, s _ _ e, fun x h0 h1 => ?_⟩, fun kvs' e' => ?_⟩
  · obtain ⟨a, ts, e1, e2, e3⟩ := r x h0 h1
    exact ⟨a, ts, e1, s _ _ e2, e3.to s⟩
  · rw [s _ _ e] at e'
    cases e'
    exact h.keys kvs e
def spWaysFrom (K : PySem.W.Frag) : Sp := fun vs H Q _ => ∃ (v : V) (N : Net), vs = [v] ∧ Dp K H v (netD N) ∧ NetOk N ∧ ∀ H' d L, Same H H' → H d = none → NearD N H' d L → Q (.ref d) H'
abbrev sWaysFrom : Stmt := topS 12
theorem scWaysFrom : FnScope ["net", "found", "a", "b", "cost", "place"] ["net"] (defScope sWaysFrom) := ⟨rfl, rfl, rfl, by decide +kernel, rfl, by decide +kernel, by decide +kernel⟩
section
variable {K : PySem.W.Frag} {σ : L2.St} {H : Hp} {tr : TA}
/-- {x: [] for x in range(n)} -/
theorem dc_rowsR {j : Nat} {n : Nat} {Q : VK} (hj : j < σ.length) (hl : Va tr σ H [.int (n : Nat)]) (hz : n ≤ 1000)
    (q : ∀ D H' (rw : List Addr), Same H H' → H D = none → H' D = some (.dK (kz ((List.range n).map fun (i : Nat) => (Sum.inl (i : Int) : L2.Key)) rw)) → rw.length = n → rw.Nodup → D ∉ rw → (∀ a ∈ rw, H a = none ∧ H' a = some (.lst [])) → Q (.ref D) H') : tDc (iRng1 tr) (gName j) tYes (tVar j) (tLst tNil) [j] σ H Q := by
  refine hl _ ⟨(n : Nat), rfl, by omega, by omega, fun D nD => ?_⟩
  refine ⟨fun i m H2 => m + i = n ∧ ∃ rw : List Addr, H2 D = some (.dK (kz ((List.range i).map fun (i : Nat) => (Sum.inl (i : Int) : L2.Key)) rw)) ∧ Same H H2 ∧ rw.length = i ∧ rw.Nodup ∧ D ∉ rw ∧ ∀ a ∈ rw, H a = none ∧ H2 a = some (.lst []),
    ⟨n, rfl, [], upd_same, same_upd nD, rfl, .nil, List.not_mem_nil, fun _ h => (nomatch h)⟩, fun i m H2 hW => ?_⟩
  obtain ⟨em, rw_, hD, s2, hlen, hnd, hDn, hr⟩ := hW
  by_cases hi : i < n
  · refine .inr ⟨by show i < (((n : Nat) : Int)).toNat; omega, fun H2 => ∃ rw : List Addr, H2 D = some (.dK (kz ((List.range (i + 1)).map fun (i : Nat) => (Sum.inl (i : Int) : L2.Key)) rw)) ∧ Same H H2 ∧ rw.length = i + 1 ∧ rw.Nodup ∧ D ∉ rw ∧ ∀ a ∈ rw, H a = none ∧ H2 a = some (.lst []), fun H' h => ⟨m - 1, by omega, by omega, h⟩, fun x H' hy => ?_⟩
    obtain ⟨rfl, hy⟩ := hy
    rw [Int.zero_add] at hy
    subst hy
    refine ⟨?_, ?_⟩
    · show ((σ.set j none).set j (some (V.int i))).set j none = σ.set j none
      rw [List.set_set, List.set_set]
    · refine yes_of ?_
      dsimp only
      rw [if_pos rfl]
      have hjl : ((σ.set j none).set j (some (V.int (i : Int))))[j]? = some (some (V.int (i : Int))) := List.getElem?_set_self (by rw [List.length_set]; exact hj)
      have hlr : ((List.range i).map fun (i : Nat) => (Sum.inl (i : Int) : L2.Key)).length = rw_.length := by rw [List.length_map, List.length_range, hlen]
      refine ⟨_, hjl, Nat.zero_le _, fun p np => ⟨_, Sum.inl (i : Int), rfl, same_upd np _ _ hD, ?_, rw_ ++ [p], ?_, ?_, ?_, ?_, ?_, fun b hb => ?_⟩⟩
      · rw [kz_len hlr.symm, List.length_map, List.length_range]
        exact Nat.lt_of_le_of_lt (m := 1000) (by omega) (by decide)
      · rw [upd_same, kz_put (fun h => by
          obtain ⟨z, hz, e⟩ := List.mem_map.mp h
          have := List.mem_range.mp hz
          have := Sum.inl.inj e
          omega) hlr, List.range_succ, List.map_append]
        rfl
      · exact same_upd' (s2.trans (same_upd np)) nD
      · rw [List.length_append, hlen]
        rfl
      · refine List.nodup_append.mpr ⟨hnd, List.nodup_cons.mpr ⟨List.not_mem_nil, .nil⟩, fun x hx y hy e => ?_⟩
        rw [List.mem_singleton.mp hy] at e
        have := (hr x hx).2
        rw [e, np] at this
        cases this
      · intro h
        rcases List.mem_append.mp h with h | h
        · exact hDn h
        · rw [List.mem_singleton.mp h, np] at hD
          cases hD
      · rcases List.mem_append.mp hb with h | h
        · exact ⟨(hr b h).1, by
            rw [upd_ne (fun e => hDn (by rw [← e]; exact h))]
            exact same_upd np _ _ (hr b h).2⟩
        · have e := List.mem_singleton.mp h
          refine ⟨by rw [e]; exact Same.free s2 np, ?_⟩
          rw [e, upd_ne (fun z => by rw [← z, np] at hD; cases hD)]
          exact upd_same
  · refine .inl ⟨by show (((n : Nat) : Int)).toNat ≤ i; omega, ?_⟩
    have ei : i = n := by omega
    rw [ei] at hD
    exact q D H2 rw_ s2 nD hD (by omega) hnd hDn hr
end
section
variable {P : Program} {w : World} {K : PySem.W.Frag} {mg : Str → Option Value} {base : Heap}
theorem ok_waysFrom {f : Addr} {fd : FuncData} {k : Nat} (F : Fun K "ways_from" "ways_from" sWaysFrom f fd) (c_open_ways : Kal P w K mg base k "open_ways" ["net"] (spOpenWays K)) (mr : mg "range" = none) : FnOk P w K mg base CX0 (k + 1) f fd ["net"] (spWaysFrom K) := by
  refine F.ok scWaysFrom (fun vs H Q E h => ?_) (fun cdv A outer s H vs Q E hr h => ?_)
  · obtain ⟨v, N, rfl, _⟩ := h
    rfl
  · obtain ⟨v, N, rfl, hN, ok, q⟩ := h
    have hu := hu_of hr
    refine ⟨_, pss_cons (ps_setDc (i := 1) (own := [("place", 5)]) (g := gName 5) (tt := tYes) (tk := (tVar 5)) (tv := (tLst tNil)) rfl scWaysFrom.nd rfl rfl (swapsD rfl rfl rfl (by decide +kernel)) (pi_range1 (by rfl) mr (pa_cons (pe_ix ix_tup (pv 0) pe_int (fun _ _ => rfl)) pa_nil)) (blkOk_by (own := [("place", 5)]) (N := ["net", "found", "a", "b", "cost", "place"]) (sc := defScope sWaysFrom) (by decide +kernel)) (fun _ _ _ _ _ => pg_name (i := 5) scWaysFrom.nd rfl (Or.inl rfl)) (fun _ _ _ _ _ => by exact pts_nil) (fun _ _ _ _ _ => by exact (pv 5)) (fun _ _ _ _ _ => by exact (pe_lst pa_nil)))
      (pss_cons (ps_for PassesOwn.never rfl (pi_itemsT (pe_k c_open_ways hr (by first | decide | omega) (by rfl) (pa_cons (pv 0) pa_nil))) (pg_tup rfl (pgs_cons (pg_tup rfl (pgs_cons (pg_name (i := 2) scWaysFrom.nd rfl (.inl rfl)) (pgs_cons (pg_name (i := 3) scWaysFrom.nd rfl (.inl rfl)) pgs_nil))) (pgs_cons (pg_name (i := 4) scWaysFrom.nd rfl (.inl rfl)) pgs_nil)))
      (pss_one (ps_expr (pe_bm PySem.F.plainAttrs_list PySem.F.slot_list_append PySem.F.type_list_append mt_append (pe_dget hu (pv 1) (pv 2) (fun _ _ => rfl)) (pa_cons (pe_tup (pa_cons (pv 3) (pa_cons (pv 4) pa_nil))) pa_nil)))))
      (pss_one (ps_ret (pv 1)))), ?_⟩
    obtain ⟨p, c, xs, rfl, hp, hc, hx⟩ := Dp.net_inv hN
    have n1 := ok.n1
    have n40 := ok.n40
    have l16 := ok.len
    obtain ⟨n, en⟩ := Int.eq_ofNat_of_zero_le (show 0 ≤ N.n by omega)
    refine q_asgE (dc_rowsR (n := n) (by show 5 < 6; decide) (va_cons ((vl_ixT (K := K) (vl_var rfl) vl_c hp (atI_nat (j := 0) rfl)).is (by show V.int N.n = _; rw [en])) va_nil) (by omega) fun d1 H1 r1 s1 n1_ e1 l1 nd1 nn1 hr1 => ?_)
    refine ⟨.ref p, rfl, .ref p, N, rfl, Dp.to hN s1, ok, fun H2 d2 L s2 n2 e2 hL hLl => ⟨d2, owK L, rfl, e2, fun od => ?_⟩⟩
    have s02 := s1.trans s2
    have nd2 : H d2 = none := Same.free s1 n2
    have eK : ∀ x : Int, 0 ≤ x → x < N.n → ∃ (i : Nat) (a : Addr), x = (i : Int) ∧ r1[i]? = some a ∧ valV (kz ((List.range n).map fun (i : Nat) => (Sum.inl (i : Int) : L2.Key)) r1) (.inl x) = some (.ref a) := fun x h0 h1 => by
      obtain ⟨i, rfl⟩ := Int.eq_ofNat_of_zero_le h0
      have il : i < n := by omega
      have ha : r1[i]? = some (r1[i]'(by omega)) := List.getElem?_eq_getElem (by omega)
      refine ⟨i, _, rfl, ha, kz_val (i := i) ?_ ?_ ha⟩
      · exact List.Pairwise.map _ (fun a b hab e => hab (Int.ofNat.inj (Sum.inl.inj e))) List.nodup_range
      · rw [List.getElem?_map, List.getElem?_range il]
        rfl
    refine for_it (walk_itemsT (d := d2) (o := od) (kvs := owK L))
      (fun i σ H3 => ∃ y2 y3 y4, σ = [some (.ref p), some (.ref d1), y2, y3, y4, none] ∧ Same H H3 ∧ H3 d2 = some (.frz od (.dT (owK L))) ∧ H3 d1 = some (.dK (kz ((List.range n).map fun (i : Nat) => (Sum.inl (i : Int) : L2.Key)) r1)) ∧ ∀ (x : Nat) a, r1[x]? = some a → ∃ ts, H3 a = some (.lst ts) ∧ TupsAt H3 ts (frS (L.take i) x))
      ⟨_, _, _, rfl, same_upd' s02 nd2, upd_same, by rw [upd_ne (fun e => by rw [e, n2] at e1; cases e1)]; exact s2 _ _ e1, fun x a ha => ⟨[], ?_, TupsAt.nil⟩⟩ (fun i σ H3 _ hP => ?_) (fun i x σ H3 H4 hi hP hY => ?_) (fun σ H3 hP => ?_)
    · have := (hr1 a (List.mem_of_getElem? ha)).2
      rw [upd_ne (fun e => by rw [e, n2] at this; cases this)]
      exact s2 _ _ this
    · obtain ⟨_, _, _, _, _, e, _⟩ := hP
      exact e
    · obtain ⟨y2, y3, y4, rfl, s3, ed2, ed1, hA⟩ := hP
      obtain ⟨T, kk, v, b, hkv, hb, rfl, nT, rfl⟩ := hY
      unfold owK at hkv
      rw [List.getElem?_map] at hkv
      obtain ⟨z, hz, ez⟩ := Option.map_eq_some_iff.mp hkv
      obtain ⟨⟨x, y⟩, pr⟩ := z
      cases ez
      have hw := (hL.mem x y pr).mp (List.mem_of_getElem? hz)
      have hin := wyP_in ok hw
      have sT : Same H3 (upd H3 T (.tup [.ref b, .int pr])) := same_upd nT
      refine ⟨T, _, rfl, .of upd_same, rfl, _, _, rfl, ⟨b, _, rfl, .of (sT _ _ hb), rfl, _, _, rfl, _, _, rfl, rfl, _, _, rfl, rfl, ?_⟩⟩
      obtain ⟨xi, a, rfl, ha, hv⟩ := eK x hin.1.1 hin.1.2
      obtain ⟨ts, ea, hT⟩ := hA xi a ha
      have ea' := sT _ _ ea
      have dne : d1 ≠ a := fun e => nn1 (e ▸ List.mem_of_getElem? ha)
      have d2ne : d2 ≠ a := fun e => by rw [e, ea] at ed2; cases ed2
      refine g_appOp (K := K) (vl_dgetI (vl_var rfl) (vl_var rfl) (sT _ _ ed1) hv) ea' (vl_var rfl) (vl_var rfl) ?_ fun T2 nT2 => ?_
      · rw [hT.len]
        have := frS_len (L := L.take i) (x := (xi : Int))
        rw [List.length_take] at this
        exact Nat.lt_of_le_of_lt (m := 10000) (by omega) (by decide)
      · have sT2 : Same (upd H3 T (.tup [.ref b, .int pr])) (upd (upd H3 T (.tup [.ref b, .int pr])) T2 (.tup [.int y, .int pr])) := same_upd nT2
        refine ⟨_, _, _, rfl, same_upd' (s3.trans (sT.trans sT2)) (hr1 a (List.mem_of_getElem? ha)).1, by rw [upd_ne d2ne]; exact sT2 _ _ (sT _ _ ed2), by rw [upd_ne dne]; exact sT2 _ _ (sT _ _ ed1), fun x' a' ha' => ?_⟩
        rw [take_snoc hz, frS_snoc]
        by_cases c : x' = xi
        · subst c
          cases ha.symm.trans ha'
          rw [if_pos rfl]
          exact ⟨_, upd_same, (((hT.to sT).to sT2).app (TupsAt.one upd_same)).upd (sT2 _ _ ea')⟩
        · have ane : a' ≠ a := fun e => by
            rw [e, ← ha] at ha'
            have := (List.getElem?_inj (by have := (List.getElem?_eq_some_iff.mp ha).1; omega) nd1).mp ha'.symm
            omega
          obtain ⟨ts', e1', hT'⟩ := hA x' a' ha'
          rw [if_neg (fun e : (xi : Int) = (x' : Int) => c (by omega)), List.append_nil]
          exact ⟨ts', by rw [upd_ne ane]; exact sT2 _ _ (sT _ _ e1'), ((hT'.to sT).to sT2).upd (sT2 _ _ ea')⟩
    · obtain ⟨y2, y3, y4, rfl, s3, ed2, ed1, hA⟩ := hP
      unfold owK at hA
      rw [List.length_map, List.take_length] at hA
      refine g_ret (vl_var rfl) (q H3 d1 L s3 n1_ ⟨hL, hLl, ⟨_, ed1, fun x h0 h1 => ?_⟩, fun kvs' e' => ?_⟩)
      · obtain ⟨xi, a, rfl, ha, hv⟩ := eK x h0 h1
        obtain ⟨ts, ea, hT⟩ := hA xi a ha
        exact ⟨a, ts, hv, ea, hT⟩
      · rw [ed1] at e'
        cases e'
        rw [kz_keys9 (by rw [List.length_map, List.length_range, l1])]
        unfold rng
        rw [List.map_map, en]
        rfl
end
end Ovc
namespace SrtO
open PySem PyProof.Rows Srt
def lexT (p q : Int × Int × Int) : Bool := if p.1 = q.1 then (if p.2.1 = q.2.1 then decide (p.2.2 < q.2.2) else decide (p.2.1 < q.2.1)) else decide (p.1 < q.1)
theorem lexT_iff {p q : Int × Int × Int} : lexT p q = true ↔ p.1 < q.1 ∨ (p.1 = q.1 ∧ (p.2.1 < q.2.1 ∨ (p.2.1 = q.2.1 ∧ p.2.2 < q.2.2))) := by
  unfold lexT
  split
  · split
    · rw [decide_eq_true_eq]
      omega
    · rw [decide_eq_true_eq]
      omega
  · rw [decide_eq_true_eq]
    omega
theorem lexT_no {p q : Int × Int × Int} : lexT p q = false ↔ ¬ (p.1 < q.1 ∨ (p.1 = q.1 ∧ (p.2.1 < q.2.1 ∨ (p.2.1 = q.2.1 ∧ p.2.2 < q.2.2)))) := by
  rw [← lexT_iff]
  cases lexT p q <;> simp
theorem swo_lexT {α : Type} (k : α → Int × Int × Int) : Swo fun v u => lexT (k v) (k u) := by
  refine ⟨fun x y h => ?_, fun x y z h1 h2 => ?_⟩
  · have a := lexT_iff.mp h
    refine lexT_no.mpr ?_
    omega
  · have a := lexT_no.mp h1
    have b := lexT_no.mp h2
    refine lexT_no.mpr ?_
    omega
section
variable {prog : Program} {w : World} {A : Around} {E : Value → Shared → Prop} {s : Shared}
/-- a tuple of three ints -/
def IsTrip (h : Heap) (v : Value) (p : Int × Int × Int) : Prop := ∃ a o t u c n, v = .ref a ∧ h.get? a = some o ∧ o.cls = .type "tuple" ∧ o.data = .seq #[.int p.1 t, .int p.2.1 u, .int p.2.2 c] n
theorem IsTrip.keeps {h h' : Heap} {v : Value} {p : Int × Int × Int} (x : IsTrip h v p) (k : ∀ b o, h.get? b = some o → o.cls = .type "tuple" → h'.get? b = some o) : IsTrip h' v p := by
  obtain ⟨a, o, t, u, c, n, e, ho, hc, hd⟩ := x
  exact ⟨a, o, t, u, c, n, e, k _ _ ho hc, hc, hd⟩
theorem firsts_trip {h : Heap} : ∀ {vs : List Value}, (∀ v ∈ vs, ∃ p, IsTrip h v p) → ∃ fs : List Value, PySem.W.KatTups h vs fs ∧ fs.length = vs.length ∧ ∀ f ∈ fs, ∃ x t, f = Value.int x t
  | [], _ => ⟨[], PySem.W.KatTups.nil, rfl, fun _ hm => by simp at hm⟩
  | v :: vs, hp => by
    obtain ⟨fs, h1, h2, h3⟩ := firsts_trip (vs := vs) fun v' hm => hp v' (List.mem_cons_of_mem _ hm)
    obtain ⟨p, a, o, t, u, c, n, e, ho, hc, hd⟩ := hp v (List.mem_cons_self ..)
    subst e
    refine ⟨.int p.1 t :: fs, PySem.W.KatTups.cons ho hc hd rfl h1, by rw [List.length_cons, List.length_cons, h2], fun f hm => ?_⟩
    rcases List.mem_cons.mp hm with rfl | hm
    · exact ⟨p.1, t, rfl⟩
    · exact h3 f hm
theorem trip_cmp {vs : List Value} {k : Value → Int × Int × Int} (hp : ∀ v ∈ vs, IsTrip s.heap v (k v)) : Cmp prog w A s (tuples' true) (fun p => p.1 ∈ vs) (lt2 fun v u => lexT (k v) (k u)) := by
  intro p q hm hm'
  have h1 := hp _ hm
  have h2 := hp _ hm'
  show wpAny (model prog w) A (keyLt' (tuples' true) p.1 q.1) (fun r s' => s' = s ∧ r = lexT (k p.1) (k q.1)) (fun _ _ => False) s
  unfold lexT
  obtain ⟨a, o, t, u, c, n, e, ho, hc, hd⟩ := h1
  obtain ⟨a', o', t', u', c', n', e', ho', hc', hd'⟩ := h2
  generalize (k p.1).1 = x at hd ⊢
  generalize (k p.1).2.1 = y at hd ⊢
  generalize (k p.1).2.2 = z at hd ⊢
  generalize (k q.1).1 = x' at hd' ⊢
  generalize (k q.1).2.1 = y' at hd' ⊢
  generalize (k q.1).2.2 = z' at hd' ⊢
  rw [e, e']
  refine PySem.W.kat_lt ho hd ho' hd' ?_
  show PySem.W.KatLex prog w A true (decide (3 < 3)) _ [(.int x t, .int x' t'), (.int y u, .int y' u'), (.int z c, .int z' c')] 0 s
  refine PySem.W.kat_cons (SeqAt.EqAt.int_int x t x' t' prog w _ _ ?_)
  refine PySem.W.kat_go (fun e1 => ?_) (fun e1 => ?_)
  · have ex : x = x' := by simpa using e1
    refine PySem.W.kat_yes (PySem.W.kat_cons (SeqAt.EqAt.int_int y u y' u' prog w _ _ ?_))
    refine PySem.W.kat_go (fun e2 => ?_) (fun e2 => ?_)
    · have ey : y = y' := by simpa using e2
      refine PySem.W.kat_yes (PySem.W.kat_cons (SeqAt.EqAt.int_int z c z' c' prog w _ _ ?_))
      refine PySem.W.kat_go (fun e3 => ?_) (fun e3 => ?_)
      · have ez : z = z' := by simpa using e3
        have e4 : (if x = x' then (if y = y' then decide (z < z') else decide (y < y')) else decide (x < x')) = false := by
          rw [if_pos ex, if_pos ey, ez]
          exact decide_eq_false (Int.lt_irrefl _)
        exact PySem.W.kat_yes (PySem.W.kat_nil ⟨rfl, e4.symm⟩)
      · have e4 : (if x = x' then (if y = y' then decide (z < z') else decide (y < y')) else decide (x < x')) = decide (z < z') := by rw [if_pos ex, if_pos ey]
        refine PySem.W.kat_no (PySem.W.kat_one _ _ (PyProof.Rows.lt_int ?_))
        exact (show s = s ∧ decide (z < z') = (if x = x' then (if y = y' then decide (z < z') else decide (y < y')) else decide (x < x')) from ⟨rfl, e4.symm⟩)
    · have ey : ¬ y = y' := by simpa using e2
      have e4 : (if x = x' then (if y = y' then decide (z < z') else decide (y < y')) else decide (x < x')) = decide (y < y') := by rw [if_pos ex, if_neg ey]
      refine PySem.W.kat_no (PySem.W.kat_one _ _ (PyProof.Rows.lt_int ?_))
      exact (show s = s ∧ decide (y < y') = (if x = x' then (if y = y' then decide (z < z') else decide (y < y')) else decide (x < x')) from ⟨rfl, e4.symm⟩)
  · have ex : ¬ x = x' := by simpa using e1
    have e4 : (if x = x' then (if y = y' then decide (z < z') else decide (y < y')) else decide (x < x')) = decide (x < x') := if_neg ex
    exact PySem.W.kat_no (oneLt_int ⟨rfl, e4.symm⟩)
theorem trips_sortableO {a : Addr} {vs : List Value} {k : Value → Int × Int × Int} (h0 : 0 < vs.length) (hp : ∀ v ∈ vs, IsTrip s.heap v (k v)) (ha : ∀ o, s.heap.get? a = some o → o.cls ≠ .type "tuple") : SortableO prog w A s a vs fun v u => lexT (k v) (k u) := by
  intro h' keep
  have hp' : ∀ v ∈ vs, IsTrip h' v (k v) := fun v hm => (hp v hm).keeps fun b o e c => keep b o (fun z => by subst z; exact ha o e c) e
  obtain ⟨fs, h1, h2, h3⟩ := firsts_trip fun v hm => ⟨_, hp' v hm⟩
  refine ⟨tuples' true, fun Q E hq => ?_, trip_cmp hp'⟩
  refine PySem.W.kat_kind (T := .type "int") h1 (by omega) (fun f hm => ?_) (by rfl) ?_
  · obtain ⟨x, t, rfl⟩ := h3 f hm
    exact PySem.W.Looks.now
  · have e : (Value.type "int" != Value.type "tuple") = true := by first | decide +kernel | rfl | decide
    rw [e]
    exact hq
theorem sorted_tripsO {l : Addr} {vs : List Value} {k : Value → Int × Int × Int} {Q : Value → Shared → Prop} (hl : s.heap.IsList l vs.toArray) (hz : vs.length ≤ sizeLine) (hp : ∀ v ∈ vs, IsTrip s.heap v (k v))
    (h : ∀ (h' : Heap) (d : Addr) (out : List Value), Srtd (fun v u => lexT (k v) (k u)) out → Stb (fun v u => lexT (k v) (k u)) out vs → (∀ b o, s.heap.get? b = some o → h'.get? b = some o) → s.heap.objs.size ≤ d → (∃ n, h'.get? d = some (seqObj "list" out.toArray n)) → Q (.ref d) { s with heap := h' }) :
    wpAny (model prog w) A (call (.builtin "sorted") [.ref l]) Q E s := by
  refine sorted_ord (swo_lexT k) hl hz (fun h2 h₁ a ha kk => ?_) fun out hs hb => ?_
  · refine trips_sortableO (s := { s with heap := h₁ }) (by omega) (fun v hm => (hp v hm).keeps fun b o e _ => (kk b o e).2) fun o e => ?_
    have e' : some o = some (seqObj "list" vs.toArray 0) := e.symm.trans ha
    cases e'
    intro c
    exact absurd (Value.type.inj c) (by decide)
  · exact h _ _ out hs hb (fun b o e => sortedAll_old e) (Nat.le_succ _) (sortedAll_at s.heap vs out.toArray)
end
end SrtO
namespace Ovc
open PySem PySem.Spec PyProof.Rows L2
/-! ### sorted of triples of ints -/
abbrev I3 := Int × Int × Int
def K3 (p : I3) : List L2.Key := [Sum.inl p.1, Sum.inl p.2.1, Sum.inl p.2.2]
theorem K3_inj {p q : I3} (h : K3 p = K3 q) : p = q := by
  unfold K3 at h
  injection h with e1 e2
  injection e2 with e2 e3
  injection e3 with e3 _
  exact Prod.ext (Sum.inl.inj e1) (Prod.ext (Sum.inl.inj e2) (Sum.inl.inj e3))
def k3Of (H : Hp) (u : Value) : I3 := match u with
  | .ref b => match H b with
    | some (.tup [.int x, .int y, .int z]) => (x, y, z)
    | _ => (0, 0, 0)
  | _ => (0, 0, 0)
theorem k3Of_at {H : Hp} {b : Addr} {p : I3} (h : H b = some (.tup [.int p.1, .int p.2.1, .int p.2.2])) : k3Of H (.ref b) = p := by
  show (match H b with | some (.tup [.int x, .int y, .int z]) => (x, y, z) | _ => (0, 0, 0)) = p
  rw [h]
/-- the refs hold the triples -/
def T3At (H : Hp) (bs : List Addr) (M : List I3) : Prop := Paired (fun (m : I3) b => H b = some (.tup [.int m.1, .int m.2.1, .int m.2.2])) M bs
theorem T3At.get {H : Hp} {bs : List Addr} {M : List I3} (h : T3At H bs M) {i : Nat} {b : Addr} (hi : bs[i]? = some b) : ∃ m, M[i]? = some m ∧ H b = some (.tup [.int m.1, .int m.2.1, .int m.2.2]) := by
  unfold T3At at h
  induction h generalizing i with
  | nil => cases hi
  | cons h t ih =>
    cases i with
    | zero =>
      cases hi
      exact ⟨_, rfl, h⟩
    | succ i => exact ih hi
theorem T3At.get2 {H : Hp} {bs : List Addr} {M : List I3} (h : T3At H bs M) {i : Nat} {m : I3} (hi : M[i]? = some m) : ∃ b, bs[i]? = some b ∧ H b = some (.tup [.int m.1, .int m.2.1, .int m.2.2]) := by
  unfold T3At at h
  induction h generalizing i with
  | nil => cases hi
  | cons h t ih =>
    cases i with
    | zero =>
      cases hi
      exact ⟨_, rfl, h⟩
    | succ i => exact ih hi
theorem T3At.len {H : Hp} {bs : List Addr} {M : List I3} (h : T3At H bs M) : M.length = bs.length := Paired.length h
theorem T3At.to {H H' : Hp} {bs : List Addr} {M : List I3} (h : T3At H bs M) (s : Same H H') : T3At H' bs M := by
  unfold T3At at h ⊢
  induction h with
  | nil => exact .nil
  | cons h t ih => exact .cons (s _ _ h) ih
theorem t3At_of {H : Hp} : ∀ {bs : List Addr}, (∀ b ∈ bs, ∃ p : I3, H b = some (.tup [.int p.1, .int p.2.1, .int p.2.2])) → T3At H bs (bs.map fun b => k3Of H (.ref b))
  | [], _ => .nil
  | b :: bs, h => .cons (by
    obtain ⟨p, e⟩ := h b List.mem_cons_self
    show H b = some (.tup [.int (k3Of H (.ref b)).1, .int (k3Of H (.ref b)).2.1, .int (k3Of H (.ref b)).2.2])
    rw [k3Of_at e]
    exact e) (t3At_of fun c hc => h c (List.mem_cons_of_mem _ hc))
theorem keys_t3 {H : Hp} : ∀ {kvs : List (List L2.Key × V)} {bs : List Addr} {L : List I3}, IsKeys H kvs bs → kvs.map (·.1) = L.map K3 → T3At H bs L
  | [], _, [], .nil, _ => .nil
  | [], _, _ :: _, .nil, h => by cases h
  | _ :: _, _, [], _, h => by cases h
  | p :: kvs, _, m :: L, .cons h t, e => .cons (by
    have e1 : p.1 = K3 m := (List.cons.inj e).1
    rw [e1] at h
    exact h) (keys_t3 t (List.cons.inj e).2)
theorem T3At.kmap {H : Hp} {bs : List Addr} {M : List I3} (h : T3At H bs M) : bs.map (fun b => k3Of H (.ref b)) = M := by
  unfold T3At at h
  induction h with
  | nil => rfl
  | cons h t ih => rw [List.map_cons, ih, k3Of_at h]
theorem vals_three {x y z : V} {us : List Value} (r : Vals [x, y, z] us) : ∃ u v w, us = [u, v, w] ∧ RelV x u ∧ RelV y v ∧ RelV z w := by
  cases r with
  | cons r1 r =>
    cases r with
    | cons r2 r =>
      cases r with
      | cons r3 r =>
        cases r
        exact ⟨_, _, _, rfl, r1, r2, r3⟩
def rSortedD3 : List V → Hp → VK → Prop := fun xs H Q => ∃ (a : Addr) (kvs : List (List L2.Key × V)) (L : List I3), xs = [.ref a] ∧ H a = some (.dT kvs) ∧ kvs.map (·.1) = L.map K3 ∧
  ∀ (bs : List Addr) (M : List I3) (p : Addr), T3At H bs M → M.Perm L → M.Pairwise (fun p q => SrtO.lexT q p = false) → H p = none → Q (.ref p) (upd H p (.lst (bs.map V.ref)))
section
variable {X : Cx}
theorem call_sortedD3 (hcalm : X.calm = true) : CallR X (.builtin "sorted") rSortedD3 := by
  intro pins s σ H xs us Q I r q
  obtain ⟨a, kvs, L, ex, hd, hks, q⟩ := q
  subst ex
  obtain ⟨u, eu, rx⟩ := vals1 r
  subst eu
  cases rx
  obtain ⟨z, hs, ks, pr, o, es, ep, ho, hx, hdt, he, hn⟩ := (show ObjOk X.prog X.w H s.heap a (.dT kvs) from I.hok a _ hd)
  have l1 : es.size = ks.length := size_of_entries he
  have l2 : kvs.length = ks.length := Paired.length pr
  refine Calls.call_function_entry PyProof.Rows.kind_sorted PyProof.Rows.plain_sorted PyProof.Rows.entry_sorted (PyProof.Rows.args_sorted1 _) ?_
  unfold Builtin.«sorted»
  refine wpAny_bind (m := checkCount "sorted" 1 1 _) (wpAny_pure ?_)
  refine wpAny_bind (PySem.W.kdu_collect (A := X.A.in1) (kdl_raw hs hx hdt) (I.ok.hd hcalm) ho (by omega) fun h' tk acc hk it => ?_)
  have ea : acc.toList = ks.map fun x => Value.ref x.2.1 := by
    have hl : acc.toList.length = ks.length := by rw [Array.length_toList, it.1]; exact l1
    apply List.ext_getElem?
    intro j
    rw [List.getElem?_map]
    cases hj : acc.toList[j]? with
    | none =>
      have h1 := List.getElem?_eq_none_iff.mp hj
      rw [List.getElem?_eq_none (by omega)]
      all_goals rfl
    | some v =>
      obtain ⟨en, hen, hv⟩ := it.2 j v (by rw [← Array.getElem?_toList]; exact hj)
      have qe := entry_at he j
      rw [hen] at qe
      cases hb : ks[j]? with
      | none =>
        rw [hb] at qe
        exact nomatch (show some en = none from qe)
      | some b =>
        rw [hb] at qe
        have e2 : en = entryOfKey (tupleKind (mixKind X.prog X.w)) b := Option.some.inj qe
        rw [hv, e2]
        all_goals rfl
  have hP : T3At H (ks.map fun x => x.2.1) L := keys_t3 (isKeys_of pr) hks
  have eb : acc.toList = (ks.map fun x => x.2.1).map Value.ref := by rw [ea, List.map_map]; all_goals rfl
  generalize (ks.map fun x => x.2.1) = bs at hP eb
  have hbl : bs.length = acc.toList.length := by rw [eb, List.length_map]
  have hal : acc.toList.length ≤ sizeLine := by
    rw [Array.length_toList, it.1]
    omega
  have I1 : Inv X pins σ H { s with heap := h', toks := tk } := I.kept hk
  have hpair : ∀ v ∈ acc.toList, SrtO.IsTrip h' v (k3Of H v) := fun v hv => by
    rw [eb] at hv
    obtain ⟨b, hb, rfl⟩ := List.mem_map.mp hv
    obtain ⟨i, hi, ei⟩ := List.getElem_of_mem hb
    obtain ⟨m, _, hm⟩ := hP.get (List.getElem?_eq_some_iff.mpr ⟨hi, ei⟩)
    rw [k3Of_at hm]
    obtain ⟨_, its2, r2, o, ho, hc, n, hd⟩ := I1.hok _ _ hm
    obtain ⟨u1, u2, u3, rfl, ri, rj, rk⟩ := vals_three r2
    obtain ⟨t1, rfl⟩ := ri
    obtain ⟨t2, rfl⟩ := rj
    obtain ⟨t3, rfl⟩ := rk
    exact ⟨b, o, t1, t2, t3, n, rfl, ho, hc, hd⟩
  refine wpAny_bind (wpAny_newList ?_ hal)
  have hoL : (h'.push (seqObj "list" acc.toList.toArray 0)).get? h'.objs.size = some (seqObj "list" acc.toList.toArray 0) := Heap.get?_push_size _ rfl
  show wpAny _ _ _ _ _ { s with heap := h'.push (seqObj "list" acc.toList.toArray 0), toks := tk }
  refine wpAny_bind (wpAny_holding (wpAny_call_entry slot_list_sort ⟨_, hoL, rfl⟩ entry_list_sort
    (SrtO.list_sort_ord (s := { s with heap := h'.push (seqObj "list" acc.toList.toArray 0), toks := tk }) (SrtO.swo_lexT (k3Of H)) hoL hal (fun h2 => SrtO.trips_sortableO (by omega) (fun v hm => (hpair v hm).keeps fun b o e _ => Heap.get?_push_of_some _ e) fun o e => ?_) fun out g1 g2 => ⟨_, rfl, ?_⟩) (args_list_sort _)))
  · have e' : some o = some (seqObj "list" acc.toList.toArray 0) := e.symm.trans hoL
    cases e'
    intro c
    exact absurd (Value.type.inj c) (by decide)
  obtain ⟨e', he'⟩ := PyProof.Rows.sortedHeap_at (vs := acc.toList) (out := out.toArray) hoL
  have hmem : ∀ v ∈ out, ∃ b, b ∈ bs ∧ v = Value.ref b := fun v hv => by
    have := g2.perm.mem_iff.mp hv
    rw [eb] at this
    obtain ⟨b, hb, rfl⟩ := List.mem_map.mp this
    exact ⟨b, hb, rfl⟩
  have hall : ∀ (l : List Value), (∀ v ∈ l, ∃ b, b ∈ bs ∧ v = Value.ref b) → ∃ cs : List Addr, l = cs.map Value.ref ∧ ∀ c ∈ cs, c ∈ bs := by
    intro l
    induction l with
    | nil => exact fun _ => ⟨[], rfl, fun _ h => nomatch h⟩
    | cons v l ih =>
      intro h
      obtain ⟨b, hb, rfl⟩ := h v List.mem_cons_self
      obtain ⟨cs, h1, h2⟩ := ih fun v hv => h v (List.mem_cons_of_mem _ hv)
      refine ⟨b :: cs, by rw [h1]; rfl, fun c hc => ?_⟩
      rcases List.mem_cons.mp hc with rfl | hc
      · exact hb
      · exact h2 c hc
  obtain ⟨cs, rfl, hcs⟩ := hall out hmem
  have hC : T3At H cs (cs.map fun b => k3Of H (.ref b)) := t3At_of fun b hb => by
    obtain ⟨i, hi, ei⟩ := List.getElem_of_mem (hcs b hb)
    obtain ⟨m, _, hm⟩ := hP.get (List.getElem?_eq_some_iff.mpr ⟨hi, ei⟩)
    exact ⟨_, hm⟩
  have hperm : (cs.map fun b => k3Of H (.ref b)).Perm L := by
    have h1 := g2.perm.map (k3Of H)
    rw [eb, List.map_map, List.map_map] at h1
    rw [← hP.kmap]
    exact h1
  have hsrt : (cs.map fun b => k3Of H (.ref b)).Pairwise (fun p q => SrtO.lexT q p = false) := by
    have h1 : (cs.map Value.ref).Pairwise _ := g1
    rw [List.pairwise_map] at h1 ⊢
    exact h1
  have hlen : (cs.map V.ref).length ≤ sizeLine := by
    have := g2.perm.length_eq
    rw [List.length_map] at this ⊢
    omega
  refine wpAny_pure ⟨_, rfl, .ref h'.objs.size, upd H h'.objs.size (.lst (cs.map V.ref)), I1.laid (t' := tk) (fun b u e => ?_) (Nat.le_refl _)
    (show ObjOk X.prog X.w _ _ _ (.lst (cs.map V.ref)) from ⟨hlen, cs.map Value.ref, e', vals_refs cs, he'⟩), rfl, q cs _ _ hC hperm hsrt (I1.hok.fresh (Nat.le_refl _))⟩
  have hb : b < h'.objs.size := Heap.lt_size e
  rw [PyProof.Rows.sortedHeap_old (Nat.ne_of_lt hb) (by rw [size_push']; exact Nat.lt_succ_of_lt hb)]
  exact Heap.get?_push_of_some _ e
/-- sorted(xs), xs a list of triples of ints -/
def rSortedL3 (K : PySem.W.Frag) : List V → Hp → VK → Prop := fun vs H Q => ∃ (a : Addr) (bs : List Addr) (L : List I3), vs = [V.ref a] ∧ SqL K H a (bs.map V.ref) ∧ T3At H bs L ∧
  ∀ (cs : List Addr) (M : List I3) (p : Addr), T3At H cs M → M.Perm L → M.Pairwise (fun p q => SrtO.lexT q p = false) → H p = none → Q (.ref p) (upd H p (.lst (cs.map V.ref)))
theorem call_sortedL3 : CallR X (.builtin "sorted") (rSortedL3 X.K) := by
  intro pins s σ H vs us Q I r h
  obtain ⟨a, bs, L, rfl, hs, hP, q⟩ := h
  obtain ⟨its, rv, hl, hz⟩ := I.list hs
  obtain ⟨u, rfl, ru⟩ := vals1 r
  obtain rfl : u = Value.ref a := ru
  have refs : ∀ (bs : List Addr) (its : List Value), Vals (bs.map V.ref) its → its = bs.map Value.ref := by
    intro bs
    induction bs with
    | nil =>
      intro its r
      cases r
      rfl
    | cons b bs ih =>
      intro its r
      cases r with
      | cons r1 t =>
        cases r1
        rw [ih _ t]
        rfl
  have eb : its = bs.map Value.ref := refs bs its rv
  subst eb
  have hpair : ∀ v ∈ bs.map Value.ref, SrtO.IsTrip s.heap v (k3Of H v) := fun v hv => by
    obtain ⟨b, hb, rfl⟩ := List.mem_map.mp hv
    obtain ⟨i, hi, ei⟩ := List.getElem_of_mem hb
    obtain ⟨m, _, hm⟩ := hP.get (List.getElem?_eq_some_iff.mpr ⟨hi, ei⟩)
    rw [k3Of_at hm]
    obtain ⟨_, its2, r2, o, ho, hc, n, hd⟩ := I.hok _ _ hm
    obtain ⟨u1, u2, u3, rfl, ri, rj, rk⟩ := vals_three r2
    obtain ⟨t1, rfl⟩ := ri
    obtain ⟨t2, rfl⟩ := rj
    obtain ⟨t3, rfl⟩ := rk
    exact ⟨b, o, t1, t2, t3, n, rfl, ho, hc, hd⟩
  refine SrtO.sorted_tripsO (k := k3Of H) hl.isList (by rw [List.length_map] at *; exact hz) hpair fun h' d out h1 h2 kp hd hn => ?_
  have hmem : ∀ v ∈ out, ∃ b, b ∈ bs ∧ v = Value.ref b := fun v hv => by
    obtain ⟨b, hb, rfl⟩ := List.mem_map.mp (h2.perm.mem_iff.mp hv)
    exact ⟨b, hb, rfl⟩
  have hall : ∀ (l : List Value), (∀ v ∈ l, ∃ b, b ∈ bs ∧ v = Value.ref b) → ∃ cs : List Addr, l = cs.map Value.ref ∧ ∀ c ∈ cs, c ∈ bs := by
    intro l
    induction l with
    | nil => exact fun _ => ⟨[], rfl, fun _ h => nomatch h⟩
    | cons v l ih =>
      intro h
      obtain ⟨b, hb, rfl⟩ := h v List.mem_cons_self
      obtain ⟨cs, h1, h2⟩ := ih fun v hv => h v (List.mem_cons_of_mem _ hv)
      refine ⟨b :: cs, by rw [h1]; rfl, fun c hc => ?_⟩
      rcases List.mem_cons.mp hc with rfl | hc
      · exact hb
      · exact h2 c hc
  obtain ⟨cs, rfl, hcs⟩ := hall out hmem
  have hC : T3At H cs (cs.map fun b => k3Of H (.ref b)) := t3At_of fun b hb => by
    obtain ⟨i, hi, ei⟩ := List.getElem_of_mem (hcs b hb)
    obtain ⟨m, _, hm⟩ := hP.get (List.getElem?_eq_some_iff.mpr ⟨hi, ei⟩)
    exact ⟨_, hm⟩
  have hperm : (cs.map fun b => k3Of H (.ref b)).Perm L := by
    have e := h2.perm.map (k3Of H)
    rw [List.map_map, List.map_map] at e
    rw [← hP.kmap]
    exact e
  have hsrt : (cs.map fun b => k3Of H (.ref b)).Pairwise (fun p q => SrtO.lexT q p = false) := by
    have e : (cs.map Value.ref).Pairwise _ := h1
    rw [List.pairwise_map] at e ⊢
    exact e
  obtain ⟨n, hn⟩ := hn
  have hlen : (cs.map V.ref).length ≤ sizeLine := by
    have e := h2.perm.length_eq
    rw [List.length_map] at e ⊢
    rw [List.length_map] at e hz
    omega
  exact ⟨.ref d, upd H d (.lst (cs.map V.ref)), I.laid (t' := s.toks) kp hd ⟨hlen, cs.map Value.ref, n, vals_refs cs, hn⟩, rfl, q cs _ d hC hperm hsrt (I.hok.fresh hd)⟩
end
end Ovc
namespace Ovc
open PySem PySem.Spec PyProof.Rows L2
/-! ### the keys of turns -/
theorem lkv_adj9 {ls : List Lnk} {x y : Int} : (lkv ls x y).isSome = adj0 ls x y := by
  have key : ∀ n, ∀ ls : List Lnk, ls.length = n → (lkv ls x y).isSome = adj0 ls x y := by
    intro n
    induction n with
    | zero =>
      intro ls h
      rw [List.length_eq_zero_iff.mp h]
      rfl
    | succ n ih =>
      intro ls h
      rcases List.eq_nil_or_concat ls with e | ⟨L, l, e⟩
      · rw [e] at h
        cases h
      · rw [List.concat_eq_append] at e
        subst e
        rw [List.length_append] at h
        have hi := ih L (by simpa using h)
        rw [lkv_snoc, Bool.eq_iff_iff]
        have ea : adj0 (L ++ [l]) x y = true ↔ adj0 L x y = true ∨ (l.a = x ∧ l.b = y) ∨ (l.a = y ∧ l.b = x) := by
          rw [adj0_iff, adj0_iff]
          constructor
          · rintro ⟨m, hm, e⟩
            rcases List.mem_append.mp hm with hm | hm
            · exact .inl ⟨m, hm, e⟩
            · rw [List.mem_singleton.mp hm] at e
              exact .inr e
          · rintro (⟨m, hm, e⟩ | e)
            · exact ⟨m, List.mem_append.mpr (.inl hm), e⟩
            · exact ⟨l, List.mem_append.mpr (.inr List.mem_cons_self), e⟩
        rw [ea, ← hi]
        unfold lkS
        by_cases c1 : x = l.b ∧ y = l.a
        · rw [if_pos c1]
          exact ⟨fun _ => .inr (.inr ⟨c1.2.symm, c1.1.symm⟩), fun _ => rfl⟩
        · rw [if_neg c1]
          by_cases c2 : x = l.a ∧ y = l.b
          · rw [if_pos c2]
            exact ⟨fun _ => .inr (.inl ⟨c2.1.symm, c2.2.symm⟩), fun _ => rfl⟩
          · rw [if_neg c2]
            exact ⟨.inl, fun h => h.elim id fun h => h.elim (fun z => absurd ⟨z.1.symm, z.2.symm⟩ c2) fun z => absurd ⟨z.2.symm, z.1.symm⟩ c1⟩
  exact key _ ls rfl
/-- turns: triples, each with an int or None -/
structure TrnG (kvs : List (List L2.Key × V)) (L : List I3) : Prop where
  keys : kvs.map (·.1) = L.map K3
  nd : L.Nodup
  val : ∀ p ∈ kvs, ∃ o : Option Int, p.2 = oV o
theorem TrnG.has {kvs : List (List L2.Key × V)} {L : List I3} (h : TrnG kvs L) {p : I3} (hp : p ∈ L) : ∃ o : Option Int, valV kvs (K3 p) = some (oV o) := by
  have hs : (valV kvs (K3 p)).isSome = true := valV_isSome.mpr (by rw [h.keys]; exact List.mem_map.mpr ⟨p, hp, rfl⟩)
  obtain ⟨v, e⟩ := Option.isSome_iff_exists.mp hs
  unfold valV at e
  obtain ⟨kv, h1, h2⟩ := Option.map_eq_some_iff.mp e
  obtain ⟨o, eo⟩ := h.val kv (List.mem_of_find?_eq_some h1)
  refine ⟨o, ?_⟩
  unfold valV
  rw [e, ← h2, eo]
/-- the first place of a list where it fails -/
def firstI {α : Type} (pb : α → Bool) : List α → Option Nat
  | [] => none
  | x :: r => if pb x = true then some 0 else (firstI pb r).map (· + 1)
theorem firstI_none {α : Type} {pb : α → Bool} : ∀ {l : List α}, firstI pb l = none ↔ ∀ x ∈ l, pb x = false
  | [] => ⟨fun _ x h => (nomatch h), fun _ => rfl⟩
  | x :: r => by
    unfold firstI
    cases e : pb x with
    | true => exact ⟨fun h => (by cases h), fun h => (by
      rw [h x List.mem_cons_self] at e
      cases e)⟩
    | false =>
      rw [if_neg Bool.false_ne_true, Option.map_eq_none_iff, firstI_none]
      exact ⟨fun h y hy => (List.mem_cons.mp hy).elim (fun z => z ▸ e) (h y), fun h y hy => h y (List.mem_cons_of_mem _ hy)⟩
theorem firstI_at {α : Type} {pb : α → Bool} : ∀ {l : List α} {i : Nat} {x : α}, (∀ y ∈ l.take i, pb y = false) → l[i]? = some x → pb x = true → firstI pb l = some i
  | [], _, _, _, h, _ => by cases h
  | z :: r, 0, x, _, h, hx => by
    cases h
    unfold firstI
    rw [if_pos hx]
  | z :: r, i + 1, x, hn, h, hx => by
    have h0 : pb z = false := hn z (by rw [List.take_succ_cons]; exact List.mem_cons_self)
    unfold firstI
    rw [if_neg (by rw [h0]; exact Bool.false_ne_true), firstI_at (l := r) (i := i) (x := x) (fun y hy => hn y (by rw [List.take_succ_cons]; exact List.mem_cons_of_mem _ hy)) h hx]
    rfl
def badK (ls : List Lnk) (p : I3) : Bool := !adj0 ls p.1 p.2.1 || !adj0 ls p.2.1 p.2.2
def badV (kvs : List (List L2.Key × V)) (p : I3) : Bool := match valV kvs (K3 p) with
  | some (.int x) => !(decide (0 ≤ x) && decide (x ≤ 1000000))
  | _ => false
def badO : Option Int → Bool
  | some x => !(decide (0 ≤ x) && decide (x ≤ 1000000))
  | none => false
theorem badV_of {kvs : List (List L2.Key × V)} {p : I3} {op : Option Int} (h : valV kvs (K3 p) = some (oV op)) : badV kvs p = badO op := by
  unfold badV
  rw [h]
  cases op <;> rfl
def Lx3 (p q : I3) : Prop := SrtO.lexT q p = false
theorem lx3_anti (p q : I3) (h : Lx3 p q) (k : Lx3 q p) : p = q := by
  have n1 := SrtO.lexT_no.mp h
  have n2 := SrtO.lexT_no.mp k
  exact Prod.ext (by omega) (Prod.ext (by omega) (by omega))
theorem srt3_uniq {M1 M2 L : List I3} (h1 : M1.Perm L) (h2 : M1.Pairwise Lx3) (k1 : M2.Perm L) (k2 : M2.Pairwise Lx3) : M1 = M2 := List.Perm.eq_of_pairwise (fun a b _ _ => lx3_anti a b) h2 k2 (h1.trans k1.symm)
/-- the keys in their order: what is raised of them -/
def spChkKeys (K : PySem.W.Frag) (CT CB : Addr) : Sp := fun vs H Q E => ∃ (v : V) (N : Net) (td : Addr) (kvs : List (List L2.Key × V)) (L M : List I3), vs = [v, .ref td] ∧ Dp K H v (netD N) ∧ NetOk N ∧ H td = some (.dT kvs) ∧ TrnG kvs L ∧ L.length ≤ 1000 ∧ M.Perm L ∧ M.Pairwise Lx3 ∧
  (∀ i : Nat, firstI (badK N.ls) M = some i → RaiseTo E H CT i) ∧ (firstI (badK N.ls) M = none → ∀ i : Nat, firstI (badV kvs) M = some i → RaiseTo E H CB i) ∧ (firstI (badK N.ls) M = none → firstI (badV kvs) M = none → ∀ H', Same H H' → Q .non H')
abbrev sChkKeys : Stmt := topS 23
theorem scChkKeys : FnScope ["net", "turns", "joined", "keys", "index", "a", "b", "c", "key"] ["net", "turns"] (defScope sChkKeys) := ⟨rfl, rfl, rfl, by decide +kernel, rfl, by decide +kernel, by decide +kernel⟩
theorem ax_dnotP {σ : L2.St} {H : Hp} {ta tb td : TE} {o : Addr} {kvs : List (List L2.Key × V)} {x y : Int} (h1 : Vl ta σ H (.int x)) (h2 : Vl tb σ H (.int y)) (h3 : ∀ H', Same H H' → Vl td σ H' (.ref o)) (hD : H o = some (.dT kvs)) : Ax (tB (tDNotIn (tTup (tCons ta (tCons tb tNil))) td)) σ H (!(valV kvs (K2 (x, y))).isSome) := fun Q k =>
  h1 _ (h2 _ ⟨by show 2 ≤ sizeLine; decide, fun T nT => h3 _ (same_upd nT) _ ⟨o, _, rfl, DGet.t (k := K2 (x, y)) (same_upd nT _ _ hD) upd_same, _, rfl, k _ (same_upd nT)⟩⟩)
section
variable {P : Program} {w : World} {K : PySem.W.Frag} {mg : Str → Option Value} {base : Heap} {CT CB fI : Addr}
theorem ok_chkKeys {f : Addr} {fd : FuncData} {k : Nat} (F : Fun K "_check_keys" "_check_keys" sChkKeys f fd) (hT : PySem.LowX.LowTxt K mg "NoTurn" CT fI) (hB : PySem.LowX.LowTxt K mg "BadPrice" CB fI) (c_link_ways : Kal P w K mg base k "link_ways" ["net"] (spLinkWaysK K)) (mo : mg "sorted" = none) (me : mg "enumerate" = none) {tkH : Tok} (g_HIGHEST_PRICE : mg "HIGHEST_PRICE" = some (.int 1000000 tkH)) :
    FnOk P w K mg base (L2.CX P w) (k + 2) f fd ["net", "turns"] (spChkKeys K CT CB) := by
  refine F.okX scChkKeys (fun vs H Q E h => ?_) (fun cdv A outer s H vs Q E hr h => ?_)
  · obtain ⟨v, N, td, kvs, L, M, rfl, _⟩ := h
    rfl
  · obtain ⟨v, N, td, kvs, L, M, rfl, hN, ok, htd, hG, hLl, hpm, hsr, q1, q2, q3⟩ := h
    have hu := hu_of hr
    refine ⟨_, pss_cons (ps_set (i := 2) scChkKeys.nd rfl (.inl rfl) (pe_k c_link_ways hr (by first | decide | omega) (by rfl) (pa_cons (pv 0) pa_nil)))
      (pss_cons (ps_set (i := 3) scChkKeys.nd rfl (.inl rfl) (pe_callB (call_sortedD3 rfl) (by rfl) mo (by decide +kernel) (pa_cons (pv 1) pa_nil)))
      (pss_cons (ps_for (passes_of rfl) rfl (pi_enum (by rfl) me (pa_cons (pv 3) pa_nil)) (pg_tup rfl (pgs_cons (pg_name (i := 4) scChkKeys.nd rfl (.inl rfl)) (pgs_cons (pg_tup rfl (pgs_cons (pg_name (i := 5) scChkKeys.nd rfl (.inl rfl)) (pgs_cons (pg_name (i := 6) scChkKeys.nd rfl (.inl rfl)) (pgs_cons (pg_name (i := 7) scChkKeys.nd rfl (.inl rfl)) pgs_nil)))) pgs_nil)))
      (pss_one (ps_if (PW.pt (pw_or (pt_cmp (pc_dnotin hu (pe_tup (pa_cons (pv 5) (pa_cons (pv 6) pa_nil))) (pv 2))) (pw_or1 (pt_cmp (pc_dnotin hu (pe_tup (pa_cons (pv 6) (pa_cons (pv 7) pa_nil))) (pv 2))))))
        (pss_one (ps_raiseLow rfl hT hr (takes_of rfl rfl rfl rfl) (by exact (pa_cons (pv 4) pa_nil))))
        pss_nil)))
      (pss_one (ps_for (passes_of rfl) rfl (pi_enum (by rfl) me (pa_cons (pv 3) pa_nil)) (pg_tup rfl (pgs_cons (pg_name (i := 4) scChkKeys.nd rfl (.inl rfl)) (pgs_cons (pg_name (i := 8) scChkKeys.nd rfl (.inl rfl)) pgs_nil)))
      (pss_one (ps_if (PW.pt (pw_and (pt_cmpR op_notN (pe_dget hu (pv 1) (pv 8) (fun _ _ => rfl)) pe_non (nomark _)) (pw_and1 (pt_not (pt_chain op_le op_le pe_int (pe_dget hu (pv 1) (pv 8) (fun _ _ => rfl)) (pe_glob (v := .int 1000000) (by rfl) g_HIGHEST_PRICE ⟨_, rfl⟩))))))
        (pss_one (ps_raiseLow rfl hB hr (takes_of rfl rfl rfl rfl) (by exact (pa_cons (pv 4) pa_nil))))
        pss_nil)))))), ?_⟩
    have l16 := ok.len
    have hMl : M.length ≤ 1000 := by
      rw [hpm.length_eq]
      exact hLl
    refine q_asgE ⟨v, rfl, v, N, rfl, hN, by omega, fun H1 o s1 hL => ?_⟩
    obtain ⟨kl, _, ho, _, _, _, hv⟩ := hL.ex
    have td1 := s1 _ _ htd
    refine q_asgE ⟨.ref td, rfl, td, kvs, L, rfl, td1, hG.keys, fun bs M' S hP hp' hs' nS => ?_⟩
    obtain rfl : M' = M := srt3_uniq hp' hs' hpm hsr
    have sS := same_upd (o := .lst (bs.map V.ref)) nS
    have eS := upd_same (H := H1) (a := S) (o := .lst (bs.map V.ref))
    have hP2 := hP.to sS
    generalize upd H1 S (.lst (bs.map V.ref)) = H2 at sS eS hP2
    have s02 := s1.trans sS
    have ho2 := sS _ _ ho
    have bl := hP.len
    have atM : ∀ (i : Nat) (x : V), (bs.map V.ref)[i]? = some x → ∃ b p, x = .ref b ∧ M'[i]? = some p ∧ H2 b = some (.tup [.int p.1, .int p.2.1, .int p.2.2]) := fun i x hx => by
      rw [List.getElem?_map] at hx
      obtain ⟨b, hb, rfl⟩ := Option.map_eq_some_iff.mp hx
      obtain ⟨m, h1, h2⟩ := hP2.get hb
      exact ⟨b, m, rfl, h1, h2⟩
    refine ⟨.ref S, rfl, S, _, rfl, .of eS, for_en (K := K) (xs := bs.map V.ref)
      (fun i σ H3 => ∃ y4 y5 y6 y7 y8, σ = [some v, some (.ref td), some (.ref o), some (.ref S), y4, y5, y6, y7, y8] ∧ Same H2 H3 ∧ ∀ p ∈ M'.take i, badK N.ls p = false)
      ⟨_, _, _, _, _, rfl, Same.refl _, fun p hp => by rw [List.take_zero] at hp; cases hp⟩ (fun i σ H3 hP => ?_) (fun i x T σ H3 hi hP nT => ?_) (fun σ H3 hP => ?_)⟩
    · obtain ⟨_, _, _, _, _, _, s3, _⟩ := hP
      exact .of (s3 _ _ eS)
    · obtain ⟨y4, y5, y6, y7, y8, rfl, s3, hA⟩ := hP
      obtain ⟨b, p, rfl, hg, eb⟩ := atM i x hi
      have sT := same_upd (o := .tup [.int (i : Nat), .ref b]) nT
      refine ⟨T, _, rfl, .of upd_same, rfl, _, _, rfl, _, _, rfl, ⟨b, _, rfl, .of (sT _ _ (s3 _ _ eb)), rfl, _, _, rfl, _, _, rfl, _, _, rfl, rfl, rfl, ?_⟩⟩
      have ho4 := sT _ _ (s3 _ _ ho2)
      have hadj : ∀ x y, (valV kl (K2 (x, y))).isSome = adj0 N.ls x y := fun x y => by rw [hv, lkv_adj9]
      refine g_whenx (b := badK N.ls p) (Ax.is (ax_or (ax_dnotP (vl_var rfl) (vl_var rfl) (fun _ _ => vl_var rfl) ho4) fun _ H5 s5 => ax_dnotP (vl_var rfl) (vl_var rfl) (fun _ _ => vl_var rfl) (s5 _ _ ho4)) (by rw [hadj, hadj]; rfl)) (fun hb H5 s5 => ?_) (fun hb H5 s5 => ⟨_, _, _, _, _, rfl, s3.trans (sT.trans s5), fun z hz => ?_⟩)
      · exact raise_now (va_cons (vl_var rfl) va_nil) ((q1 i (firstI_at hA hg hb)).to (s02.trans (s3.trans (sT.trans s5))))
      · rw [take_snoc hg] at hz
        rcases List.mem_append.mp hz with hz | hz
        · exact hA z hz
        · rw [List.mem_singleton.mp hz]
          exact hb
    · obtain ⟨y4, y5, y6, y7, y8, rfl, s3, hA⟩ := hP
      rw [List.length_map, ← bl, List.take_length] at hA
      have hA0 := firstI_none.mpr hA
      have q2' := q2 hA0
      have q3' := q3 hA0
      refine ⟨.ref S, rfl, S, _, rfl, .of (s3 _ _ eS), for_en (K := K) (xs := bs.map V.ref)
        (fun i σ H4 => ∃ y4 y5 y6 y7 y8, σ = [some v, some (.ref td), some (.ref o), some (.ref S), y4, y5, y6, y7, y8] ∧ Same H2 H4 ∧ ∀ p ∈ M'.take i, badV kvs p = false)
        ⟨_, _, _, _, _, rfl, s3, fun p hp => by rw [List.take_zero] at hp; cases hp⟩ (fun i σ H4 hP => ?_) (fun i x T σ H4 hi hP nT => ?_) (fun σ H4 hP => ?_)⟩
      · obtain ⟨_, _, _, _, _, _, s4, _⟩ := hP
        exact .of (s4 _ _ eS)
      · obtain ⟨y4, y5, y6, y7, y8, rfl, s4, hB⟩ := hP
        obtain ⟨b, p, rfl, hg, eb⟩ := atM i x hi
        have sT := same_upd (o := .tup [.int (i : Nat), .ref b]) nT
        refine ⟨T, _, rfl, .of upd_same, rfl, _, _, rfl, _, _, rfl, rfl, ?_⟩
        obtain ⟨op, hop⟩ := hG.has (hpm.mem_iff.mp (List.mem_of_getElem? hg))
        have td4 := sT _ _ (s4 _ _ (s02 _ _ htd))
        have eb4 := sT _ _ (s4 _ _ eb)
        have get : ∀ {σ : L2.St} {H' : Hp}, Same (upd H4 T (.tup [.int (i : Nat), .ref b])) H' → σ[1]? = some (some (V.ref td)) → σ[8]? = some (some (V.ref b)) → Vl (tDGet (tVar 1) (tVar 8)) σ H' (oV op) := fun s' e1 e2 Q q => ⟨_, e1, _, e2, td, oV op, rfl, by
          rw [← hop]
          exact DGet.t (k := K3 p) (s' _ _ td4) (s' _ _ eb4), q⟩
        have ebad := badV_of hop
        refine g_when (b := badV kvs p) (An.is (an_and (k := !decide (oV op = .non)) (m := badV kvs p) (an_test (vl_notN (get (Same.refl _) rfl rfl))) fun hk => ?_) ?_) (fun hb => ?_) (fun hb => ⟨_, _, _, _, _, rfl, s4.trans sT, fun z hz => ?_⟩)
        · cases op with
          | none => cases hk
          | some x =>
            rw [ebad]
            exact an_not (an_test (vl_chainI vl_c (get (Same.refl _) rfl rfl) vl_c))
        · rw [ebad]
          cases op with
          | none => rfl
          | some x => rfl
        · exact raise_now (va_cons (vl_var rfl) va_nil) ((q2' i (firstI_at hB hg hb)).to (s02.trans (s4.trans sT)))
        · rw [take_snoc hg] at hz
          rcases List.mem_append.mp hz with hz | hz
          · exact hB z hz
          · rw [List.mem_singleton.mp hz]
            exact hb
      · obtain ⟨y4, y5, y6, y7, y8, rfl, s4, hB⟩ := hP
        rw [List.length_map, ← bl, List.take_length] at hB
        exact q3' (firstI_none.mpr hB) H4 (s02.trans s4)
end
end Ovc
namespace PySem.W
open PySem PySem.Calls PyProof.Rows PySem.Spec
section
variable {prog : Program} {w : World} {K : Type} [DecidableEq K] {knd : HeapKind prog w K} {A : Around} {E : Value → Shared → Prop} {s : Shared} {a b : Addr} {xs ys : List (K × Addr × Value)}
def HitsH (prog : Program) (w : World) (A : Around) (s : Shared) (xs ys : List (K × Addr × Value)) : Prop := ∀ x ∈ xs, (∃ (j : Nat) (p : Addr × Value), ys[j]? = some (x.1, p)) ∧ ∀ (j : Nat) (p : Addr × Value), ys[j]? = some (x.1, p) → SeqAt.EqP prog w A s x.2.2 p.2 true
/-- the dicts whose keys stand in the heap, all their values equal -/
theorem samePairsH {nm : String} {Q : Bool → Shared → Prop} (ha : (a == sysModules) = false) (hb : (b == sysModules) = false) (da : s.heap.DictOfH knd a xs) (db : s.heap.DictOfH knd b ys) (hu : knd.room A) (hl : xs.length = ys.length) (hits : HitsH prog w A s xs ys) (h : Q true s) :
    wpAny (model prog w) A (Builtin.Dict.samePairs nm a b) Q E s := by
  obtain ⟨oa, es, ep, hoa, _, hda, hea, hia, hna⟩ := da
  obtain ⟨ob, es', ep', hob, _, hdb, heb, hib, hnb⟩ := db
  have hla := size_of_entries hea
  have hlb := size_of_entries heb
  unfold Builtin.Dict.samePairs Builtin.Dict.showsAll
  rw [if_neg (show ¬ (a == sysModules) = true by rw [ha]; exact Bool.false_ne_true), if_neg (show ¬ (b == sysModules) = true by rw [hb]; exact Bool.false_ne_true)]
  refine wpAny_bind (wpAny_pure (wpAny_bind (wpAny_pure ?_)))
  refine wpAny_bind (wpAny_dictEntries hoa hda ?_)
  dsimp only
  refine wpAny_bind (wpAny_dictEntries hob hdb ?_)
  have hsz : es.size = es'.size := by omega
  rw [if_neg (by rw [hsz]; simp)]
  refine wpAny_bind (wpAny_dictEpoch hoa hda ?_)
  refine wpAny_bind ?_
  rw [Std.Legacy.Range.forIn_eq_forIn_range']
  simp only [Std.Legacy.Range.size, Nat.sub_zero, Nat.add_sub_cancel, Nat.div_one]
  refine wpAny_forIn_list _ (fun rest q s' => s' = s ∧ q = (none, ()) ∧ ∃ i, rest = List.range' i (es.size - i) ∧ i ≤ es.size) _ ?_ ?_ _ _ ⟨rfl, rfl, 0, by simp, Nat.zero_le _⟩
  · rintro x rest q s' ⟨rfl, rfl, i, hr, hi⟩
    have hlt : i < es.size := by
      rcases Nat.lt_or_ge i es.size with h | h
      · exact h
      · rw [Nat.sub_eq_zero_of_le h] at hr
        simp at hr
    obtain ⟨rfl, hrest⟩ : x = i ∧ rest = List.range' (i + 1) (es.size - (i + 1)) := by
      have e : es.size - i = (es.size - (i + 1)) + 1 := by omega
      rw [e, List.range'_succ] at hr
      injection hr with h1 h2
      exact ⟨h1, h2⟩
    have hx' : x < xs.length := by omega
    have hm : xs[x] ∈ xs := List.getElem_mem hx'
    have hx : es[x]? = some (entryOfKey knd xs[x]) := by
      rw [entry_at hea, List.getElem?_eq_getElem hx']
      rfl
    refine wpAny_bind (wpAny_dictEntries hoa hda ?_)
    rw [hx]
    show wpAny _ _ (holding [(entryOfKey knd xs[x]).key, (entryOfKey knd xs[x]).val] _ >>= _) _ _ _
    refine wpAny_bind (wpAny_holding (wpAny_bind (wpAny_dictFind_heap hu (hia _ hm) hob hdb heb hib hnb (fun hno => ?_) (fun j p hj => ?_))))
    · obtain ⟨⟨j, p, hj⟩, _⟩ := hits _ hm
      exact absurd hj (hno j p)
    · have hy : es'[j]? = some (entryOfKey knd (xs[x].1, p)) := by
        rw [entry_at heb, hj]
        rfl
      refine wpAny_bind (wpAny_dictEntries hob hdb ?_)
      rw [hy]
      refine wpAny_holding ((hits _ hm).2 j p hj _ _ ?_)
      show wpAny _ _ (if (!true) = true then _ else _) _ _ _
      rw [if_neg (by decide)]
      refine wpAny_bind (wpAny_dictEpoch hoa hda ?_)
      rw [if_neg (by simp)]
      exact wpAny_pure ⟨rfl, rfl, x + 1, hrest, hlt⟩
  · rintro q s' ⟨rfl, rfl, i, hr, hi⟩
    refine wpAny_pure ?_
    exact h
theorem eqH_dicts {Q : Value → Shared → Prop} (ha : (a == sysModules) = false) (hb : (b == sysModules) = false) (da : s.heap.DictOfH knd a xs) (db : s.heap.DictOfH knd b ys) (hu : A.units < cLine) (hr : knd.room A.in1) (hl : xs.length = ys.length)
    (hits : HitsH prog w A.in1 s xs ys) (h : Q (.bool true) s) : wpAny (model prog w) A (compareOp .Eq (.ref a) (.ref b)) Q E s := by
  refine wpAny_richCompare_same_room (op := .Eq) da.typeIs db.typeIs PySem.F.slot_dict_eq (wpAny_call_entry PySem.F.slot_dict_eq da.typeIs PySem.F.entry_dict_eq ?_ (PySem.F.args_dict_eq_2 _ _)) hu
  show wpAny _ _ (Builtin.Dict.dictSlotArgs "__eq__" ⟨[.ref a, .ref b], []⟩ >>= _) _ _ s
  refine wpAny_bind ?_
  unfold Builtin.Dict.dictSlotArgs
  refine wpAny_bind (wpAny_notOrdered_dict da.typeIs ?_)
  show wpAny _ _ (pure (Value.ref a, Value.ref b)) _ _ s
  refine wpAny_pure ?_
  refine wpAny_bind (wpAny_isInstance (T := "dict") db.typeIs PySem.F.sub_dict_dict ?_)
  simp only [Bool.not_true, Bool.false_eq_true, if_false]
  refine wpAny_bind (wpAny_pure (wpAny_bind (wpAny_pure ?_)))
  refine wpAny_bind (samePairsH ha hb da db hr hl hits ?_)
  refine wpAny_pure ⟨_, rfl, ?_, ?_⟩
  · exact fun x => nomatch x
  · simpa using h
theorem neH_dicts {Q : Value → Shared → Prop} (ha : (a == sysModules) = false) (hb : (b == sysModules) = false) (da : s.heap.DictOfH knd a xs) (db : s.heap.DictOfH knd b ys) (hu : A.units < cLine) (hr : knd.room A.in1) (hl : xs.length = ys.length)
    (hits : HitsH prog w A.in1 s xs ys) (h : Q (.bool false) s) : wpAny (model prog w) A (compareOp .NotEq (.ref a) (.ref b)) Q E s := by
  refine wpAny_richCompare_same_room (op := .NotEq) da.typeIs db.typeIs PySem.F.slot_dict_ne (wpAny_call_entry PySem.F.slot_dict_ne da.typeIs PySem.F.entry_dict_ne ?_ (PySem.F.args_dict_ne_2 _ _)) hu
  show wpAny _ _ (Builtin.Dict.dictSlotArgs "__ne__" ⟨[.ref a, .ref b], []⟩ >>= _) _ _ s
  refine wpAny_bind ?_
  unfold Builtin.Dict.dictSlotArgs
  refine wpAny_bind (wpAny_notOrdered_dict da.typeIs ?_)
  show wpAny _ _ (pure (Value.ref a, Value.ref b)) _ _ s
  refine wpAny_pure ?_
  refine wpAny_bind (wpAny_isInstance (T := "dict") db.typeIs PySem.F.sub_dict_dict ?_)
  simp only [Bool.not_true, Bool.false_eq_true, if_false]
  refine wpAny_bind (wpAny_pure (wpAny_bind (wpAny_pure ?_)))
  refine wpAny_bind (samePairsH ha hb da db hr hl hits ?_)
  refine wpAny_pure ⟨_, rfl, ?_, ?_⟩
  · exact fun x => nomatch x
  · simpa using h
end
end PySem.W
namespace L2
open PySem PySem.Spec PyProof.Rows
section
variable {X : Cx} {pins : List (Addr × Obj)} {σ : L2.St} {H : Hp} {s : Shared} {a b : Addr} {ks ls : List (List L2.Key × V)}
theorem atKey_get {K : Type} [DecidableEq K] {xs : List (K × Addr × Value)} {k : K} {p : Addr × Value} (h : atKey xs k = some p) : ∃ j : Nat, xs[j]? = some (k, p) := by
  unfold atKey at h
  obtain ⟨x, hx, e⟩ := Option.map_eq_some_iff.mp h
  have hm := List.mem_of_find?_eq_some hx
  have hk := List.find?_some hx
  obtain ⟨j, hj⟩ := List.mem_iff_getElem?.mp hm
  refine ⟨j, ?_⟩
  rw [hj]
  obtain ⟨k', p'⟩ := x
  have e1 : k' = k := of_decide_eq_true hk
  have e2 : p' = p := e
  rw [e1, e2]
/-- two dicts by tuples that are equal -/
def EqT (K : PySem.W.Frag) (H : Hp) (ks ls : List (List L2.Key × V)) : Prop := ks.length = ls.length ∧ ∀ p ∈ ks, ∃ u, valV ls p.1 = some u ∧ EqV K H 50 p.2 u
theorem hitsT (I : Inv X pins σ H s) {A : Around} (hu : A.units + 50 < cLine) : ∀ {ks : List (List L2.Key × V)} {xs : List (List L2.Key × Addr × Value)}, KT H ks xs → ∀ {ys : List (List L2.Key × Addr × Value)}, KT H ls ys → (ys.map (·.1)).Nodup → (∀ p ∈ ks, ∃ u, valV ls p.1 = some u ∧ EqV X.K H 50 p.2 u) →
    PySem.W.HitsH X.prog X.w A s xs ys := by
  intro ks xs q
  induction q with
  | nil => intro ys _ _ _ x hx; exact nomatch hx
  | @cons p q ps qs hq t ih =>
    intro ys hy hn hp x hx
    rcases List.mem_cons.mp hx with e | hx
    · subst e
      obtain ⟨e1, _, r1⟩ := hq
      obtain ⟨u, hv, he⟩ := hp p List.mem_cons_self
      obtain ⟨w', hw, rw'⟩ := RelO.some_of (v := u) (o := (atKey ys p.1).map (·.2)) (by rw [← hv]; exact KT.val hy p.1)
      obtain ⟨pr, hpr, hp2⟩ := Option.map_eq_some_iff.mp hw
      constructor
      · obtain ⟨j, hj⟩ := atKey_get hpr
        exact ⟨j, pr, by rw [← e1]; exact hj⟩
      · intro j pr' hj
        have e2 : atKey ys p.1 = some pr' := by
          rw [e1]
          exact atKey_of_get hn hj
        rw [hpr] at e2
        cases e2
        refine eqV_run I 50 A hu p.2 u _ _ he r1 ?_
        rw [hp2]
        exact rw'
    · exact ih hy hn (fun p' hm => hp p' (List.mem_cons_of_mem _ hm)) x hx
def rEqT (K : PySem.W.Frag) : R2 := fun x y H Q => ∃ a b ks ls, x = .ref a ∧ y = .ref b ∧ H a = some (.dT ks) ∧ H b = some (.dT ls) ∧ EqT K H ks ls ∧ Q (.bl true) H
def rNeT (K : PySem.W.Frag) : R2 := fun x y H Q => ∃ a b ks ls, x = .ref a ∧ y = .ref b ∧ H a = some (.dT ks) ∧ H b = some (.dT ls) ∧ EqT K H ks ls ∧ Q (.bl false) H
theorem op_eqT (hu : X.A.units + 64 < cLine) : OpR X (compareOp .Eq) (rEqT X.K) := by
  intro pins s σ H x y v u Q I rx ry h
  obtain ⟨a, b, ks, ls, rfl, rfl, ea, eb, ⟨hl, hp⟩, q⟩ := h
  obtain rfl : v = Value.ref a := rx
  obtain rfl : u = Value.ref b := ry
  obtain ⟨_, ya, xs, ra, da⟩ := dt_of I.hok ea
  obtain ⟨_, yb, ys, rb, db⟩ := dt_of I.hok eb
  have hn := db
  obtain ⟨_, _, _, _, _, _, _, _, hn⟩ := hn
  exact PySem.W.eqH_dicts ya yb da db (by omega) (tupleKind_room_in1 (by omega)) (by rw [← ra.length, ← rb.length]; exact hl) (hitsT I (A := X.A.in1) (by show X.A.units + 1 + 50 < cLine; omega) ra rb hn hp) ⟨.bl true, H, I, rfl, q⟩
theorem op_neT (hu : X.A.units + 64 < cLine) : OpR X (compareOp .NotEq) (rNeT X.K) := by
  intro pins s σ H x y v u Q I rx ry h
  obtain ⟨a, b, ks, ls, rfl, rfl, ea, eb, ⟨hl, hp⟩, q⟩ := h
  obtain rfl : v = Value.ref a := rx
  obtain rfl : u = Value.ref b := ry
  obtain ⟨_, ya, xs, ra, da⟩ := dt_of I.hok ea
  obtain ⟨_, yb, ys, rb, db⟩ := dt_of I.hok eb
  have hn := db
  obtain ⟨_, _, _, _, _, _, _, _, hn⟩ := hn
  exact PySem.W.neH_dicts ya yb da db (by omega) (tupleKind_room_in1 (by omega)) (by rw [← ra.length, ← rb.length]; exact hl) (hitsT I (A := X.A.in1) (by show X.A.units + 1 + 50 < cLine; omega) ra rb hn hp) ⟨.bl false, H, I, rfl, q⟩
end
end L2
namespace Ovc
open PySem PySem.Spec PyProof.Rows L2
end Ovc
namespace Ovc
open PySem PySem.Spec PyProof.Rows L2
end Ovc
namespace OwnNe
open PySem PySem.Spec PyProof.Rows PySem.SeqAt
open AutoSeq1 (wpAny_loadPart')
open MeetsSeq MeetsSeq2 MeetsSeq3 SeqRoads2
section
variable {prog : Program} {w : World} {A : Around} {E : Value → Shared → Prop} {s : Shared} {R : Result → Shared → Prop}
/-- tuples whose items are equal one by one -/
theorem ne_items {l b : Addr} {ua ub : Array Value} {n n2 : Nat} {dd dd2 : Option Addr} {sl sl2 : Array (Option Value)} (same : ua.size = ub.size)
    (each : ∀ i (h1 : i < ua.size) (h2 : i < ub.size), EqP prog w A.in1 s ua[i] ub[i] true) (done : R (.ok (.ret (.bool false))) s)
    (hl1 : s.heap.get? l = some { cls := .type "tuple", dict := dd, data := .seq ua n, slots := sl }) (hb1 : s.heap.get? b = some { cls := .type "tuple", dict := dd2, data := .seq ub n2, slots := sl2 }) :
    wpAny (model prog w) A.in1 (Builtin.«tuple.__ne__» ⟨[.ref l, .ref b], []⟩) (GQ.FinOf prog w A R) (fun e s' => R (.error e) s') s := by
  have f2 := AutoSeq1.sub_tuple_tuple
  have hZ : (ua.toList.zip ub.toList).length = ua.size := by simp [same]
  obtain ⟨hp, g, d, tk, os⟩ := s
  wp_walk using wpAny_loadPart' hl1, wpAny_loadPart' hb1, wpAny_forIn_list _ (fun rest q s' => q.1 = none ∧ s' = ⟨hp, g, d, tk, os⟩ ∧ ∃ i, rest = (ua.toList.zip ub.toList).drop i ∧ i ≤ ua.size) _
  case turn =>
    rintro ⟨y, x⟩ rest q s' ⟨hq, rfl, i, hz, hi⟩
    have hlt : i < (ua.toList.zip ub.toList).length := by
      rcases Nat.lt_or_ge i (ua.toList.zip ub.toList).length with h' | h'
      · exact h'
      · rw [List.drop_of_length_le h'] at hz; cases hz
    have h1 : i < ua.size := hZ ▸ hlt
    have h2 : i < ub.size := same ▸ h1
    rw [List.drop_eq_getElem_cons hlt] at hz
    injection hz with hyx hrest
    have hy : y = ua[i] := by have := congrArg Prod.fst hyx; simpa using this
    have hx : x = ub[i] := by have := congrArg Prod.snd hyx; simpa using this
    subst hy hx
    refine wpAny_bind (each i h1 h2 _ _ ?_)
    wp_walk
    exact ⟨rfl, rfl, i + 1, hrest, h1⟩
  case fin =>
    rintro ⟨b1, b2⟩ s' ⟨hq, rfl, i, hz, hi⟩
    simp only at hq
    subst hq
    wp_walk
    simpa [Builtin.Tuple.tupleCompareSizes, same] using done
  case h =>
    exact ⟨rfl, rfl, 0, rfl, Nat.zero_le _⟩
theorem rc_ne {l b : Addr} {ua ub : Array Value} {Q : Value → Shared → Prop} (same : ua.size = ub.size) (hu : A.units < cLine) (hl : s.heap.IsTuple l ua) (hb : s.heap.IsTuple b ub)
    (each : ∀ i (h1 : i < ua.size) (h2 : i < ub.size), EqP prog w A.in1 s ua[i] ub[i] true) (q : Q (.bool false) s) : wpAny (model prog w) A (richCompare .NotEq (.ref l) (.ref b)) Q E s := by
  obtain ⟨⟨cls, dd, data, sl⟩, ho, hc, n, hd⟩ := id hl
  obtain ⟨⟨cls2, dd2, data2, sl2⟩, ho2, hc2, n2, hd2⟩ := id hb
  simp only at hc hd hc2 hd2
  subst hc hd hc2 hd2
  refine wpAny_richCompare_same_room (op := .NotEq) ⟨_, ho, rfl⟩ ⟨_, ho2, rfl⟩ F.slot_tuple_ne (GQ.call_here F.slot_tuple_ne ⟨_, ho, rfl⟩ F.entry_tuple_ne (F.args_tuple_ne_2 _ _) ?_) hu
  exact ne_items (R := wants (fun v s' => v ≠ .notImplemented ∧ Q v s') E) same each ⟨(fun x => nomatch x), q⟩ ho ho2
end
end OwnNe
namespace L2
open PySem PySem.Spec PyProof.Rows
/-- one step: lists, tuples, dicts by tuples, their parts related -/
def EqWR (K : PySem.W.Frag) (H : Hp) (E : V → V → Prop) (x y : V) : Prop :=
  (∃ a b xs ys, x = .ref a ∧ y = .ref b ∧ SqL K H a xs ∧ SqL K H b ys ∧ Paired E xs ys) ∨
    (∃ a b xs ys, x = .ref a ∧ y = .ref b ∧ SqT K H a xs ∧ SqT K H b ys ∧ Paired E xs ys) ∨
    ∃ a b ks ls, x = .ref a ∧ y = .ref b ∧ H a = some (.dT ks) ∧ H b = some (.dT ls) ∧ ks.length = ls.length ∧ ∀ p ∈ ks, ∃ u, valV ls p.1 = some u ∧ E p.2 u
/-- equal, of nesting below n -/
def EqW (K : PySem.W.Frag) (H : Hp) : Nat → V → V → Prop
  | 0 => fun _ _ => False
  | n + 1 => fun x y => (x = y ∧ flatB x = true) ∨ (∃ a, x = .ref a ∧ y = .ref a) ∨ EqWR K H (EqW K H n) x y
section
variable {X : Cx} {pins : List (Addr × Obj)} {σ : St} {H : Hp} {s : Shared}
theorem hitsW (I : Inv X pins σ H s) {A : Around} {F : V → V → Prop} {ls : List (List L2.Key × V)} (ih : ∀ x y v u, F x y → RelV x v → RelV y u → SeqAt.EqP X.prog X.w A s v u true) : ∀ {ks : List (List L2.Key × V)} {xs : List (List L2.Key × Addr × Value)}, KT H ks xs → ∀ {ys : List (List L2.Key × Addr × Value)}, KT H ls ys → (ys.map (·.1)).Nodup → (∀ p ∈ ks, ∃ u, valV ls p.1 = some u ∧ F p.2 u) →
    PySem.W.HitsH X.prog X.w A s xs ys := by
  intro ks xs q
  induction q with
  | nil => intro ys _ _ _ x hx; exact nomatch hx
  | @cons p q ps qs hq t hi =>
    intro ys hy hn hp x hx
    rcases List.mem_cons.mp hx with e | hx
    · subst e
      obtain ⟨e1, _, r1⟩ := hq
      obtain ⟨u, hv, he⟩ := hp p List.mem_cons_self
      obtain ⟨w', hw, rw'⟩ := RelO.some_of (v := u) (o := (atKey ys p.1).map (·.2)) (by rw [← hv]; exact KT.val hy p.1)
      obtain ⟨pr, hpr, hp2⟩ := Option.map_eq_some_iff.mp hw
      constructor
      · obtain ⟨j, hj⟩ := atKey_get hpr
        exact ⟨j, pr, by rw [← e1]; exact hj⟩
      · intro j pr' hj
        have e2 : atKey ys p.1 = some pr' := by
          rw [e1]
          exact atKey_of_get hn hj
        rw [hpr] at e2
        cases e2
        refine ih p.2 u _ _ he r1 ?_
        rw [hp2]
        exact rw'
    · exact hi hy hn (fun p' hm => hp p' (List.mem_cons_of_mem _ hm)) x hx
theorem eqWR_run (I : Inv X pins σ H s) {A : Around} {F : V → V → Prop} (hu : A.units + 64 < cLine) (ih : ∀ x y v u, F x y → RelV x v → RelV y u → SeqAt.EqP X.prog X.w A.in1 s v u true) {x y : V} {v u : Value} (h : EqWR X.K H F x y) (rx : RelV x v) (ry : RelV y u)
    (E Q : Value → Shared → Prop) (q : Q (.bool true) s) : wpAny (model X.prog X.w) A (richCompare .Eq v u) Q E s := by
  rcases h with ⟨a, b, xs, ys, rfl, rfl, ha, hb, hp⟩ | ⟨a, b, xs, ys, rfl, rfl, ha, hb, hp⟩ | ⟨a, b, ks, ls, rfl, rfl, ha, hb, hl, hp⟩
  · cases (show v = Value.ref a from rx)
    cases (show u = Value.ref b from ry)
    obtain ⟨us, r1, p1, _⟩ := I.list ha
    obtain ⟨ws, r2, p2, _⟩ := I.list hb
    have hsz : us.toArray.size = ws.toArray.size := by
      rw [List.size_toArray, List.size_toArray, ← r1.length, ← r2.length]
      exact Paired.length hp
    refine SeqAt.rcP_lists (e := fun _ => true) p1.isList p2.isList hsz (by omega) (fun j h1 h2 => ?_) E Q ?_
    · have k := items_run ih hp r1 r2 j (by simpa using h1) (by simpa using h2)
      simpa using k
    · rw [show ((List.range us.toArray.size).all fun _ => true) = true from List.all_eq_true.mpr fun _ _ => rfl]
      exact q
  · cases (show v = Value.ref a from rx)
    cases (show u = Value.ref b from ry)
    obtain ⟨us, r1, p1, _⟩ := I.tuple ha
    obtain ⟨ws, r2, p2, _⟩ := I.tuple hb
    have hsz : us.toArray.size = ws.toArray.size := by
      rw [List.size_toArray, List.size_toArray, ← r1.length, ← r2.length]
      exact Paired.length hp
    refine GQ.rc_tupG hsz (by omega) (fun _ s' => s' = s) p1 p2 (fun i h1 h2 s' e => ?_) (fun s' e => by rw [e]; exact q) rfl
    subst e
    have k := items_run ih hp r1 r2 i (by simpa using h1) (by simpa using h2)
    exact (by simpa using k : SeqAt.EqP X.prog X.w A.in1 s' us.toArray[i] ws.toArray[i] true) _ _ ⟨rfl, rfl⟩
  · cases (show v = Value.ref a from rx)
    cases (show u = Value.ref b from ry)
    obtain ⟨_, ya, xs, ra, da⟩ := dt_of I.hok ha
    obtain ⟨_, yb, ys, rb, db⟩ := dt_of I.hok hb
    have hn := db
    obtain ⟨_, _, _, _, _, _, _, _, hn⟩ := hn
    exact PySem.W.eqH_dicts ya yb da db (by omega) (tupleKind_room_in1 (by omega)) (by rw [← ra.length, ← rb.length]; exact hl) (hitsW I ih ra rb hn hp) q
theorem eqW_run (I : Inv X pins σ H s) : ∀ (n : Nat) (A : Around), A.units + n + 64 < cLine → ∀ (x y : V) (v u : Value), EqW X.K H n x y → RelV x v → RelV y u → SeqAt.EqP X.prog X.w A s v u true
  | 0, _, _, _, _, _, _, h, _, _ => (show False from h).elim
  | n + 1, A, hu, x, y, v, u, h, rx, ry => by
    rcases h with ⟨rfl, f⟩ | ⟨a, rfl, rfl⟩ | h
    · exact (eqAt_same rx ry f).eqP
    · cases (show v = Value.ref a from rx)
      cases (show u = Value.ref a from ry)
      exact (SeqAt.EqAt.same _).eqP
    · have step := eqWR_run I (A := A) (by omega) (eqW_run I n A.in1 (by show A.units + 1 + n + 64 < cLine; omega)) h rx ry
      obtain ⟨a, b, rfl, rfl⟩ : ∃ a b, x = .ref a ∧ y = .ref b := by
        rcases h with ⟨a, b, _, _, e1, e2, _⟩ | ⟨a, b, _, _, e1, e2, _⟩ | ⟨a, b, _, _, e1, e2, _⟩
        · exact ⟨a, b, e1, e2⟩
        · exact ⟨a, b, e1, e2⟩
        · exact ⟨a, b, e1, e2⟩
      cases (show v = Value.ref a from rx)
      cases (show u = Value.ref b from ry)
      by_cases e : a = b
      · subst e
        exact (SeqAt.EqAt.same _).eqP
      · exact SeqAt.eqP_refs e step
end
section
variable {X : Cx}
/-- a == b, equal all the way down -/
def rEqW (K : PySem.W.Frag) : R2 := fun x y H Q => EqWR K H (EqW K H 10) x y ∧ Q (.bl true) H
theorem op_eqW (hu : X.A.units + 90 < cLine) : OpR X (compareOp .Eq) (rEqW X.K) := by
  intro pins s σ H x y v u Q I rx ry h
  obtain ⟨h, q⟩ := h
  exact eqWR_run I (A := X.A) (by omega) (eqW_run I 10 X.A.in1 (by show X.A.units + 1 + 10 + 64 < cLine; omega)) h rx ry _ _ ⟨.bl true, H, I, rfl, q⟩
/-- a != b, two tuples equal all the way down -/
def rNeW (K : PySem.W.Frag) : R2 := fun x y H Q => ∃ a b xs ys, x = .ref a ∧ y = .ref b ∧ SqT K H a xs ∧ SqT K H b ys ∧ Paired (EqW K H 10) xs ys ∧ Q (.bl false) H
theorem op_neW (hu : X.A.units + 90 < cLine) : OpR X (compareOp .NotEq) (rNeW X.K) := by
  intro pins s σ H x y v u Q I rx ry h
  obtain ⟨a, b, xs, ys, rfl, rfl, ha, hb, hp, q⟩ := h
  cases (show v = Value.ref a from rx)
  cases (show u = Value.ref b from ry)
  obtain ⟨us, r1, p1, _⟩ := I.tuple ha
  obtain ⟨ws, r2, p2, _⟩ := I.tuple hb
  have hsz : us.toArray.size = ws.toArray.size := by
    rw [List.size_toArray, List.size_toArray, ← r1.length, ← r2.length]
    exact Paired.length hp
  refine OwnNe.rc_ne hsz (by omega) p1 p2 (fun i h1 h2 => ?_) ⟨.bl false, H, I, rfl, q⟩
  have k := items_run (eqW_run I 10 X.A.in1 (by show X.A.units + 1 + 10 + 64 < cLine; omega)) hp r1 r2 i (by simpa using h1) (by simpa using h2)
  simpa using k
end
end L2
namespace Ovc
open PySem PySem.Spec PyProof.Rows L2
/-! ### the net of turns -/
def tG (kvs : List (List L2.Key × V)) (p : I3) : Option Int := match (valV kvs (K3 p)).getD (.int 0) with
  | .int i => some i
  | _ => none
theorem tG_eq {kvs : List (List L2.Key × V)} {L : List I3} (h : TrnG kvs L) (p : I3) : (valV kvs (K3 p)).getD (.int 0) = oV (tG kvs p) := by
  have he : ∃ o : Option Int, (valV kvs (K3 p)).getD (.int 0) = oV o := by
    cases e : valV kvs (K3 p) with
    | none => exact ⟨some 0, rfl⟩
    | some v =>
      unfold valV at e
      obtain ⟨kv, h1, h2⟩ := Option.map_eq_some_iff.mp e
      obtain ⟨o, eo⟩ := h.val kv (List.mem_of_find?_eq_some h1)
      refine ⟨o, ?_⟩
      show v = oV o
      rw [← h2, eo]
  obtain ⟨o, e⟩ := he
  unfold tG
  rw [e]
  cases o <;> rfl
def arcF (kvs : List (List L2.Key × V)) (z q : Int × Int) : Option ((Int × Int) × Int) := (tG kvs (z.1, z.2, q.1)).map fun t => ((z.2, q.1), t + q.2)
def arcL (kvs : List (List L2.Key × V)) (Lw : List ((Int × Int) × Int)) (z : Int × Int) : List ((Int × Int) × Int) := (frS Lw z.2).filterMap (arcF kvs z)
def optL {α : Type} : Option α → List α
  | some y => [y]
  | none => []
theorem filterMap_snoc9 {α β : Type} {f : α → Option β} {l : List α} {x : α} : (l ++ [x]).filterMap f = l.filterMap f ++ optL (f x) := by
  rw [List.filterMap_append]
  congr 1
  cases e : f x with
  | none => rw [List.filterMap_cons_none e]; rfl
  | some y => rw [List.filterMap_cons_some e]; rfl
/-- tuples of a tuple and an int -/
structure ArcAt (H : Hp) (zs : List V) (A : List ((Int × Int) × Int)) : Prop where
  len : zs.length = A.length
  at_ : ∀ (i : Nat) z, A[i]? = some z → ∃ t t1, zs[i]? = some (.ref t) ∧ H t = some (.tup [.ref t1, .int z.2]) ∧ H t1 = some (.tup [.int z.1.1, .int z.1.2])
section
variable {H H' : Hp} {zs ys : List V} {A B : List ((Int × Int) × Int)}
theorem ArcAt.to (h : ArcAt H zs A) (s : Same H H') : ArcAt H' zs A := ⟨h.len, fun i z e => let ⟨t, t1, h1, h2, h3⟩ := h.at_ i z e; ⟨t, t1, h1, s _ _ h2, s _ _ h3⟩⟩
theorem ArcAt.nil : ArcAt H [] [] := ⟨rfl, fun i z e => by simp at e⟩
theorem ArcAt.snoc (h : ArcAt H zs A) {t t1 : Addr} {z : (Int × Int) × Int} (h1 : H t = some (.tup [.ref t1, .int z.2])) (h2 : H t1 = some (.tup [.int z.1.1, .int z.1.2])) : ArcAt H (zs ++ [.ref t]) (A ++ [z]) := ⟨by rw [List.length_append, List.length_append, h.len]; rfl, fun i y e => by
  by_cases c : i < A.length
  · rw [List.getElem?_append_left c] at e
    rw [List.getElem?_append_left (by rw [h.len]; exact c)]
    exact h.at_ i y e
  · have il := (List.getElem?_eq_some_iff.mp e).1
    rw [List.length_append] at il
    have il : i < A.length + 1 := il
    have : i = A.length := by omega
    subst this
    rw [List.getElem?_append_right (Nat.le_refl _), Nat.sub_self] at e
    cases Option.some.inj e
    exact ⟨t, t1, by rw [List.getElem?_append_right (by rw [h.len]; exact Nat.le_refl _), h.len, Nat.sub_self]; rfl, h1, h2⟩⟩
/-- a list written elsewhere -/
theorem ArcAt.upd (h : ArcAt H zs A) {D : Addr} {xs : List V} {u : HO} (hD : H D = some (.lst xs)) : ArcAt (L2.upd H D u) zs A := ⟨h.len, fun i z e => by
  obtain ⟨t, t1, h1, h2, h3⟩ := h.at_ i z e
  exact ⟨t, t1, h1, by rw [upd_ne (fun e => by rw [e, hD] at h2; cases h2)]; exact h2, by rw [upd_ne (fun e => by rw [e, hD] at h3; cases h3)]; exact h3⟩⟩
end
/-- what turn_net tells, all of it new -/
structure TnAt (N : Net) (kvs : List (List L2.Key × V)) (H H' : Hp) (T : Addr) (Lw : List ((Int × Int) × Int)) : Prop where
  ok : OwOk N Lw
  len : Lw.length ≤ 5000
  ex : ∃ (nd ad : Addr) (bs rw : List Addr), H' T = some (.tup [.ref nd, .ref ad]) ∧ H nd = none ∧ H ad = none ∧ H' nd = some (.lst (bs.map V.ref)) ∧ PrsAt H' bs (Lw.map (·.1)) ∧ H' ad = some (.dT (kz (Lw.map fun z => K2 z.1) rw)) ∧ rw.length = Lw.length ∧ rw.Nodup ∧ nd ∉ rw ∧ (∀ a ∈ rw, H a = none) ∧
    ∀ (i : Nat) z a, Lw[i]? = some z → rw[i]? = some a → ∃ zs, H' a = some (.lst zs) ∧ ArcAt H' zs (arcL kvs Lw z.1)
def spTurnNet (K : PySem.W.Frag) (CT CB : Addr) : Sp := fun vs H Q E => ∃ (v : V) (N : Net) (td : Addr) (kvs : List (List L2.Key × V)) (L M : List I3), vs = [v, .ref td] ∧ Dp K H v (netD N) ∧ NetOk N ∧ H td = some (.dT kvs) ∧ TrnG kvs L ∧ L.length ≤ 1000 ∧ M.Perm L ∧ M.Pairwise Lx3 ∧
  (∀ i : Nat, firstI (badK N.ls) M = some i → RaiseTo E H CT i) ∧ (firstI (badK N.ls) M = none → ∀ i : Nat, firstI (badV kvs) M = some i → RaiseTo E H CB i) ∧ (firstI (badK N.ls) M = none → firstI (badV kvs) M = none → ∀ H' T Lw, Same H H' → TnAt N kvs H H' T Lw → Q (.ref T) H')
abbrev sTurnNet : Stmt := topS 21
theorem scTurnNet : FnScope ["net", "turns", "near", "nodes", "arcs", "a", "b", "c", "price", "turn"] ["net", "turns"] (defScope sTurnNet) := ⟨rfl, rfl, rfl, by decide +kernel, rfl, by decide +kernel, by decide +kernel⟩
section
variable {K : PySem.W.Frag} {σ : L2.St} {H : Hp} {D : Ends} {tw tz : TS} {tl : TE}
theorem g_forP9 {j1 j2 : Nat} {a : Addr} {ts : List V} {L : List (Int × Int)} (h : Vl tl σ H (.ref a)) (Pv : Nat → L2.St → Hp → Prop) (h0 : Pv 0 σ H) (hl : ∀ i σ' H', Pv i σ' H' → SqL K H' a ts ∧ TupsAt H' ts L)
    (hs : ∀ (i : Nat) u v σ H, L[i]? = some (u, v) → Pv i σ H → tz { D with nx := Pv (i + 1), ct := Pv (i + 1), bk := D.nx } ((σ.set j1 (some (.int u))).set j2 (some (.int v))) H) (hd : ∀ σ H, Pv L.length σ H → D.nx σ H) :
    tFor (iList K tl) (gTup K 2 (gCons (gName j1) (gCons (gName j2) gNil))) tz D σ H := h _ ⟨a, rfl, ⟨_, (hl 0 σ H h0).1⟩, for_list (xs := ts) Pv h0 (fun i σ H _ p => (hl i σ H p).1) (fun i x σ H hi p => by
      have hW := (hl i σ H p).2
      have hlt : i < L.length := by
        rw [← hW.len]
        exact (List.getElem?_eq_some_iff.mp hi).1
      have hg : L[i]? = some L[i] := List.getElem?_eq_getElem hlt
      generalize L[i] = w at hg
      obtain ⟨u, v⟩ := w
      obtain ⟨t, h1, h2⟩ := hW.at_ i u v hg
      cases hi.symm.trans h1
      exact ⟨t, _, rfl, .of h2, rfl, _, _, rfl, _, _, rfl, rfl, hs i u v σ H hg p⟩) (fun σ H p => by
      rw [(hl _ σ H p).2.len] at p
      exact hd σ H p)⟩
theorem q_forP9 {j1 j2 : Nat} {a : Addr} {ts : List V} {L : List (Int × Int)} (h : Vl tl σ H (.ref a)) (Pv : Nat → L2.St → Hp → Prop) (h0 : Pv 0 σ H) (hl : ∀ i σ' H', Pv i σ' H' → SqL K H' a ts ∧ TupsAt H' ts L)
    (hs : ∀ (i : Nat) u v σ H, L[i]? = some (u, v) → Pv i σ H → tz { D with nx := Pv (i + 1), ct := Pv (i + 1), bk := tw D } ((σ.set j1 (some (.int u))).set j2 (some (.int v))) H) (hd : ∀ σ H, Pv L.length σ H → tw D σ H) :
    tSeq (tFor (iList K tl) (gTup K 2 (gCons (gName j1) (gCons (gName j2) gNil))) tz) tw D σ H := g_forP9 (D := { D with nx := tw D }) h Pv h0 hl hs hd
theorem TupsAt.keep {H H' : Hp} {ts : List V} {L : List (Int × Int)} {x : Addr} (h : TupsAt H ts L) (s : Same (Ovc.but H x) (Ovc.but H' x)) (hx : ∀ xs, H x ≠ some (.tup xs)) : TupsAt H' ts L := ⟨h.len, fun i u v e => by
  obtain ⟨t, h1, h2⟩ := h.at_ i u v e
  exact ⟨t, h1, (s.trans but_same) _ _ (by rw [but_ne (fun e => hx _ (by rw [← e]; exact h2))]; exact h2)⟩⟩
theorem ArcAt.keep {H H' : Hp} {zs : List V} {A : List ((Int × Int) × Int)} {x : Addr} (h : ArcAt H zs A) (s : Same (Ovc.but H x) (Ovc.but H' x)) (hx : ∀ xs, H x ≠ some (.tup xs)) : ArcAt H' zs A := ⟨h.len, fun i z e => by
  obtain ⟨t, t1, h1, h2, h3⟩ := h.at_ i z e
  exact ⟨t, t1, h1, (s.trans but_same) _ _ (by rw [but_ne (fun e => hx _ (by rw [← e]; exact h2))]; exact h2), (s.trans but_same) _ _ (by rw [but_ne (fun e => hx _ (by rw [← e]; exact h3))]; exact h3)⟩⟩
theorem PrsAt.keep {H H' : Hp} {bs : List Addr} {M : List (Int × Int)} {x : Addr} (h : PrsAt H bs M) (s : Same (Ovc.but H x) (Ovc.but H' x)) (hx : ∀ xs, H x ≠ some (.tup xs)) : PrsAt H' bs M := by
  unfold PrsAt at h ⊢
  induction h with
  | nil => exact .nil
  | cons h t ih => exact .cons ((s.trans but_same) _ _ (by rw [but_ne (fun e => hx _ (by rw [← e]; exact h))]; exact h)) ih
theorem PrsAt.tups {H : Hp} {bs : List Addr} {M : List (Int × Int)} (h : PrsAt H bs M) : TupsAt H (bs.map V.ref) M := ⟨by rw [List.length_map, h.len], fun i u v e => by
  obtain ⟨b, hb, hh⟩ := h.get2 e
  exact ⟨b, by rw [List.getElem?_map, hb]; rfl, hh⟩⟩
end
section
variable {P : Program} {w : World} {K : PySem.W.Frag} {mg : Str → Option Value} {base : Heap} {CT CB : Addr}
theorem ok_turnNet {f : Addr} {fd : FuncData} {k k1 k2 k3 : Nat} (l1 : k1 ≤ k) (l2 : k2 ≤ k) (l3 : k3 ≤ k) (F : Fun K "turn_net" "turn_net" sTurnNet f fd) (c_check_keys : KalX P w K mg base k1 "_check_keys" ["net", "turns"] (spChkKeys K CT CB)) (c_ways_from : Kal P w K mg base k2 "ways_from" ["net"] (spWaysFrom K)) (c_open_ways : Kal P w K mg base k3 "open_ways" ["net"] (spOpenWays K)) (mL : mg "list" = none) :
    FnOk P w K mg base (L2.CX P w) (k + 1) f fd ["net", "turns"] (spTurnNet K CT CB) := by
  refine F.okX scTurnNet (fun vs H Q E h => ?_) (fun cdv A outer s H vs Q E hr h => ?_)
  · obtain ⟨v, N, td, kvs, L, M, rfl, _⟩ := h
    rfl
  · obtain ⟨v, N, td, kvs, L, M, rfl, hN, ok, htd, hG, hLl, hpm, hsr, q1, q2, q3⟩ := h
    have hu := hu_of hr
    refine ⟨_, pss_cons (ps_expr (pe_kx (E := E) c_check_keys hr (by first | decide | omega) (by rfl) (takes_of rfl rfl rfl rfl) (pa_cons (pv 0) (pa_cons (pv 1) pa_nil))))
      (pss_cons (ps_set (i := 2) scTurnNet.nd rfl (.inl rfl) (pe_k c_ways_from hr (by first | decide | omega) (by rfl) (pa_cons (pv 0) pa_nil)))
      (pss_cons (ps_set (i := 3) scTurnNet.nd rfl (.inl rfl) (pe_callTy (call_list_dT rfl) (by rfl) mL (by decide +kernel) (pa_cons (pe_k c_open_ways hr (by first | decide | omega) (by rfl) (pa_cons (pv 0) pa_nil)) pa_nil)))
      (pss_cons (ps_set (i := 4) scTurnNet.nd rfl (.inl rfl) pe_dnewT)
      (pss_cons (ps_for (passes_of rfl) rfl (pi_list (pv 3)) (pg_tup rfl (pgs_cons (pg_name (i := 5) scTurnNet.nd rfl (.inl rfl)) (pgs_cons (pg_name (i := 6) scTurnNet.nd rfl (.inl rfl)) pgs_nil)))
      (pss_cons (ps_dput hu (pv 4) (pe_tup (pa_cons (pv 5) (pa_cons (pv 6) pa_nil))) (pe_lst pa_nil) rfl)
        (pss_one (ps_for (passes_of rfl) rfl (pi_list (pe_dget hu (pv 2) (pv 6) (fun _ _ => rfl))) (pg_tup rfl (pgs_cons (pg_name (i := 7) scTurnNet.nd rfl (.inl rfl)) (pgs_cons (pg_name (i := 8) scTurnNet.nd rfl (.inl rfl)) pgs_nil)))
        (pss_cons (ps_set (i := 9) scTurnNet.nd rfl (.inl rfl) (pe_dget2 hu (pv 1) (pe_tup (pa_cons (pv 5) (pa_cons (pv 6) (pa_cons (pv 7) pa_nil)))) pe_int ⟨by rfl, by rfl, by rfl, by rfl⟩))
          (pss_one (ps_if (pt_cmpR op_notN (pv 9) pe_non (nomark _))
          (pss_one (ps_expr (pe_bm PySem.F.plainAttrs_list PySem.F.slot_list_append PySem.F.type_list_append mt_append (pe_dget hu (pv 4) (pe_tup (pa_cons (pv 5) (pa_cons (pv 6) pa_nil))) (fun _ _ => rfl)) (pa_cons (pe_tup (pa_cons (pe_tup (pa_cons (pv 6) (pa_cons (pv 7) pa_nil))) (pa_cons (pe_op op_add (pv 9) (pv 8)) pa_nil))) pa_nil))))
          pss_nil)))))))
      (pss_one (ps_ret (pe_tup (pa_cons (pv 3) (pa_cons (pv 4) pa_nil))))))))), ?_⟩
    refine ⟨v, rfl, .ref td, rfl, v, N, td, kvs, L, M, rfl, hN, ok, htd, hG, hLl, hpm, hsr, q1, q2, fun e1 e2 H1 s1 => ?_⟩
    have q3 := q3 e1 e2
    refine nx_of ?_
    refine q_asgE ⟨v, rfl, v, N, rfl, Dp.to hN s1, ok, fun H2 nr L1 s2 _ hNr => ?_⟩
    have s02 := s1.trans s2
    refine q_asgE ⟨v, rfl, v, N, rfl, Dp.to hN s02, ok, fun H3 od Lw s3 n3 e3 hLw hLwl => ⟨od, owK Lw, rfl, .inl e3, fun nd bs nnd hbs => ?_⟩⟩
    obtain rfl : L1 = Lw := hNr.ok.uniq hLw
    have hPb : PrsAt H3 bs (L1.map (·.1)) := keys_prs hbs (by unfold owK; rw [List.map_map, List.map_map]; rfl)
    have s03 := s02.trans s3
    have snd := same_upd (o := .lst (bs.map V.ref)) nnd
    have nnd0 : H nd = none := Same.free s03 nnd
    have end_ := upd_same (H := H3) (a := nd) (o := .lst (bs.map V.ref))
    have hPb4 := hPb.to snd
    generalize upd H3 nd (.lst (bs.map V.ref)) = H4 at snd end_ hPb4
    have s04 := s03.trans snd
    have hNr4 := hNr.to (s3.trans snd)
    refine q_dnewT fun ad nad => ?_
    have sad := same_upd (o := .dT []) nad
    have nad0 : H ad = none := Same.free s04 nad
    obtain ⟨kvn, enr, hnr⟩ := (hNr4.to sad).ex
    have hPb5 := hPb4.to sad
    have end5 := sad _ _ end_
    have ead5 := upd_same (H := H4) (a := ad) (o := .dT [])
    generalize upd H4 ad (.dT []) = H5 at sad enr hnr hPb5 end5 ead5
    have s05 := s04.trans sad
    have nda : nd ≠ ad := fun e => by rw [← e, end_] at nad; cases nad
    have keyNd : (L1.map fun z => K2 z.1).Nodup := List.pairwise_map.mpr (hLw.srt.imp fun {p q} h e => by
      have := SrtO.lexB_iff.mp h
      have e := K2_inj e
      rw [e] at this
      omega)
    refine q_forP9 (K := K) (a := nd) (ts := bs.map V.ref) (L := L1.map (·.1)) (vl_var rfl)
      (fun i σ H6 => ∃ (y5 y6 y7 y8 y9 : Option V) (rw : List Addr), σ = [some v, some (.ref td), some (.ref nr), some (.ref nd), some (.ref ad), y5, y6, y7, y8, y9] ∧ Same H H6 ∧ Same (but H5 ad) (but H6 ad) ∧ H6 ad = some (.dT (kz ((L1.take i).map fun z => K2 z.1) rw)) ∧ rw.length = i ∧ rw.Nodup ∧ ad ∉ rw ∧ (∀ a ∈ rw, H5 a = none) ∧
        ∀ (j : Nat) z a, (L1.take i)[j]? = some z → rw[j]? = some a → ∃ zs, H6 a = some (.lst zs) ∧ ArcAt H6 zs (arcL kvs L1 z.1))
      ⟨_, _, _, _, _, [], rfl, s05, Same.refl _, ead5, rfl, .nil, List.not_mem_nil, fun a h => (nomatch h), fun j z a h => by rw [List.take_zero] at h; simp at h⟩ (fun i σ H6 hP => ?_) (fun i a b σ H6 hi hP => ?_) (fun σ H6 hP => ?_)
    · obtain ⟨_, _, _, _, _, _, _, s6, sb, _⟩ := hP
      exact ⟨.of ((sb.trans but_same) _ _ (by rw [but_ne nda]; exact end5)), hPb5.tups.keep sb fun xs e => by rw [ead5] at e; cases e⟩
    · obtain ⟨y5, y6, y7, y8, y9, rw_, rfl, s6, sb, ead, hlen, hnd, hadn, hfr, hA⟩ := hP
      rw [List.getElem?_map] at hi
      obtain ⟨z0, hz0, ez0⟩ := Option.map_eq_some_iff.mp hi
      obtain ⟨⟨a', b'⟩, pr⟩ := z0
      cases ez0
      have hin := wyP_in ok ((hLw.mem a b pr).mp (List.mem_of_getElem? hz0))
      have il := (List.getElem?_eq_some_iff.mp hz0).1
      have kl : ((L1.take i).map fun z => K2 z.1).length = rw_.length := by rw [List.length_map, List.length_take, hlen]; omega
      have knew : K2 (a, b) ∉ (L1.take i).map fun z => K2 z.1 := fun h => by
        have hk := keyNd
        rw [← List.take_append_drop i L1, List.map_append, List.drop_eq_getElem_cons il] at hk
        have := (List.nodup_append.mp hk).2.2 _ h (K2 (a, b)) (by
          have e := (List.getElem?_eq_some_iff.mp hz0).2
          rw [e]
          exact List.mem_cons_self)
        exact this rfl
      refine ⟨Nat.zero_le _, fun p np => ⟨.ref ad, rfl, .int a, rfl, .int b, rfl, by show 2 ≤ sizeLine; decide, fun T nT => ?_⟩⟩
      have sp := same_upd (o := .lst []) np
      have sT := same_upd (o := .tup [.int a, .int b]) nT
      have adp : ad ≠ p := ne_of_none ead np
      have adT : ad ≠ T := ne_of_none (sp _ _ ead) nT
      refine ⟨ad, _, rfl, DPut.t (k := K2 (a, b)) (by rw [upd_ne adT, upd_ne adp]; exact ead) upd_same (by rw [kz_len kl.symm, List.length_map, List.length_take]; exact Nat.lt_of_le_of_lt (m := 10000) (by omega) (by decide)), ?_⟩
      rw [kz_put knew kl]
      have np0 : H p = none := Same.free s6 np
      have np5 : H5 p = none := by
        cases e : H5 p with
        | none => rfl
        | some u =>
          have : p ≠ ad := fun z => adp z.symm
          have := (sb.trans but_same) _ _ (by rw [but_ne this]; exact e)
          rw [np] at this
          cases this
      have pT : p ≠ T := fun e => by rw [← e] at nT; rw [upd_same] at nT; cases nT
      have s7 : Same H (upd (upd (upd H6 p (.lst [])) T (.tup [.int a, .int b])) ad (.dT (kz ((L1.take i).map (fun z => K2 z.1) ++ [K2 (a, b)]) (rw_ ++ [p])))) := same_upd' (s6.trans (sp.trans sT)) nad0
      have sb7 : Same (but H5 ad) (but (upd (upd (upd H6 p (.lst [])) T (.tup [.int a, .int b])) ad (.dT (kz ((L1.take i).map (fun z => K2 z.1) ++ [K2 (a, b)]) (rw_ ++ [p])))) ad) := by
        rw [but_upd]
        exact sb.trans (but_mono (sp.trans sT))
      have ep7 : (upd (upd (upd H6 p (.lst [])) T (.tup [.int a, .int b])) ad (.dT (kz ((L1.take i).map (fun z => K2 z.1) ++ [K2 (a, b)]) (rw_ ++ [p])))) p = some (.lst []) := by
        rw [upd_ne (fun e => adp e.symm), upd_ne pT]
        exact upd_same
      have ead7 : (upd (upd (upd H6 p (.lst [])) T (.tup [.int a, .int b])) ad (.dT (kz ((L1.take i).map (fun z => K2 z.1) ++ [K2 (a, b)]) (rw_ ++ [p])))) ad = some (.dT (kz ((L1.take i).map (fun z => K2 z.1) ++ [K2 (a, b)]) (rw_ ++ [p]))) := upd_same
      have hA7 : ∀ (j : Nat) z c, (L1.take i)[j]? = some z → rw_[j]? = some c → ∃ zs, (upd (upd (upd H6 p (.lst [])) T (.tup [.int a, .int b])) ad (.dT (kz ((L1.take i).map (fun z => K2 z.1) ++ [K2 (a, b)]) (rw_ ++ [p])))) c = some (.lst zs) ∧ ArcAt (upd (upd (upd H6 p (.lst [])) T (.tup [.int a, .int b])) ad (.dT (kz ((L1.take i).map (fun z => K2 z.1) ++ [K2 (a, b)]) (rw_ ++ [p])))) zs (arcL kvs L1 z.1) ∧ c ≠ p := fun j z c hz hc => by
        obtain ⟨zs, e1, e2⟩ := hA j z c hz hc
        have cad : c ≠ ad := fun e => hadn (e ▸ List.mem_of_getElem? hc)
        refine ⟨zs, by rw [upd_ne cad]; exact sT _ _ (sp _ _ e1), ?_, fun e => by rw [e, np] at e1; cases e1⟩
        refine ((e2.to sp).to sT).keep (x := ad) (by rw [but_upd]; exact Same.refl _) fun xs e => ?_
        rw [sT _ _ (sp _ _ ead)] at e
        cases e
      generalize (upd (upd (upd H6 p (.lst [])) T (.tup [.int a, .int b])) ad (.dT (kz ((L1.take i).map (fun z => K2 z.1) ++ [K2 (a, b)]) (rw_ ++ [p])))) = H7 at s7 sb7 ep7 ead7 hA7
      have s57 := sb7.trans but_same
      have nrad : nr ≠ ad := fun e => by rw [e, ead5] at enr; cases enr
      have enr7 := s57 _ _ (by rw [but_ne nrad]; exact enr)
      obtain ⟨nb, tsn, hnb, enb, hTn⟩ := hnr b hin.2.1.1 hin.2.1.2
      have nbad : nb ≠ ad := fun e => by rw [e, ead5] at enb; cases enb
      have enb7 := s57 _ _ (by rw [but_ne nbad]; exact enb)
      have hTn7 : TupsAt H7 tsn (frS L1 b) := hTn.keep sb7 fun xs e => by rw [ead5] at e; cases e
      have nbp : nb ≠ p := fun e => by rw [e, np5] at enb; cases enb
      have htd7 := s7 _ _ htd
      have tdp : td ≠ p := fun e => by rw [e, np0] at htd; cases htd
      have adp' : ad ≠ p := adp
      have pno : ∀ xs, H7 p ≠ some (.tup xs) := fun xs e => by rw [ep7] at e; cases e
      have hval : valV (kz ((L1.take i).map (fun z => K2 z.1) ++ [K2 (a, b)]) (rw_ ++ [p])) (K2 (a, b)) = some (.ref p) := by
        refine kz_val (i := i) ?_ ?_ ?_
        · have e : (L1.take i).map (fun z => K2 z.1) ++ [K2 (a, b)] = (L1.take (i + 1)).map fun z => K2 z.1 := by rw [take_snoc hz0, List.map_append]; rfl
          rw [e, List.map_take]
          exact List.Pairwise.sublist (List.take_sublist _ _) keyNd
        · rw [List.getElem?_append_right (by rw [kl, hlen]; exact Nat.le_refl _), kl, hlen, Nat.sub_self]
          rfl
        · rw [List.getElem?_append_right (by rw [hlen]; exact Nat.le_refl _), hlen, Nat.sub_self]
          rfl
      refine g_forP9 (K := K) (a := nb) (ts := tsn) (L := frS L1 b) (vl_dgetI (vl_var rfl) (vl_var rfl) enr7 hnb)
        (fun j σ H8 => ∃ (y7 y8 y9 : Option V) (zs : List V), σ = [some v, some (.ref td), some (.ref nr), some (.ref nd), some (.ref ad), some (.int a), some (.int b), y7, y8, y9] ∧ Same (but H7 p) (but H8 p) ∧ H8 p = some (.lst zs) ∧ ArcAt H8 zs (((frS L1 b).take j).filterMap (arcF kvs (a, b))))
        ⟨_, _, _, [], rfl, Same.refl _, ep7, ArcAt.nil⟩ (fun j σ H8 hP => ?_) (fun j c price σ H8 hj hP => ?_) (fun σ H8 hP => ?_)
      · obtain ⟨_, _, _, _, _, s8, _⟩ := hP
        exact ⟨.of ((s8.trans but_same) _ _ (by rw [but_ne nbp]; exact enb7)), hTn7.keep s8 pno⟩
      · obtain ⟨y7, y8, y9, zs, rfl, s8, ep8, hZ⟩ := hP
        have s78 := s8.trans but_same
        have td8 := s78 _ _ (by rw [but_ne tdp]; exact htd7)
        have ead8 := s78 _ _ (by rw [but_ne adp']; exact ead7)
        refine q_asgE ⟨.ref td, rfl, td, rfl, .inr ⟨_, .inl td8⟩, .int a, rfl, .int b, rfl, .int c, rfl, by show 3 ≤ sizeLine; decide, fun T2 nT2 => ⟨_, DGet.t (k := K3 (a, b, c)) (same_upd nT2 _ _ td8) upd_same, ?_⟩⟩
        have sT2 := same_upd (o := .tup [.int a, .int b, .int c]) nT2
        rw [tG_eq hG]
        generalize upd H8 T2 (.tup [.int a, .int b, .int c]) = H9 at sT2
        have ep9 := sT2 _ _ ep8
        have jl := (List.getElem?_eq_some_iff.mp hj).1
        have zl : zs.length ≤ 5000 := by
          rw [hZ.len]
          refine Nat.le_trans (List.length_filterMap_le _ _) ?_
          rw [List.length_take]
          have := frS_len (L := L1) (x := b)
          omega
        have ea : ((frS L1 b).take (j + 1)).filterMap (arcF kvs (a, b)) = ((frS L1 b).take j).filterMap (arcF kvs (a, b)) ++ optL (arcF kvs (a, b) (c, price)) := by
          rw [take_snoc hj]
          exact filterMap_snoc9
        have earc : arcF kvs (a, b) (c, price) = (tG kvs (a, b, c)).map fun t => ((b, c), t + price) := rfl
        rw [earc] at ea
        cases eo : tG kvs (a, b, c) with
        | none =>
          rw [eo] at ea
          refine g_when (b := !decide (V.non = V.non)) (an_test (vl_notN (vl_var rfl))) (fun h => by rw [decide_eq_true rfl] at h; cases h) (fun _ => ⟨_, _, _, zs, rfl, s8.trans (but_mono sT2), ep9, ?_⟩)
          rw [ea]
          show ArcAt H9 zs (_ ++ [])
          rw [List.append_nil]
          exact hZ.to sT2
        | some t =>
          rw [eo] at ea
          refine g_when (b := !decide (V.int t = V.non)) (an_test (vl_notN (vl_var rfl))) (fun _ => ?_) (fun h => by cases h)
          have ead9 := sT2 _ _ ead8
          refine ⟨.ref ad, rfl, .int a, rfl, .int b, rfl, by show 2 ≤ sizeLine; decide, fun T3 nT3 => ?_⟩
          have sT3 := same_upd (o := .tup [.int a, .int b]) nT3
          have eT3 := upd_same (H := H9) (a := T3) (o := .tup [.int a, .int b])
          refine ⟨ad, .ref p, rfl, by rw [← hval]; exact DGet.t (k := K2 (a, b)) (sT3 _ _ ead9) eT3, ?_⟩
          generalize upd H9 T3 (.tup [.int a, .int b]) = H10 at sT3
          have ep10 := sT3 _ _ ep9
          refine ⟨.inl ⟨rfl, _, .inl (.inl ep10)⟩, .int b, rfl, .int c, rfl, by show 2 ≤ sizeLine; decide, fun T4 nT4 => ?_⟩
          have sT4 := same_upd (o := .tup [.int b, .int c]) nT4
          have eT4 := upd_same (H := H10) (a := T4) (o := .tup [.int b, .int c])
          generalize upd H10 T4 (.tup [.int b, .int c]) = H11 at sT4 eT4
          refine (vl_I0 (g := fun i j => .int (i + j)) (vl_var rfl) (vl_var rfl)) _ ⟨by show 2 ≤ sizeLine; decide, fun T5 nT5 => ?_⟩
          have sT5 := same_upd (o := .tup [.ref T4, .int (t + price)]) nT5
          have eT5 := upd_same (H := H11) (a := T5) (o := .tup [.ref T4, .int (t + price)])
          generalize upd H11 T5 (.tup [.ref T4, .int (t + price)]) = H12 at sT5 eT5
          have s912 := sT3.trans (sT4.trans sT5)
          have ep12 := s912 _ _ ep9
          refine ⟨p, zs, .ref T5, rfl, rfl, ep12, Nat.lt_of_le_of_lt zl (by decide), ⟨_, _, _, zs ++ [.ref T5], rfl, ?_, upd_same, ?_⟩⟩
          · rw [but_upd]
            exact s8.trans (but_mono (sT2.trans s912))
          · rw [ea]
            exact ArcAt.upd (((hZ.to sT2).to s912).snoc (z := ((b, c), t + price)) eT5 (sT5 _ _ eT4)) ep12
      · obtain ⟨y7, y8, y9, zs, rfl, s8, ep8, hZ⟩ := hP
        rw [List.take_length] at hZ
        have s78 := s8.trans but_same
        refine ⟨_, _, _, _, _, rw_ ++ [p], rfl, ?_, ?_, ?_, by rw [List.length_append, hlen]; rfl, ?_, ?_, ?_, fun j z c' hz hc => ?_⟩
        · exact (same_but s7 np0).trans s78
        · exact fun x u e => by
            have xp : x ≠ p := fun z => by
              rw [z] at e
              rw [but_ne (fun e => adp e.symm), np5] at e
              cases e
            have xad : x ≠ ad := fun z => by rw [z, but_at] at e; cases e
            have e7 := sb7 _ _ e
            rw [but_ne xad] at e7
            rw [but_ne xad]
            exact s78 _ _ (by rw [but_ne xp]; exact e7)
        · rw [take_snoc hz0, List.map_append]
          exact s78 _ _ (by rw [but_ne adp']; exact ead7)
        · refine List.nodup_append.mpr ⟨hnd, List.nodup_cons.mpr ⟨List.not_mem_nil, .nil⟩, fun x hx y hy e => ?_⟩
          rw [List.mem_singleton.mp hy] at e
          obtain ⟨j, hj⟩ := List.mem_iff_getElem?.mp hx
          have hjl := (List.getElem?_eq_some_iff.mp hj).1
          have hzj : (L1.take i)[j]? = some ((L1.take i)[j]'(by rw [List.length_take]; omega)) := List.getElem?_eq_getElem _
          obtain ⟨_, _, _, hne⟩ := hA7 j _ x hzj hj
          exact hne e
        · intro h
          rcases List.mem_append.mp h with h | h
          · exact hadn h
          · exact adp (List.mem_singleton.mp h)
        · intro x hx
          rcases List.mem_append.mp hx with h | h
          · exact hfr x h
          · rw [List.mem_singleton.mp h]
            exact np5
        · rw [take_snoc hz0] at hz
          by_cases cj : j < i
          · rw [List.getElem?_append_left (by rw [List.length_take]; omega)] at hz
            rw [List.getElem?_append_left (by omega)] at hc
            obtain ⟨zs', e1, e2, hne⟩ := hA7 j z c' hz hc
            exact ⟨zs', s78 _ _ (by rw [but_ne hne]; exact e1), e2.keep s8 pno⟩
          · have jl := (List.getElem?_eq_some_iff.mp hc).1
            rw [List.length_append] at jl
            have jl : j < rw_.length + 1 := jl
            have : j = i := by omega
            subst this
            rw [List.getElem?_append_right (by rw [List.length_take]; omega), List.length_take, show j - min j L1.length = 0 by omega] at hz
            rw [List.getElem?_append_right (by omega), hlen, Nat.sub_self] at hc
            cases Option.some.inj hz
            cases Option.some.inj hc
            exact ⟨zs, ep8, hZ⟩
    · obtain ⟨y5, y6, y7, y8, y9, rw_, rfl, s6, sb, ead, hlen, hnd, hadn, hfr, hA⟩ := hP
      rw [List.length_map] at hlen ead hA
      rw [List.take_length] at ead hA
      have end6 := (sb.trans but_same) _ _ (by rw [but_ne nda]; exact end5)
      refine ⟨.ref nd, rfl, .ref ad, rfl, by show 2 ≤ sizeLine; decide, fun T nT => ?_⟩
      have sT := same_upd (o := .tup [.ref nd, .ref ad]) nT
      have hno : ∀ xs, H5 ad ≠ some (.tup xs) := fun xs e => by rw [ead5] at e; cases e
      refine q3 _ T L1 (s6.trans sT) ⟨hLw, hLwl, nd, ad, bs, rw_, upd_same, nnd0, nad0, sT _ _ end6, (hPb5.keep sb hno).to sT, sT _ _ ead, hlen, hnd, fun h => ?_, fun x hx => Same.free s05 (hfr x hx), fun i z x hz hx => ?_⟩
      · have := hfr nd h
        rw [end5] at this
        cases this
      · obtain ⟨zs, e1, e2⟩ := hA i z x hz hx
        exact ⟨zs, sT _ _ e1, e2.to sT⟩
end
/-! ### runs over pairs of places -/
def iLt (a b : Int) : Bool := decide (a < b)
theorem iLt_lin : Lin iLt := by
  unfold iLt
  refine ⟨fun a b h => decide_eq_false ?_, fun a b h k => ?_, fun a b c h k => decide_eq_true ?_⟩
  · have := of_decide_eq_true h
    omega
  · have := of_decide_eq_false h
    have := of_decide_eq_false k
    omega
  · have := of_decide_eq_true h
    have := of_decide_eq_true k
    omega
/-- pairs of which each begins where the one ahead ends -/
inductive Chn : Int → List (Int × Int) → Prop
  | nil {s : Int} : Chn s []
  | cons {s b : Int} {p : List (Int × Int)} : Chn b p → Chn s ((s, b) :: p)
def lastP (s : Int) : List (Int × Int) → Int
  | [] => s
  | z :: p => lastP z.2 p
theorem lastP_snoc {z : Int × Int} : ∀ {p : List (Int × Int)} {s : Int}, lastP s (p ++ [z]) = z.2
  | [], _ => rfl
  | y :: p, s => lastP_snoc (p := p) (s := y.2)
theorem Chn.snoc {z : Int × Int} {s : Int} {p : List (Int × Int)} (h : Chn s p) (e : lastP s p = z.1) : Chn s (p ++ [z]) := by
  induction h with
  | nil =>
    obtain ⟨a, b⟩ := z
    cases e
    exact .cons .nil
  | cons h ih => exact .cons (ih e)
theorem pl_chn {s : Int} {p q : List (Int × Int)} (h : Chn s p) (k : Chn s q) : pl ltP p q = pl iLt (p.map (·.2)) (q.map (·.2)) := by
  induction h generalizing q with
  | nil => cases k <;> rfl
  | @cons s b p h ih =>
    cases k with
    | nil => rfl
    | @cons _ c q k =>
      rw [List.map_cons, List.map_cons, pl_cons, pl_cons]
      have e1 : ltP (s, b) (s, c) = iLt b c := by
        unfold ltP iLt
        rw [Bool.eq_iff_iff, decide_eq_true_eq, decide_eq_true_eq]
        show (s < s ∨ s = s ∧ b < c) ↔ b < c
        omega
      have e2 : ltP (s, c) (s, b) = iLt c b := by
        unfold ltP iLt
        rw [Bool.eq_iff_iff, decide_eq_true_eq, decide_eq_true_eq]
        show (s < s ∨ s = s ∧ c < b) ↔ c < b
        omega
      rw [e1, e2]
      by_cases c1 : iLt b c = true
      · rw [c1]
        rfl
      · by_cases c2 : iLt c b = true
        · rw [Bool.eq_false_iff.mpr c1, c2]
          rfl
        · obtain rfl := iLt_lin.tot _ _ (Bool.eq_false_iff.mpr c1) (Bool.eq_false_iff.mpr c2)
          rw [ih k]
def runP (s : Int) (p : List (Int × Int)) : List Int := s :: p.map (·.2)
theorem runP_len {s : Int} {p : List (Int × Int)} : (runP s p).length = p.length + 1 := by
  unfold runP
  rw [List.length_cons, List.length_map]
theorem elt_run {s : Int} {x y : Pth (Int × Int)} (h : Chn s x.2) (k : Chn s y.2) : elt iLt (x.1, runP s x.2) (y.1, runP s y.2) = elt ltP x y := by
  have e : pl iLt (runP s x.2) (runP s y.2) = pl ltP x.2 y.2 := by
    unfold runP
    rw [pl_cons, pl_chn h k, iLt_lin.irr]
    rfl
  rw [Bool.eq_iff_iff, elt_true, elt_true]
  show x.1 < y.1 ∨ (x.1 = y.1 ∧ ((runP s x.2).length < (runP s y.2).length ∨ ((runP s x.2).length = (runP s y.2).length ∧ pl iLt (runP s x.2) (runP s y.2) = true))) ↔ _
  rw [e, runP_len, runP_len, Nat.add_lt_add_iff_right, Nat.add_right_cancel_iff]
/-! bettering along the arcs -/
section
variable {ν : Type} {lt : ν → ν → Bool} {S : List (ν × Int)} {A : ν → List (ν × Int)}
abbrev BFn (ν : Type) := ν → Option (Pth ν)
def LeB (lt : ν → ν → Bool) (B B' : BFn ν) : Prop := ∀ v x, B v = some x → ∃ x', B' v = some x' ∧ elt lt x x' = false
theorem LeB.refl (L : Lin lt) (B : BFn ν) : LeB lt B B := fun v x h => ⟨x, h, (elt_lin L).irr x⟩
theorem LeB.trans (L : Lin lt) {B B' B'' : BFn ν} (h : LeB lt B B') (k : LeB lt B' B'') : LeB lt B B'' := fun v x e => by
  obtain ⟨y, e1, h1⟩ := h v x e
  obtain ⟨z, e2, h2⟩ := k v y e1
  exact ⟨z, e2, (elt_lin L).nt h1 h2⟩
/-- to v there is something that is not behind y -/
def Rlx (lt : ν → ν → Bool) (B : BFn ν) (v : ν) (y : Pth ν) : Prop := ∃ x, B v = some x ∧ elt lt y x = false
theorem Rlx.to (L : Lin lt) {B B' : BFn ν} {v : ν} {y : Pth ν} (h : Rlx lt B v y) (k : LeB lt B B') : Rlx lt B' v y := by
  obtain ⟨x, e, h⟩ := h
  obtain ⟨x', e', h'⟩ := k v x e
  exact ⟨x', e', (elt_lin L).nt h h'⟩
theorem Rlx.mono (L : Lin lt) {B : BFn ν} {v : ν} {y z : Pth ν} (h : Rlx lt B v y) (k : elt lt z y = false) : Rlx lt B v z := by
  obtain ⟨x, e, h⟩ := h
  exact ⟨x, e, (elt_lin L).nt k h⟩
def BIs (S : List (ν × Int)) (A : ν → List (ν × Int)) (B : BFn ν) : Prop := ∀ v x, B v = some x → IsP S A v x
def Cov (lt : ν → ν → Bool) (S : List (ν × Int)) (A : ν → List (ν × Int)) (t : Nat) (B : BFn ν) : Prop := ∀ v y, IsP S A v y → y.2.length ≤ t → Rlx lt B v y
/-- what a pass over all arcs does -/
def PassB (lt : ν → ν → Bool) (A : ν → List (ν × Int)) (B0 B1 : BFn ν) : Prop := LeB lt B0 B1 ∧ ∀ u x, B0 u = some x → ∃ x', elt lt x x' = false ∧ ∀ a ∈ A u, Rlx lt B1 a.1 (ext x' a.1 a.2)
theorem PassB.cov (L : Lin lt) {B0 B1 : BFn ν} {t : Nat} (h : PassB lt A B0 B1) (ht : 1 ≤ t) (k : Cov lt S A t B0) : Cov lt S A (t + 1) B1 := fun v y p hl => by
  cases p with
  | start hs => exact (k _ _ (.start hs) (by show 1 ≤ t; exact ht)).to L h.1
  | @step u _ w z p ha =>
    have hz : z.2.length ≤ t := by
      have : (z.2 ++ [v]).length ≤ t + 1 := hl
      rw [List.length_append] at this
      exact Nat.le_of_succ_le_succ this
    obtain ⟨x, e, hx⟩ := k u z p hz
    obtain ⟨x', h1, h2⟩ := h.2 u x e
    exact (h2 (v, w) ha).mono L (ext_mono L ((elt_lin L).nt hx h1))
theorem PassB.all (L : Lin lt) {B : BFn ν} {t : Nat} (h : PassB lt A B B) (ht : 1 ≤ t) (k : Cov lt S A t B) : ∀ m, Cov lt S A (t + m) B
  | 0 => k
  | m + 1 => (PassB.all L h ht k m |> fun z => h.cov L (Nat.le_add_right_of_le ht) z)
theorem Cov.least (L : Lin lt) {B : BFn ν} {t : Nat} (hB : BIs S A B) (h : Cov lt S A t B) {v : ν} {y : Pth ν} (hy : Lst lt S A v y) (hl : y.2.length ≤ t) : B v = some y := by
  obtain ⟨x, e, hx⟩ := h v y hy.1 hl
  rw [e, (elt_lin L).tot x y (hy.2 x (hB v x e)) hx]
/-- one arc -/
def setB [DecidableEq ν] (B : BFn ν) (v : ν) (y : Pth ν) : BFn ν := fun u => if u = v then some y else B u
theorem setB_le [DecidableEq ν] (L : Lin lt) {B : BFn ν} {v : ν} {y : Pth ν} (h : ∀ x, B v = some x → elt lt x y = false) : LeB lt B (setB B v y) := fun u x e => by
  by_cases c : u = v
  · subst c
    exact ⟨y, if_pos rfl, h x e⟩
  · exact ⟨x, by unfold setB; rw [if_neg c, e], (elt_lin L).irr x⟩
theorem setB_at [DecidableEq ν] (L : Lin lt) {B : BFn ν} {v : ν} {y : Pth ν} : Rlx lt (setB B v y) v y := ⟨y, if_pos rfl, (elt_lin L).irr y⟩
theorem setB_is [DecidableEq ν] {B : BFn ν} {v : ν} {y : Pth ν} (h : BIs S A B) (k : IsP S A v y) : BIs S A (setB B v y) := fun u x e => by
  by_cases c : u = v
  · subst c
    have e : (if u = u then some y else B u) = some x := e
    rw [if_pos rfl] at e
    cases e
    exact k
  · have e : (if u = v then some y else B u) = some x := e
    rw [if_neg c] at e
    exact h u x e
end
/-! the graph of pairs -/
section
variable {kvs : List (List L2.Key × V)} {Lw : List ((Int × Int) × Int)} {s : Int}
def srcT (Lw : List ((Int × Int) × Int)) (s : Int) : List ((Int × Int) × Int) := Lw.filter fun z => decide (z.1.1 = s)
theorem isP_chn {v : Int × Int} {x : Pth (Int × Int)} (h : IsP (srcT Lw s) (arcL kvs Lw) v x) : Chn s x.2 ∧ lastP s x.2 = v.2 := by
  induction h with
  | @start n p hs =>
    have h := (List.mem_filter.mp hs).2
    obtain ⟨a, b⟩ := n
    have : a = s := of_decide_eq_true h
    subst this
    exact ⟨.cons .nil, rfl⟩
  | @step u v w x _ ha ih =>
    obtain ⟨q, _, e⟩ := List.mem_filterMap.mp ha
    obtain ⟨t, _, e⟩ := Option.map_eq_some_iff.mp e
    cases e
    exact ⟨ih.1.snoc ih.2, lastP_snoc⟩
theorem isP_in {v : Int × Int} {x : Pth (Int × Int)} (h : IsP (srcT Lw s) (arcL kvs Lw) v x) : ∃ p, (v, p) ∈ Lw := by
  cases h with
  | start hs => exact ⟨_, (List.mem_filter.mp hs).1⟩
  | step _ ha =>
    obtain ⟨q, hq, e⟩ := List.mem_filterMap.mp ha
    obtain ⟨t, _, e⟩ := Option.map_eq_some_iff.mp e
    obtain ⟨z, hz, rfl⟩ := List.mem_map.mp hq
    obtain ⟨hz, hd⟩ := List.mem_filter.mp hz
    have : z.1.1 = _ := of_decide_eq_true hd
    cases e
    exact ⟨z.2, by rw [← this]; exact hz⟩
/-- what an answer is -/
structure AnsT (kvs : List (List L2.Key × V)) (Lw : List ((Int × Int) × Int)) (s g : Int) (tot : Option Int) (run : Option (List Int)) (C : Int × Int → Option Int) : Prop where
  cert : ∀ v, (C v = none ∧ ∀ y, ¬ IsP (srcT Lw s) (arcL kvs Lw) v y) ∨ ∃ x, C v = some x.1 ∧ Lst ltP (srcT Lw s) (arcL kvs Lw) v x ∧ x.2.length ≤ Lw.length
  ans : (s = g ∧ tot = some 0 ∧ run = some [s]) ∨ (s ≠ g ∧ ((tot = none ∧ run = none ∧ ∀ v y, v.2 = g → ¬ IsP (srcT Lw s) (arcL kvs Lw) v y) ∨
    ∃ v x, v.2 = g ∧ IsP (srcT Lw s) (arcL kvs Lw) v x ∧ tot = some x.1 ∧ run = some (runP s x.2) ∧ ∀ u y, u.2 = g → IsP (srcT Lw s) (arcL kvs Lw) u y → elt ltP y x = false))
theorem AnsT.uniq {g : Int} {t1 t2 : Option Int} {r1 r2 : Option (List Int)} {C1 C2 : Int × Int → Option Int} (h : AnsT kvs Lw s g t1 r1 C1) (k : AnsT kvs Lw s g t2 r2 C2) : t1 = t2 ∧ r1 = r2 ∧ ∀ v, C1 v = C2 v := by
  have hC : ∀ v, C1 v = C2 v := fun v => by
    rcases h.cert v with ⟨e1, n1⟩ | ⟨x, e1, l1, _⟩ <;> rcases k.cert v with ⟨e2, n2⟩ | ⟨y, e2, l2, _⟩
    · rw [e1, e2]
    · exact absurd l2.1 (n1 y)
    · exact absurd l1.1 (n2 x)
    · rw [e1, e2, l1.uniq ltP_lin l2]
  have ht : t1 = t2 ∧ r1 = r2 := by
    rcases h.ans with ⟨e, h1, h2⟩ | ⟨n, h⟩ <;> rcases k.ans with ⟨e', k1, k2⟩ | ⟨n', k⟩
    · rw [h1, h2, k1, k2]; exact ⟨rfl, rfl⟩
    · exact absurd e n'
    · exact absurd e' n
    · rcases h with ⟨h1, h2, h3⟩ | ⟨v, x, hv, hx, h1, h2, h3⟩ <;> rcases k with ⟨k1, k2, k3⟩ | ⟨u, y, hu, hy, k1, k2, k3⟩
      · rw [h1, h2, k1, k2]; exact ⟨rfl, rfl⟩
      · exact absurd hy (h3 u y hu)
      · exact absurd hx (k3 v x hv)
      · have := (elt_lin ltP_lin).tot x y (k3 v x hv hx) (h3 u y hu hy)
        subst this
        rw [h1, h2, k1, k2]; exact ⟨rfl, rfl⟩
  exact ⟨ht.1, ht.2, hC⟩
end
/-! ### check_places -/
def badP (n x : Int) : Bool := !(decide (0 ≤ x) && decide (x < n))
theorem badP_in {n x : Int} (h : 0 ≤ x ∧ x < n) : ¬ badP n x = true := by
  unfold badP
  rw [decide_eq_true h.1, decide_eq_true h.2]
  exact Bool.false_ne_true
theorem badP_out {n x : Int} (h : ¬ (0 ≤ x ∧ x < n)) : badP n x = true := by
  unfold badP
  rw [Bool.not_eq_true', Bool.and_eq_false_iff, decide_eq_false_iff_not, decide_eq_false_iff_not]
  omega
def badPl (n : Int) (xs : List Int) : Option Int := xs.find? (badP n)
theorem badPl_none {n : Int} {xs : List Int} (h : badPl n xs = none) : ∀ x ∈ xs, 0 ≤ x ∧ x < n := fun x hx => by
  have := List.find?_eq_none.mp h x hx
  by_cases c : 0 ≤ x ∧ x < n
  · exact c
  · exact absurd (badP_out c) this
theorem badPl_of {n : Int} {xs : List Int} (h : ∀ x ∈ xs, 0 ≤ x ∧ x < n) : badPl n xs = none := List.find?_eq_none.mpr fun x hx => badP_in (h x hx)
def spChkPl (K : PySem.W.Frag) (CP : Addr) : Sp := fun vs H Q E => ∃ (n : Int) (p : Addr) (xs : List Int), vs = [.int n, .ref p] ∧ SqL K H p (xs.map V.int) ∧
  (∀ x, badPl n xs = some x → RaiseTo E H CP x) ∧ (badPl n xs = none → ∀ H', Same H H' → Q .non H')
abbrev sChkPl : Stmt := topS 13
theorem scChkPl : FnScope ["n", "places", "place"] ["n", "places"] (defScope sChkPl) := ⟨rfl, rfl, rfl, by decide +kernel, rfl, by decide +kernel, by decide +kernel⟩
section
variable {P : Program} {w : World} {K : PySem.W.Frag} {mg : Str → Option Value} {base : Heap} {CP fI : Addr}
theorem ok_chkPl {f : Addr} {fd : FuncData} (F : Fun K "check_places" "check_places" sChkPl f fd) (hP : PySem.LowX.LowTxt K mg "NoPlace" CP fI) : FnOk P w K mg base (L2.CX P w) 2 f fd ["n", "places"] (spChkPl K CP) := by
  refine F.okX scChkPl (fun vs H Q E h => ?_) (fun cdv A outer s H vs Q E hr h => ?_)
  · obtain ⟨n, p, xs, rfl, _⟩ := h
    rfl
  · obtain ⟨n, p, xs, rfl, hS, q1, q2⟩ := h
    refine ⟨_, pss_one (ps_for (passes_of rfl) rfl (pi_list (pv 1)) (pg_name (i := 2) scChkPl.nd rfl (.inl rfl))
      (pss_one (ps_if (pt_not (pt_chain op_le op_lt pe_int (pv 2) (pv 0)))
        (pss_one (ps_raiseLow rfl hP hr (takes_of rfl rfl rfl rfl) (by exact (pa_cons (pv 2) pa_nil))))
        pss_nil))), ?_⟩
    refine g_forL (K := K) (j := 2) (xs := xs.map V.int) (vl_var rfl) hS
      (fun i σ H3 => ∃ y2, σ = [some (.int n), some (.ref p), y2] ∧ Same H H3 ∧ badPl n (xs.take i) = none)
      ⟨none, rfl, Same.refl _, rfl⟩ (fun i σ H3 hP => ?_) (fun i v σ H3 hi hP => ?_) (fun σ H3 hP => ?_)
    · obtain ⟨_, _, s3, _⟩ := hP
      exact s3.seq hS
    · obtain ⟨y2, rfl, s3, hb⟩ := hP
      rw [List.getElem?_map] at hi
      cases hg : xs[i]? with
      | none =>
        rw [hg] at hi
        cases hi
      | some z =>
        rw [hg] at hi
        cases hi
        refine g_when (b := !(decide ((0 : Int) ≤ z) && decide (z < n))) (an_not (an_test (vl_chainI vl_c (vl_var rfl) (vl_var rfl)))) (fun hz => ?_) (fun hz => ?_)
        · refine raise_now (va_cons (vl_var rfl) va_nil) ((q1 z ?_).to s3)
          have e : xs = xs.take i ++ (z :: xs.drop (i + 1)) := by
            have hil := (List.getElem?_eq_some_iff.mp hg)
            rw [← hil.2, ← List.drop_eq_getElem_cons hil.1, List.take_append_drop]
          rw [e]
          unfold badPl at hb ⊢
          rw [List.find?_append, hb, List.find?_cons_of_pos (p := badP n) hz] <;> rfl
        · refine ⟨_, rfl, s3, ?_⟩
          unfold badPl at hb ⊢
          rw [take_snoc hg, List.find?_append, hb, List.find?_cons_of_neg (p := badP n) (fun z => by rw [show badP n _ = false from hz] at z; cases z)] <;> rfl
    · obtain ⟨y2, rfl, s3, hb⟩ := hP
      rw [List.length_map, List.take_length] at hb
      exact q2 hb _ s3
end
section
variable {K : PySem.W.Frag} {σ : L2.St} {H : Hp} {t0 t1 t2 : TE} {D : Ends} {tw : TS} {E : XK} {CP : Addr} {n a b : Int}
/-- check_places(n, [a]) -/
theorem q_chk1 (h0 : Vl t0 σ H (.int n)) (h1 : Vl t1 σ H (.int a)) (qb : ¬ (0 ≤ a ∧ a < n) → RaiseTo E H CP a) (k : 0 ≤ a ∧ a < n → ∀ H', Same H H' → tw D σ H') :
    tSeq (tDrop (tCall (spChkPl K CP) [] E (tCons t0 (tCons (tLst (tCons t1 tNil)) tNil)))) tw D σ H :=
  h0 _ (h1 _ ⟨by show 1 ≤ sizeLine; decide, fun p np => ⟨n, p, [a], rfl, .of upd_same, fun x hx => by
    have s : Same H (upd H p (.lst [.int a])) := same_upd np
    refine (?_ : RaiseTo E H CP x).to s
    by_cases hin : 0 ≤ a ∧ a < n
    · rw [badPl_of (by
        intro y hy
        rw [List.mem_singleton.mp hy]
        exact hin)] at hx
      cases hx
    · have e : x = a := List.mem_singleton.mp (List.mem_of_find?_eq_some hx)
      rw [e]
      exact qb hin, fun hx H' s' => k (badPl_none hx a List.mem_cons_self) H' ((same_upd np).trans s')⟩⟩)
/-- check_places(n, [a, b]) -/
theorem q_chk2 (h0 : Vl t0 σ H (.int n)) (h1 : Vl t1 σ H (.int a)) (h2 : Vl t2 σ H (.int b)) (qa : ¬ (0 ≤ a ∧ a < n) → RaiseTo E H CP a) (qb : 0 ≤ a ∧ a < n → ¬ (0 ≤ b ∧ b < n) → RaiseTo E H CP b)
    (k : 0 ≤ a ∧ a < n → 0 ≤ b ∧ b < n → ∀ H', Same H H' → tw D σ H') :
    tSeq (tDrop (tCall (spChkPl K CP) [] E (tCons t0 (tCons (tLst (tCons t1 (tCons t2 tNil))) tNil)))) tw D σ H :=
  h0 _ (h1 _ (h2 _ ⟨by show 2 ≤ sizeLine; decide, fun p np => ⟨n, p, [a, b], rfl, .of upd_same, fun x hx => by
    have s : Same H (upd H p (.lst [.int a, .int b])) := same_upd np
    refine (?_ : RaiseTo E H CP x).to s
    unfold badPl at hx
    by_cases hin : 0 ≤ a ∧ a < n
    · by_cases hin2 : 0 ≤ b ∧ b < n
      · have := badPl_of (n := n) (xs := [a, b]) (by
          intro y hy
          rcases List.mem_cons.mp hy with rfl | hy
          · exact hin
          · rw [List.mem_singleton.mp hy]
            exact hin2)
        unfold badPl at this
        rw [this] at hx
        cases hx
      · rw [List.find?_cons_of_neg (badP_in hin)] at hx
        have e : x = b := List.mem_singleton.mp (List.mem_of_find?_eq_some hx)
        rw [e]
        exact qb hin hin2
    · rw [List.find?_cons_of_pos (badP_out hin)] at hx
      cases hx
      exact qa hin, fun hx H' s' => k (badPl_none hx a List.mem_cons_self) (badPl_none hx b (List.mem_cons_of_mem _ List.mem_cons_self)) H' ((same_upd np).trans s')⟩⟩))
end
/-! ### sizes of the graph of pairs -/
theorem sub_lenG {α : Type} [DecidableEq α] : ∀ {xs ys : List α}, xs.Nodup → (∀ x ∈ xs, x ∈ ys) → xs.length ≤ ys.length
  | [], _, _, _ => Nat.zero_le _
  | x :: xs, ys, hn, h => by
    have hn' := List.nodup_cons.mp hn
    have hx := h x List.mem_cons_self
    have := sub_lenG (xs := xs) (ys := ys.erase x) hn'.2 fun z hz => (List.mem_erase_of_ne (fun e : z = x => hn'.1 (by rw [← e]; exact hz))).mpr (h z (List.mem_cons_of_mem _ hz))
    rw [List.length_erase_of_mem hx] at this
    have := List.length_pos_of_mem hx
    show xs.length + 1 ≤ ys.length
    omega
section
variable {N : Net} {kvs : List (List L2.Key × V)} {Lw : List ((Int × Int) × Int)} {s : Int}
theorem OwOk.keys (h : OwOk N Lw) : (Lw.map (·.1)).Nodup := by
  refine List.pairwise_map.mpr (List.Pairwise.imp_of_mem (R := fun a b => a ≠ b) (fun {a b} ha hb hab e => hab ?_) h.nd)
  obtain ⟨⟨x, y⟩, p⟩ := a
  obtain ⟨⟨x', y'⟩, p'⟩ := b
  cases e
  have h1 := (h.mem x y p).mp ha
  have h2 := (h.mem x y p').mp hb
  rw [h1] at h2
  cases h2
  rfl
theorem OwOk.in_ (ok : NetOk N) (h : OwOk N Lw) {z : (Int × Int) × Int} (hz : z ∈ Lw) : (0 ≤ z.1.1 ∧ z.1.1 < N.n) ∧ (0 ≤ z.1.2 ∧ z.1.2 < N.n) ∧ 1 ≤ z.2 := by
  obtain ⟨⟨x, y⟩, p⟩ := z
  have := wyP_in ok ((h.mem x y p).mp hz)
  exact ⟨this.1, this.2.1, this.2.2.1⟩
theorem prod_len (xs ys : List Int) : (xs.flatMap fun a => ys.map fun b => (a, b)).length = xs.length * ys.length := by
  induction xs with
  | nil => rw [List.flatMap_nil, List.length_nil, List.length_nil, Nat.zero_mul]
  | cons a xs ih => rw [List.flatMap_cons, List.length_append, ih, List.length_map, List.length_cons, Nat.add_mul, Nat.one_mul, Nat.add_comm]
theorem OwOk.size (ok : NetOk N) (h : OwOk N Lw) : Lw.length ≤ N.n.toNat * N.n.toNat := by
  have h1 := sub_lenG h.keys (ys := (rng N.n).flatMap fun a => (rng N.n).map fun b => (a, b)) fun x hx => by
    obtain ⟨z, hz, rfl⟩ := List.mem_map.mp hx
    have := h.in_ ok hz
    exact List.mem_flatMap.mpr ⟨z.1.1, mem_rng.mpr this.1, List.mem_map.mpr ⟨z.1.2, mem_rng.mpr this.2.1, rfl⟩⟩
  rw [List.length_map, prod_len, len_rng] at h1
  exact h1
theorem OwOk.row (ok : NetOk N) (h : OwOk N Lw) (x : Int) : (frS Lw x).length ≤ N.n.toNat := by
  unfold frS
  rw [List.length_map]
  have hn : ((Lw.filter fun z => decide (z.1.1 = x)).map fun z => z.1.2).Nodup := by
    refine List.pairwise_map.mpr (List.Pairwise.imp_of_mem (R := fun a b => a.1 ≠ b.1) (fun {a b} ha hb hab e => hab ?_) ((List.pairwise_map.mp h.keys).sublist List.filter_sublist))
    have h1 : a.1.1 = x := of_decide_eq_true (List.mem_filter.mp ha).2
    have h2 : b.1.1 = x := of_decide_eq_true (List.mem_filter.mp hb).2
    exact Prod.ext (h1.trans h2.symm) e
  have h1 := sub_lenG hn (ys := rng N.n) fun y hy => by
    obtain ⟨z, hz, rfl⟩ := List.mem_map.mp hy
    exact mem_rng.mpr (h.in_ ok (List.mem_filter.mp hz).1).2.1
  rw [List.length_map, len_rng] at h1
  exact h1
theorem arc_in {u : Int × Int} {a : (Int × Int) × Int} (h : a ∈ arcL kvs Lw u) : a.1 ∈ Lw.map (·.1) ∧ a.1.1 = u.2 := by
  obtain ⟨q, hq, e⟩ := List.mem_filterMap.mp h
  obtain ⟨t, _, e⟩ := Option.map_eq_some_iff.mp e
  obtain ⟨z, hz, rfl⟩ := List.mem_map.mp hq
  obtain ⟨hz, hd⟩ := List.mem_filter.mp hz
  have e1 : z.1.1 = u.2 := of_decide_eq_true hd
  cases e
  refine ⟨List.mem_map.mpr ⟨z, hz, ?_⟩, rfl⟩
  rw [← e1]
theorem arc_pos (ok : NetOk N) (h : OwOk N Lw) (hp : ∀ p t, tG kvs p = some t → 0 ≤ t) {u : Int × Int} {a : (Int × Int) × Int} (ha : a ∈ arcL kvs Lw u) : 1 ≤ a.2 := by
  obtain ⟨q, hq, e⟩ := List.mem_filterMap.mp ha
  obtain ⟨t, ht, e⟩ := Option.map_eq_some_iff.mp e
  obtain ⟨z, hz, rfl⟩ := List.mem_map.mp hq
  have h1 := (h.in_ ok (List.mem_filter.mp hz).1).2.2
  have h2 := hp _ _ ht
  cases e
  show 1 ≤ t + z.2
  omega
theorem arc_len (ok : NetOk N) (h : OwOk N Lw) (u : Int × Int) : (arcL kvs Lw u).length ≤ N.n.toNat := Nat.le_trans (List.length_filterMap_le _ _) (h.row ok u.2)
theorem tG_pos {L M : List I3} (tg : TrnG kvs L) (pM : M.Perm L) (h : firstI (badV kvs) M = none) (p : I3) (t : Int) (ht : tG kvs p = some t) : 0 ≤ t := by
  unfold tG at ht
  cases e : valV kvs (K3 p) with
  | none =>
    rw [e] at ht
    cases ht
    exact Int.le_refl _
  | some v =>
    rw [e] at ht
    have hm : p ∈ L := by
      have : (valV kvs (K3 p)).isSome = true := by rw [e]; rfl
      have := valV_isSome.mp this
      rw [tg.keys] at this
      obtain ⟨q, hq, eq⟩ := List.mem_map.mp this
      rw [← K3_inj eq]
      exact hq
    obtain ⟨o, ho⟩ := tg.has hm
    have hb := firstI_none.mp h p (pM.mem_iff.mpr hm)
    rw [badV_of ho] at hb
    rw [e] at ho
    cases ho
    cases o with
    | none => cases ht
    | some x =>
      cases ht
      have hb : (!(decide (0 ≤ t) && decide (t ≤ 1000000))) = false := hb
      simp at hb
      exact hb.1
end
theorem wS_le9 {ν : Type} [DecidableEq ν] {A : ν → List (ν × Int)} {F : List ν} {m : Nat} (h : ∀ u, (A u).length ≤ m) : ∀ U : List ν, wS A F U ≤ U.length * (m + 1)
  | [] => Nat.zero_le _
  | u :: U => by
    have ih := wS_le9 h (F := F) U
    have := h u
    show (if u ∈ F then 0 else (A u).length + 1) + wS A F U ≤ (U.length + 1) * (m + 1)
    rw [Nat.add_mul, Nat.one_mul]
    split <;> omega
/-! comprehensions over a list, told step by step -/
section
variable {K : PySem.W.Frag} {σ : L2.St} {H : Hp} {tl te tk tv : TE} {tt : TT} {j : Nat} {a : Addr} {vs : List V} {Q : VK}
theorem lc_nm (hl : Vl tl σ H (.ref a)) (hs : SqL K H a vs) (I : Addr → Nat → Hp → Prop) (h0 : ∀ D, H D = none → I D 0 (upd H D (.lst []))) (hI : ∀ D i H', I D i H' → SqL K H' a vs)
    (step : ∀ D i x H', H D = none → vs[i]? = some x → I D i H' → tt ((σ.set j none).set j (some x)) H' fun c H2 => if c = true then te ((σ.set j none).set j (some x)) H2 fun z H3 => ∃ xs, H3 D = some (.lst xs) ∧ xs.length < sizeLine ∧ I D (i + 1) (upd H3 D (.lst (xs ++ [z]))) else I D (i + 1) H2)
    (done : ∀ D H', H D = none → I D vs.length H' → Q (.ref D) H') : tLc (iList K tl) (gName j) tt te [j] σ H Q :=
  hl _ ⟨a, rfl, ⟨_, hs⟩, fun D nD => lc_list (K := K) (a := a) (xs := vs) (I D) (h0 D nD) (fun i H' _ hP => hI D i H' hP) (fun i x H2 hi hP => ⟨by
    show ((σ.set j none).set j (some x)).set j none = σ.set j none
    rw [List.set_set, List.set_set], step D i x H2 nD hi hP⟩) (fun H2 hP => done D H2 nD hP)⟩
theorem dcT_nm (hl : Vl tl σ H (.ref a)) (hs : SqL K H a vs) (I : Addr → Nat → Hp → Prop) (h0 : ∀ D, H D = none → I D 0 (upd H D (.dT []))) (hI : ∀ D i H', I D i H' → SqL K H' a vs)
    (step : ∀ D i x H', H D = none → vs[i]? = some x → I D i H' → tt ((σ.set j none).set j (some x)) H' fun c H3 => if c = true then tk ((σ.set j none).set j (some x)) H3 fun y H4 => tv ((σ.set j none).set j (some x)) H4 fun z H5 => ∃ kvs k b, y = .ref b ∧ H5 b = some (.tup (k.map kV)) ∧ H5 D = some (.dT kvs) ∧ kvs.length < sizeLine ∧ I D (i + 1) (upd H5 D (.dT (putK kvs k z))) else I D (i + 1) H3)
    (done : ∀ D H', H D = none → I D vs.length H' → Q (.ref D) H') : tDcT (iList K tl) (gName j) tt tk tv [j] σ H Q := by
  refine hl _ ⟨a, rfl, ⟨vs, hs⟩, fun D nD => ⟨fun i m H2 => m + i = vs.length ∧ I D i H2, ⟨vs.length, rfl, h0 D nD⟩, fun i m H2 hW => ?_⟩⟩
  obtain ⟨em, hP⟩ := hW
  by_cases hi : i < vs.length
  · have hg : vs[i]? = some (vs[i]'hi) := List.getElem?_eq_getElem hi
    generalize vs[i]'hi = x at hg
    refine .inr ⟨⟨_, _, hI D i H2 hP, hg⟩, fun H2 => I D (i + 1) H2, fun H' h => ⟨m - 1, by omega, by omega, h⟩, fun x' H' hy => ?_⟩
    obtain ⟨rfl, hy⟩ := hy
    have hy := hy _ (hI D i _ hP)
    cases hg.symm.trans hy
    refine ⟨?_, step D i x _ nD hg hP⟩
    show ((σ.set j none).set j (some x)).set j none = σ.set j none
    rw [List.set_set, List.set_set]
  · refine .inl ⟨⟨_, hI D i H2 hP, by omega⟩, done D H2 nD ?_⟩
    have : i = vs.length := by omega
    rw [← this]
    exact hP
end
abbrev sAnsTurns : Stmt := topS 22
theorem scAnsTurns : FnScope ["net", "turns", "start", "goal", "nodes", "arcs", "prices", "found", "certificate", "ends", "total", "_", "path", "node"] ["net", "turns", "start", "goal"] (defScope sAnsTurns) := ⟨rfl, rfl, rfl, by decide +kernel, rfl, by decide +kernel, by decide +kernel⟩
/-! ### answers with turns -/
def certK (Lw : List ((Int × Int) × Int)) (C : Int × Int → Option Int) : List (List L2.Key × V) := Lw.map fun z => (K2 z.1, oV (C z.1))
/-- what answer_with_turns tells, all of it new -/
def AtT (H H' : Hp) (T : Addr) (Lw : List ((Int × Int) × Int)) (tot : Option Int) (run : Option (List Int)) (C : Int × Int → Option Int) : Prop :=
  ∃ rv dC, H' T = some (.tup [oV tot, rv, .ref dC]) ∧ ((run = none ∧ rv = .non) ∨ ∃ q r, run = some r ∧ rv = .ref q ∧ H q = none ∧ H' q = some (.lst (r.map V.int))) ∧ H dC = none ∧ H' dC = some (.dT (certK Lw C))
def spAnsT (K : PySem.W.Frag) (CP CT CB : Addr) : Sp := fun vs H Q E => ∃ (v : V) (N : Net) (td : Addr) (kvs : List (List L2.Key × V)) (L M : List I3) (s g : Int), vs = [v, .ref td, .int s, .int g] ∧ Dp K H v (netD N) ∧ NetOk N ∧ H td = some (.dT kvs) ∧ TrnG kvs L ∧ L.length ≤ 1000 ∧ M.Perm L ∧ M.Pairwise Lx3 ∧
  (¬ (0 ≤ s ∧ s < N.n) → RaiseTo E H CP s) ∧ (0 ≤ s ∧ s < N.n → ¬ (0 ≤ g ∧ g < N.n) → RaiseTo E H CP g) ∧ (0 ≤ s ∧ s < N.n → 0 ≤ g ∧ g < N.n →
  (∀ i : Nat, firstI (badK N.ls) M = some i → RaiseTo E H CT i) ∧ (firstI (badK N.ls) M = none → ∀ i : Nat, firstI (badV kvs) M = some i → RaiseTo E H CB i) ∧
  (firstI (badK N.ls) M = none → firstI (badV kvs) M = none → ∀ H' T Lw tot run C, Same H H' → OwOk N Lw → Lw.length ≤ 5000 → AtT H H' T Lw tot run C → AnsT kvs Lw s g tot run C → Q (.ref T) H'))
theorem paired_snoc {α β : Type} {R : α → β → Prop} {xs : List α} {ys : List β} {x : α} {y : β} (h : Paired R xs ys) (k : R x y) : Paired R (xs ++ [x]) (ys ++ [y]) := by
  induction h with
  | nil => exact .cons k .nil
  | cons h _ ih => exact .cons h ih
theorem paired_get {α β : Type} {R : α → β → Prop} {xs : List α} {ys : List β} (h : Paired R xs ys) {i : Nat} {y : β} (hi : ys[i]? = some y) : ∃ x, xs[i]? = some x ∧ R x y := by
  induction h generalizing i with
  | nil => cases hi
  | cons h _ ih =>
    cases i with
    | zero =>
      cases hi
      exact ⟨_, rfl, h⟩
    | succ i => exact ih hi
theorem q_asgG {σ : L2.St} {H : Hp} {te : TE} {g : TG} {D : Ends} {tw : TS} (h : te σ H fun v H' => g v σ H' fun σ' H'' => tw D σ' H'') : tSeq (tAsg te g) tw D σ H := h
theorem tc_call {σ : L2.St} {H : Hp} {Q : VK} {E : XK} {sp : Sp} {tr : TA} {vs : List V} (h : Va tr σ H vs) (hs : sp vs H Q E) : tCall sp [] E tr σ H Q := h _ (by
  show sp (vs ++ []) H Q E
  rw [List.append_nil]
  exact hs)
theorem vl_dInT {σ : L2.St} {H : Hp} {td ty : TE} {o b : Addr} {p : Int × Int} {kvs : List (List L2.Key × V)} (hk : Vl ty σ H (.ref b)) (ho : Vl td σ H (.ref o)) (hb : H b = some (.tup [.int p.1, .int p.2])) (hd : H o = some (.dT kvs)) : Vl (tDIn ty td) σ H (.bl (valV kvs (K2 p)).isSome) := fun Q q => hk _ (ho _ ⟨o, _, rfl, DGet.t (k := K2 p) hd hb, q⟩)
theorem valV_owK {N : Net} {Lw : List ((Int × Int) × Int)} (ow : OwOk N Lw) {z : (Int × Int) × Int} (hz : z ∈ Lw) : valV (owK Lw) (K2 z.1) = some (.int z.2) := by
  have e : (Lw.find? fun y => decide (y.1 = z.1)) = some z := by
    cases h : Lw.find? fun y => decide (y.1 = z.1) with
    | none => exact absurd rfl (of_decide_eq_false (Bool.eq_false_iff.mpr (List.find?_eq_none.mp h z hz)))
    | some y =>
      have hy := List.mem_of_find?_eq_some h
      have e1 : y.1 = z.1 := of_decide_eq_true (List.find?_some (p := fun y : (Int × Int) × Int => decide (y.1 = z.1)) h)
      obtain ⟨⟨a, b⟩, p⟩ := y
      obtain ⟨⟨c, d⟩, q⟩ := z
      cases e1
      have h1 := (ow.mem a b p).mp hy
      have h2 := (ow.mem a b q).mp hz
      rw [h1] at h2
      cases h2
      rfl
  unfold valV owK
  rw [List.find?_map]
  have : ((fun kv : List L2.Key × V => decide (kv.1 = K2 z.1)) ∘ fun z : (Int × Int) × Int => (K2 z.1, V.int z.2)) = fun y => decide (y.1 = z.1) := by
    funext y
    show decide (K2 y.1 = K2 z.1) = _
    rw [Bool.eq_iff_iff, decide_eq_true_eq, decide_eq_true_eq]
    exact ⟨K2_inj, fun h => by rw [h]⟩
  rw [this, e]
  rfl
theorem srcT_snoc {Lw : List ((Int × Int) × Int)} {s : Int} {i : Nat} {z : (Int × Int) × Int} (h : Lw[i]? = some z) : srcT (Lw.take (i + 1)) s = srcT (Lw.take i) s ++ (if z.1.1 = s then [z] else []) := by
  unfold srcT
  rw [take_snoc h, List.filter_append]
  congr 1
  by_cases c : z.1.1 = s
  · rw [if_pos c, List.filter_cons, decide_eq_true c]
    rfl
  · rw [if_neg c, List.filter_cons, decide_eq_false c]
    rfl
theorem find_iff9 {ν : Type} [DecidableEq ν] {F : List (ν × Pth ν)} {z : ν} {f : ν × Pth ν} (h : F.find? (fun f => decide (f.1 = z)) = some f) : f ∈ F ∧ f.1 = z := ⟨List.mem_of_find?_eq_some h, by
  have := List.find?_some h
  exact of_decide_eq_true this⟩
theorem fdAt_val9 {K : PySem.W.Frag} {ν κ : Type} [DecidableEq ν] [DecidableEq κ] {M : NodeM K ν κ} {H : Hp} {F : List (ν × Pth ν)} {kvf : List (κ × V)} (h : M.FdAt H F kvf) (n : ν) : (F.find? (fun f => decide (f.1 = n)) = none ∧ valV kvf (M.key n) = none) ∨ ∃ f v, F.find? (fun f => decide (f.1 = n)) = some f ∧ valV kvf (M.key n) = some v ∧ M.PV H v f.2 := by
  unfold NodeM.FdAt at h
  induction h with
  | nil => exact .inl ⟨rfl, rfl⟩
  | @cons f kv F kvf h t ih =>
    obtain ⟨h1, h2⟩ := h
    by_cases c : f.1 = n
    · refine .inr ⟨f, kv.2, ?_, ?_, h2⟩
      · rw [List.find?_cons, decide_eq_true c]
      · unfold valV
        rw [List.find?_cons, decide_eq_true (show kv.1 = M.key n by rw [h1, c])]
        rfl
    · have e1 : (f :: F).find? (fun f => decide (f.1 = n)) = F.find? (fun f => decide (f.1 = n)) := by rw [List.find?_cons, decide_eq_false c]
      have e2 : valV (kv :: kvf) (M.key n) = valV kvf (M.key n) := by
        unfold valV
        rw [List.find?_cons, decide_eq_false (fun z => c (M.inj _ _ (h1.symm.trans z)))]
      rw [e1, e2]
      exact ih
theorem arcAt_ar {K : PySem.W.Frag} {H : Hp} : ∀ {zs : List V} {A : List ((Int × Int) × Int)}, ArcAt H zs A → (nodeT K).AR H zs A := fun {zs A} h => by
  obtain ⟨hl, ha⟩ := h
  induction A generalizing zs with
  | nil =>
    rw [List.length_eq_zero_iff.mp hl]
    exact .nil
  | cons z A ih =>
    cases zs with
    | nil => cases hl
    | cons t zs =>
      obtain ⟨T, t1, h1, h2, h3⟩ := ha 0 z rfl
      cases h1
      exact .cons ⟨T, .ref t1, rfl, h2, t1, rfl, h3⟩ (ih (Nat.succ.inj hl) fun i u e => ha (i + 1) u e)
theorem certK_snoc {Lw : List ((Int × Int) × Int)} {C : Int × Int → Option Int} {i : Nat} {z : (Int × Int) × Int} (hn : (Lw.map (·.1)).Nodup) (h : Lw[i]? = some z) : putK (certK (Lw.take i) C) (K2 z.1) (oV (C z.1)) = certK (Lw.take (i + 1)) C := by
  have hno : K2 z.1 ∉ (certK (Lw.take i) C).map (·.1) := by
    unfold certK
    rw [List.map_map]
    intro hm
    obtain ⟨y, hy, e⟩ := List.mem_map.mp hm
    have e : y.1 = z.1 := K2_inj e
    obtain ⟨j, hj, ej⟩ := List.getElem_of_mem hy
    rw [List.length_take] at hj
    rw [List.getElem_take] at ej
    obtain ⟨hi, ei⟩ := List.getElem?_eq_some_iff.mp h
    have := (List.getElem_inj (xs := Lw.map (·.1)) (i := j) (j := i) (h₀ := by rw [List.length_map]; omega) (h₁ := by rw [List.length_map]; exact hi) hn).mp (by
      rw [List.getElem_map, List.getElem_map, ej, ei, e])
    omega
  rw [putK_newG hno]
  unfold certK
  rw [take_snoc h, List.map_append]
  rfl
section
variable {P : Program} {w : World} {K : PySem.W.Frag} {mg : Str → Option Value} {base : Heap} {CP CT CB : Addr}
theorem ok_ansT {f : Addr} {fd : FuncData} {k k1 k2 k3 k4 : Nat} (l1 : k1 ≤ k) (l2 : k2 ≤ k) (l3 : k3 ≤ k) (l4 : k4 ≤ k) (F : Fun K "answer_with_turns" "answer_with_turns" sAnsTurns f fd) (c_check_places : KalX P w K mg base k1 "check_places" ["n", "places"] (spChkPl K CP)) (c_turn_net : KalX P w K mg base k2 "turn_net" ["net", "turns"] (spTurnNet K CT CB)) (c_open_ways : Kal P w K mg base k3 "open_ways" ["net"] (spOpenWays K)) (c_least_paths : Kal P w K mg base k4 "least_paths" ["arcs", "starts"] (spLeast (nodeT K))) (mm : mg "min" = none) : FnOk P w K mg base (L2.CX P w) (k + 1) f fd ["net", "turns", "start", "goal"] (spAnsT K CP CT CB) := by
  refine F.okX scAnsTurns (fun vs H Q E h => ?_) (fun cdv A outer s H vs Q E hr h => ?_)
  · obtain ⟨v, N, td, kvs, L, M, s, g, rfl, _⟩ := h
    rfl
  · obtain ⟨v, N, td, kvs, L, M, st, g, rfl, hN, ok, htd, tg, lL, pM, sM, q1, q2, q3⟩ := h
    have hu := hu_of hr
    refine ⟨_, pss_cons (ps_expr (pe_kx (E := E) c_check_places hr (by first | decide | omega) (by rfl) (takes_of rfl rfl rfl rfl) (pa_cons (pe_ix ix_tup (pv 0) pe_int (fun _ _ => rfl)) (pa_cons (pe_lst (pa_cons (pv 2) (pa_cons (pv 3) pa_nil))) pa_nil))))
      (pss_cons (ps_asg (pe_kx (E := E) c_turn_net hr (by first | decide | omega) (by rfl) (takes_of rfl rfl rfl rfl) (pa_cons (pv 0) (pa_cons (pv 1) pa_nil))) (pg_tup rfl (pgs_cons (pg_name (i := 4) scAnsTurns.nd rfl (.inl rfl)) (pgs_cons (pg_name (i := 5) scAnsTurns.nd rfl (.inl rfl)) pgs_nil))))
      (pss_cons (ps_set (i := 6) scAnsTurns.nd rfl (.inr rfl) (pe_k c_open_ways hr (by first | decide | omega) (by rfl) (pa_cons (pv 0) pa_nil)))
      (pss_cons (ps_set (i := 7) scAnsTurns.nd rfl (.inr rfl) (pe_k c_least_paths hr (by first | decide | omega) (by rfl) (pa_cons (pv 5) (pa_cons (pe_lc (own := [("node", 13)]) (g := gName 13) (tt := (tTest (tOp rEq (tOp (rIxT K) (tVar 13) (tC (.int 0))) (tVar 2)))) (te := (tTup (tCons (tVar 13) (tCons (tDGet (tVar 6) (tVar 13)) tNil)))) (by rfl) scAnsTurns.nd (pi_list (pv 4)) (blkOk_by (own := [("node", 13)]) (N := ["net", "turns", "start", "goal", "nodes", "arcs", "prices", "found", "certificate", "ends", "total", "_", "path", "node"]) (sc := defScope sAnsTurns) (by decide +kernel)) (fun _ _ _ _ _ => pg_name (i := 13) scAnsTurns.nd rfl (Or.inl rfl)) (fun _ _ _ _ _ => by exact (pts_one (pt_cmpR op_eq (pe_ix ix_tup (pv 13) pe_int (fun _ _ => rfl)) (pv 2) (nomark _)))) (fun _ _ _ _ _ => by exact (pe_tup (pa_cons (pv 13) (pa_cons (pe_dget hu (pv 6) (pv 13) (fun _ _ => rfl)) pa_nil))))) pa_nil))))
      (pss_cons (ps_setDcT (i := 8) (own := [("node", 13)]) (g := gName 13) (tt := tYes) (tk := (tVar 13)) (tv := (tIf (tB (tDIn (tVar 13) (tVar 7))) (tOp (rIxT K) (tDGet (tVar 7) (tVar 13)) (tC (.int 0))) (tC .non))) hu rfl scAnsTurns.nd rfl rfl (swapsD rfl rfl rfl (by decide +kernel)) (pi_list (pv 4)) (blkOk_by (own := [("node", 13)]) (N := ["net", "turns", "start", "goal", "nodes", "arcs", "prices", "found", "certificate", "ends", "total", "_", "path", "node"]) (sc := defScope sAnsTurns) (by decide +kernel)) (fun _ _ _ _ _ => pg_name (i := 13) scAnsTurns.nd rfl (Or.inl rfl)) (fun _ _ _ _ _ => by exact pts_nil) (fun _ _ _ _ _ => by exact (pv 13)) (fun _ _ _ _ _ => by exact (pe_ifExp (pt_cmp (pc_din hu (pv 13) (pv 7))) (pe_ix ix_tup (pe_dget hu (pv 7) (pv 13) (fun _ _ => rfl)) pe_int (fun _ _ => rfl)) pe_non)))
      (pss_cons (ps_if (pt_cmpR op_eq (pv 2) (pv 3) (nomark _))
      (pss_one (ps_ret (pe_tup (pa_cons pe_int (pa_cons (pe_lst (pa_cons (pv 2) pa_nil)) (pa_cons (pv 8) pa_nil))))))
      pss_nil)
      (pss_cons (ps_setLc (i := 9) (own := [("node", 13)]) (g := gName 13) (tt := (tAnd (tTest (tOp rEq (tOp (rIxT K) (tVar 13) (tC (.int 1))) (tVar 3))) (tB (tDIn (tVar 13) (tVar 7))))) (te := (tDGet (tVar 7) (tVar 13))) (by rfl) scAnsTurns.nd rfl rfl (sw_true rfl rfl rfl (by decide +kernel)) (pi_list (pv 4)) (blkOk_by (own := [("node", 13)]) (N := ["net", "turns", "start", "goal", "nodes", "arcs", "prices", "found", "certificate", "ends", "total", "_", "path", "node"]) (sc := defScope sAnsTurns) (by decide +kernel)) (fun _ _ _ _ _ => pg_name (i := 13) scAnsTurns.nd rfl (Or.inl rfl)) (fun _ _ _ _ _ => by exact (pts_one (PW.pt (pw_and (pt_cmpR op_eq (pe_ix ix_tup (pv 13) pe_int (fun _ _ => rfl)) (pv 3) (nomark _)) (pw_and1 (pt_cmp (pc_din hu (pv 13) (pv 7)))))))) (fun _ _ _ _ _ => by exact (pe_dget hu (pv 7) (pv 13) (fun _ _ => rfl))))
      (pss_cons (ps_if (pt_not (pt_truth (pv 9) (by intro _; rfl)))
      (pss_one (ps_ret (pe_tup (pa_cons pe_non (pa_cons pe_non (pa_cons (pv 8) pa_nil))))))
      pss_nil)
      (pss_cons (ps_asg (pe_callB (call_minD rfl hr.units) (by rfl) mm (by decide +kernel) (pa_cons (pv 9) pa_nil)) (pg_tup rfl (pgs_cons (pg_name (i := 10) scAnsTurns.nd rfl (.inl rfl)) (pgs_cons (pg_name (i := 11) scAnsTurns.nd rfl (.inl rfl)) (pgs_cons (pg_name (i := 12) scAnsTurns.nd rfl (.inl rfl)) pgs_nil)))))
      (pss_one (ps_ret (pe_tup (pa_cons (pv 10) (pa_cons (pe_op op_cat (pe_lst (pa_cons (pv 2) pa_nil)) (pe_lc (own := [("node", 13)]) (g := gName 13) (tt := tYes) (te := (tOp (rIxT K) (tVar 13) (tC (.int 1)))) (by rfl) scAnsTurns.nd (pi_list (pv 12)) (blkOk_by (own := [("node", 13)]) (N := ["net", "turns", "start", "goal", "nodes", "arcs", "prices", "found", "certificate", "ends", "total", "_", "path", "node"]) (sc := defScope sAnsTurns) (by decide +kernel)) (fun _ _ _ _ _ => pg_name (i := 13) scAnsTurns.nd rfl (Or.inl rfl)) (fun _ _ _ _ _ => by exact pts_nil) (fun _ _ _ _ _ => by exact (pe_ix ix_tup (pv 13) pe_int (fun _ _ => rfl))))) (pa_cons (pv 8) pa_nil)))))))))))))), ?_⟩
    have rz : ∀ {C : Addr} {z : Int} {H' : Hp}, Same H H' → RaiseTo E H C z → RaiseTo E H' C z := fun s' r H'' d s'' hd => r H'' d (s'.trans s'') hd
    obtain ⟨p0, c0, xs0, rfl, hp0, hc0, hx0⟩ := Dp.net_inv hN
    have n1 := ok.n1
    have n40 := ok.n40
    refine q_chk2 (n := N.n) (a := st) (b := g) (vl_ixT (K := K) (vl_var rfl) vl_c hp0 (atI_nat (j := 0) rfl)) (vl_var rfl) (vl_var rfl) q1 q2 (fun hs hg H0 s0 => ?_)
    obtain ⟨qT, qB, q⟩ := q3 hs hg
    refine q_asgG (tc_call (vs := [.ref p0, .ref td]) (va_cons (vl_var rfl) (va_cons (vl_var rfl) va_nil)) ⟨.ref p0, N, td, kvs, L, M, rfl, Dp.to hN s0, ok, s0 _ _ htd, tg, lL, pM, sM, fun i e => rz s0 (qT i e), fun b1 i e => rz s0 (qB b1 i e), fun b1 b2 H1 T Lw s1 hT => ?_⟩)
    have q := q b1 b2
    have ow := hT.ok
    obtain ⟨nd, ad, bs, rw_, eT, nnd, _, ebs, hP, ead, lrw, _, _, _, harc⟩ := hT.ex
    refine ⟨T, _, rfl, .of eT, rfl, _, _, rfl, _, _, rfl, rfl, ?_⟩
    have lb : bs.length = Lw.length := by rw [← hP.len, List.length_map]
    refine q_asgE (tc_call (vs := [.ref p0]) (va_cons (vl_var rfl) va_nil) ⟨.ref p0, N, rfl, Dp.to hN (s0.trans s1), ok, fun H2 pd Lx s2 npd epd ow2 _ => ?_⟩)
    obtain rfl : Lx = Lw := ow2.uniq ow
    have s02 := s0.trans (s1.trans s2)
    have ebs2 := s2 _ _ ebs
    have hP2 := hP.to s2
    -- one node
    have node : ∀ {i : Nat} {x : V}, (bs.map V.ref)[i]? = some x → ∃ b z, x = .ref b ∧ Lx[i]? = some z ∧ H2 b = some (.tup [.int z.1.1, .int z.1.2]) := fun {i x} hx => by
      rw [List.getElem?_map] at hx
      obtain ⟨b, hb, rfl⟩ := Option.map_eq_some_iff.mp hx
      obtain ⟨m, hm, eb⟩ := hP2.get hb
      rw [List.getElem?_map] at hm
      obtain ⟨z, hz, rfl⟩ := Option.map_eq_some_iff.mp hm
      exact ⟨b, z, rfl, hz, eb⟩
    have szn : Lx.length ≤ 1600 := Nat.le_trans (ow.size ok) (Nat.le_trans (Nat.mul_le_mul (m₁ := N.n.toNat) (m₂ := 40) (n₁ := N.n.toNat) (n₂ := 40) (by omega) (by omega)) (by decide))
    have szs : (srcT Lx st).length ≤ 1600 := Nat.le_trans (List.length_filter_le _ _) szn
    refine q_asgE ⟨.ref ad, rfl, ?_⟩
    refine lc_nm (K := K) (vs := bs.map V.ref) (vl_var rfl) (.of ebs2) (fun D i H' => ∃ ts, H' D = some (.lst ts) ∧ Same H2 (but H' D) ∧ (nodeT K).AR (but H' D) ts (srcT (Lx.take i) st)) (fun D nD => ⟨[], upd_same, same_but (same_upd nD) nD, .nil⟩) (fun D i H' hI => .of (but_same _ _ (hI.choose_spec.2.1 _ _ ebs2))) (fun D i x H' nD hx hI => ?_) (fun D H3 nD hI => ?_)
    · obtain ⟨ts, hD, sD, hA⟩ := hI
      obtain ⟨b, z, rfl, hz, eb⟩ := node hx
      have eb' := but_same _ _ (sD _ _ eb)
      have lts : ts.length ≤ 1600 := by
        rw [hA.len]
        exact Nat.le_trans (List.length_filter_le _ _) (Nat.le_trans (by rw [List.length_take]; exact Nat.min_le_right _ _) szn)
      refine (an_test ((vl_eq (vl_ixT (K := K) (vl_var rfl) vl_c (.of eb') (atI_nat (j := 0) rfl)) (vl_var rfl) rfl).is (by rw [dI]))) _ ?_
      by_cases c : z.1.1 = st
      · rw [decide_eq_true c, if_pos rfl]
        refine ⟨.ref b, rfl, (vl_dgetT (p := z.1) (vl_var rfl) (vl_var rfl) eb' (but_same _ _ (sD _ _ epd)) (valV_owK ow (List.mem_of_getElem? hz))) _ ⟨by show 2 ≤ sizeLine; decide, fun T2 nT2 => ?_⟩⟩
        have sT := same_upd (o := .tup [.ref b, .int z.2]) nT2
        have eT2 := upd_same (H := H') (a := T2) (o := .tup [.ref b, .int z.2])
        have DT : T2 ≠ D := fun z => ne_ofN hD nT2 z.symm
        generalize upd H' T2 (.tup [.ref b, .int z.2]) = H4 at sT eT2
        refine ⟨ts, sT _ _ hD, Nat.lt_of_le_of_lt lts (by decide), ts ++ [.ref T2], upd_same, ?_, ?_⟩
        · rw [but_upd]
          exact sD.trans (but_mono sT)
        · rw [but_upd, srcT_snoc hz, if_pos c]
          refine paired_snoc (hA.to (but_mono sT)) ⟨T2, .ref b, rfl, by rw [but_ne DT]; exact eT2, b, rfl, ?_⟩
          exact but_mono sT _ _ (sD _ _ eb)
      · rw [decide_eq_false c, if_neg Bool.false_ne_true]
        exact ⟨ts, hD, sD, by rw [srcT_snoc hz, if_neg c, List.append_nil]; exact hA⟩
    obtain ⟨ts, hD, sD, hA⟩ := hI
    rw [List.length_map, lb, List.take_length] at hA
    have s23 : Same H2 H3 := sD.trans but_same
    have keysN : (Lx.map fun z => K2 z.1).Nodup := List.pairwise_map.mpr ((List.pairwise_map.mp ow.keys).imp fun h e => h (K2_inj e))
    refine ⟨ad, D, _, ts, srcT Lx st, arcL kvs Lx, Lx.map (·.1), rfl, (s2.trans s23) _ _ ead, fun u hu => ?_, hD, hA.to but_same, fun z hz => ?_, fun u _ a ha => (arc_in ha).1, fun u a ha => arc_pos ok ow (fun p t => tG_pos tg pM b2 p t) ha, Nat.le_trans szs (by decide), ?_, fun H4 fd kvf F s4 nfd efd hF fok => ?_⟩
    · obtain ⟨z, hz, rfl⟩ := List.mem_map.mp hu
      obtain ⟨i, hi, ei⟩ := List.getElem_of_mem hz
      have hz' : Lx[i]? = some z := List.getElem?_eq_some_iff.mpr ⟨hi, ei⟩
      have ha : rw_[i]? = some (rw_[i]'(by omega)) := List.getElem?_eq_getElem _
      generalize rw_[i]'(by omega) = a at ha
      obtain ⟨zs, e1, e2⟩ := harc i z a hz' ha
      exact ⟨a, zs, kz_val keysN (by rw [List.getElem?_map, hz']; rfl) ha, (s2.trans s23) _ _ e1, arcAt_ar (e2.to (s2.trans s23))⟩
    · exact List.mem_map.mpr ⟨z, (List.mem_filter.mp hz).1, rfl⟩
    · have h1 := wS_le9 (A := arcL kvs Lx) (F := []) (m := 40) (fun u => Nat.le_trans (arc_len ok ow u) (by omega)) (Lx.map (·.1))
      rw [List.length_map] at h1
      have h2 : Lx.length * (40 + 1) ≤ 1600 * 41 := Nat.mul_le_mul_right _ szn
      omega
    have s24 := s23.trans s4
    -- the certificate
    let C : Int × Int → Option Int := fun v => (F.find? fun f => decide (f.1 = v)).map (·.2.1)
    have lenF : F.length ≤ Lx.length := by
      have h1 := sub_lenG fok.nd (ys := Lx.map (·.1)) fun v hv => by
        obtain ⟨f, hf, rfl⟩ := List.mem_map.mp hv
        obtain ⟨p, hp⟩ := isP_in (fok.fl f hf).1
        exact List.mem_map.mpr ⟨_, hp, rfl⟩
      rw [List.length_map, List.length_map] at h1
      exact h1
    have hC : ∀ v, (C v = none ∧ ∀ y, ¬ IsP (srcT Lx st) (arcL kvs Lx) v y) ∨ ∃ x, C v = some x.1 ∧ Lst ltP (srcT Lx st) (arcL kvs Lx) v x ∧ x.2.length ≤ Lx.length := fun v => by
      show ((F.find? fun f => decide (f.1 = v)).map (·.2.1) = none ∧ _) ∨ ∃ x : Pth (Int × Int), (F.find? fun f => decide (f.1 = v)).map (·.2.1) = some x.1 ∧ _
      cases e : F.find? fun f => decide (f.1 = v) with
      | none =>
        refine .inl ⟨rfl, fun y hy => ?_⟩
        obtain ⟨f, hf, ef⟩ := fok.all v y hy
        exact absurd ef (of_decide_eq_false (Bool.eq_false_iff.mpr (List.find?_eq_none.mp e f hf)))
      | some f =>
        obtain ⟨h1, h2⟩ := find_iff9 e
        refine .inr ⟨f.2, rfl, ?_, Nat.le_trans (fok.pl f h1) lenF⟩
        rw [← h2]
        exact fok.fl f h1
    have ebs4 := s24 _ _ ebs2
    refine q_asgE (dcT_nm (K := K) (vs := bs.map V.ref) (vl_var rfl) (.of ebs4) (fun D i H' => H' D = some (.dT (certK (Lx.take i) C)) ∧ Same H4 (but H' D)) (fun D nD => ⟨upd_same, same_but (same_upd nD) nD⟩) (fun D i H' hI => .of (but_same _ _ (hI.2 _ _ ebs4))) (fun D i x H' nD hx hI => ?_) (fun dC H5 nC hI => ?_))
    · obtain ⟨hD, sD⟩ := hI
      obtain ⟨b, z, rfl, hz, eb⟩ := node hx
      have eb' := but_same _ _ (sD _ _ (s24 _ _ eb))
      have efd' := but_same _ _ (sD _ _ efd)
      refine yes_now ?_
      rw [if_pos rfl]
      refine ⟨.ref b, rfl, ?_⟩
      have hv : Vl (tIf (tB (tDIn (tVar 13) (tVar 7))) (tOp (rIxT K) (tDGet (tVar 7) (tVar 13)) (tC (.int 0))) (tC .non)) [some (.ref p0), some (.ref td), some (.int st), some (.int g), some (.ref nd), some (.ref ad), some (.ref pd), some (.ref fd), none, none, none, none, none, some (.ref b)] H' (oV (C z.1)) := by
        rcases fdAt_val9 (M := nodeT K) hF z.1 with ⟨e1, e2⟩ | ⟨f, u, e1, e2, T2, P2, us, rfl, e3, e4, e5⟩
        · have e2 : valV kvf (K2 z.1) = none := e2
          have hc : C z.1 = none := by
            show (F.find? fun f => decide (f.1 = z.1)).map (·.2.1) = none
            rw [e1]
            rfl
          rw [hc]
          exact vl_if (an_B (vl_dInT (p := z.1) (vl_var rfl) (vl_var rfl) eb' efd')) (fun h => by rw [e2] at h; cases h) (fun _ => vl_c)
        · have e2 : valV kvf (K2 z.1) = some (.ref T2) := e2
          have hc : C z.1 = some f.2.1 := by
            show (F.find? fun f => decide (f.1 = z.1)).map (·.2.1) = some f.2.1
            rw [e1]
            rfl
          rw [hc]
          exact vl_if (an_B (vl_dInT (p := z.1) (vl_var rfl) (vl_var rfl) eb' efd')) (fun _ => vl_ixT (K := K) (vl_dgetT (p := z.1) (vl_var rfl) (vl_var rfl) eb' efd' e2) vl_c (.of (but_same _ _ (sD _ _ e3))) (atI_nat (j := 0) rfl)) (fun h => by rw [e2] at h; cases h)
      refine hv _ ⟨_, K2 z.1, b, rfl, eb', hD, ?_, ?_, ?_⟩
      · unfold certK
        rw [List.length_map, List.length_take]
        exact Nat.lt_of_le_of_lt (m := 1600) (by omega) (by decide)
      · rw [upd_same, certK_snoc ow.keys hz]
      · rw [but_upd]
        exact sD
    obtain ⟨eC, sC⟩ := hI
    rw [List.length_map, lb, List.take_length] at eC
    have s45 : Same H4 H5 := sC.trans but_same
    have s05 := s02.trans (s24.trans s45)
    have nC0 : H dC = none := Same.free (s02.trans s24) nC
    have done : ∀ {H' : Hp} {T : Addr} {tot : Option Int} {run : Option (List Int)} {rv : V}, Same H5 H' → H' T = some (.tup [oV tot, rv, .ref dC]) → ((run = none ∧ rv = .non) ∨ ∃ r l, run = some l ∧ rv = .ref r ∧ H5 r = none ∧ H' r = some (.lst (l.map V.int))) → AnsT kvs Lx st g tot run C → Q (.ref T) H' := fun {H' T tot run rv} s' e1 e2 hA => by
      refine q H' T Lx tot run C (s05.trans s') ow (Nat.le_trans szn (by decide)) ⟨rv, dC, e1, ?_, nC0, s' _ _ eC⟩ hA
      rcases e2 with h | ⟨r, l, h1, h2, h3, h4⟩
      · exact .inl h
      · exact .inr ⟨r, l, h1, h2, Same.free s05 h3, h4⟩
    refine q_when (b := decide (st = g)) (an_test ((vl_eq (vl_var rfl) (vl_var rfl) rfl).is (by rw [dI]))) (fun h => ?_) (fun h => ?_)
    · have e := of_decide_eq_true h
      refine ⟨.int st, rfl, by show 1 ≤ sizeLine; decide, fun r nr => ⟨.ref dC, rfl, by show 3 ≤ sizeLine; decide, fun T nT => ?_⟩⟩
      have sr := same_upd (o := .lst [.int st]) nr
      have er := upd_same (H := H5) (a := r) (o := .lst [.int st])
      generalize upd H5 r (.lst [.int st]) = H6 at sr er nT
      exact done (tot := some 0) (run := some [st]) (sr.trans (same_upd nT)) upd_same (.inr ⟨r, [st], rfl, rfl, nr, same_upd nT _ _ er⟩) ⟨hC, .inl ⟨e, rfl, rfl⟩⟩
    have hne := of_decide_eq_false h
    have ebs5 := s45 _ _ ebs4
    refine q_asgE (lc_nm (K := K) (vs := bs.map V.ref) (vl_var rfl) (.of ebs5) (fun D i H' => ∃ cs : List (HB × ((Int × Int) × Pth (Int × Int))), H' D = some (.lst (cs.map fun c => c.1.1)) ∧ Same H5 (but H' D) ∧ (∀ c ∈ cs, (nodeT K).PV (but H' D) c.1.1 c.2.2 ∧ c.1.2 = (nodeT K).trip c.2.2 ∧ c.2 ∈ F ∧ c.2.1.2 = g) ∧ (∀ z ∈ Lx.take i, z.1.2 = g → ∀ f ∈ F, f.1 = z.1 → ∃ c ∈ cs, c.2 = f) ∧ cs.length ≤ i) (fun D nD => ⟨[], upd_same, same_but (same_upd nD) nD, fun c hc => (nomatch hc), fun z hz => (by rw [List.take_zero] at hz; cases hz), Nat.le_refl _⟩) (fun D i H' hI => .of (but_same _ _ (hI.choose_spec.2.1 _ _ ebs5))) (fun D i x H' nD hx hI => ?_) (fun D H6 nD hI => ?_))
    · obtain ⟨cs, hD, sD, hc, hall, hl⟩ := hI
      obtain ⟨b, z, rfl, hz, eb⟩ := node hx
      have il := (List.getElem?_eq_some_iff.mp hz).1
      have eb' := but_same _ _ (sD _ _ (s45 _ _ (s24 _ _ eb)))
      have efd' := but_same _ _ (sD _ _ (s45 _ _ efd))
      have skip_ : (z.1.2 = g → ∀ f ∈ F, f.1 ≠ z.1) → ∃ cs : List (HB × ((Int × Int) × Pth (Int × Int))), H' D = some (.lst (cs.map fun c => c.1.1)) ∧ Same H5 (but H' D) ∧ (∀ c ∈ cs, (nodeT K).PV (but H' D) c.1.1 c.2.2 ∧ c.1.2 = (nodeT K).trip c.2.2 ∧ c.2 ∈ F ∧ c.2.1.2 = g) ∧ (∀ z ∈ Lx.take (i + 1), z.1.2 = g → ∀ f ∈ F, f.1 = z.1 → ∃ c ∈ cs, c.2 = f) ∧ cs.length ≤ i + 1 := fun hn => ⟨cs, hD, sD, hc, fun y hy hg' f hf ef => by
        rw [take_snoc hz] at hy
        rcases List.mem_append.mp hy with hy | hy
        · exact hall y hy hg' f hf ef
        · rw [List.mem_singleton.mp hy] at hg' ef
          exact absurd ef (hn hg' f hf), by omega⟩
      have t1 := an_test ((vl_eq (vl_ixT (K := K) (ta := tVar 13) (tb := tC (.int 1)) (σ := [some (.ref p0), some (.ref td), some (.int st), some (.int g), some (.ref nd), some (.ref ad), some (.ref pd), some (.ref fd), some (.ref dC), none, none, none, none, some (.ref b)]) (H := H') (vl_var rfl) vl_c (.of eb') (atI_nat (j := 1) rfl)) (vl_var (i := 3) rfl) rfl).is (by rw [dI]))
      rcases fdAt_val9 (M := nodeT K) hF z.1 with ⟨e1, e2⟩ | ⟨f, u, e1, e2, hPV⟩
      · have e2 : valV kvf (K2 z.1) = none := e2
        refine (an_and (k := decide (z.1.2 = g)) (m := false) t1 fun _ => (an_B (vl_dInT (p := z.1) (vl_var rfl) (vl_var rfl) eb' efd')).is (by rw [e2]; rfl)) _ ?_
        rw [Bool.and_false, if_neg Bool.false_ne_true]
        exact skip_ fun _ f hf ef => absurd ef (of_decide_eq_false (Bool.eq_false_iff.mpr (List.find?_eq_none.mp e1 f hf)))
      · have e2 : valV kvf (K2 z.1) = some u := e2
        obtain ⟨hf, ef⟩ := find_iff9 e1
        refine (an_and (k := decide (z.1.2 = g)) (m := true) t1 fun _ => (an_B (vl_dInT (p := z.1) (vl_var rfl) (vl_var rfl) eb' efd')).is (by rw [e2]; rfl)) _ ?_
        rw [Bool.and_true]
        by_cases cg : z.1.2 = g
        · rw [decide_eq_true cg, if_pos rfl]
          refine (vl_dgetT (p := z.1) (vl_var rfl) (vl_var rfl) eb' efd' e2) _ ⟨_, hD, ?_, cs ++ [((u, (nodeT K).trip f.2), f)], ?_, ?_, fun c hc' => ?_, fun y hy hg' f' hf' ef' => ?_, ?_⟩
          · rw [List.length_map]
            exact Nat.lt_of_le_of_lt (m := 1600) (by omega) (by decide)
          · rw [upd_same, List.map_append]
            rfl
          · rw [but_upd]
            exact sD
          · rw [but_upd]
            rcases List.mem_append.mp hc' with hc' | hc'
            · exact hc c hc'
            · rw [List.mem_singleton.mp hc']
              exact ⟨hPV.to (s45.trans sD), rfl, hf, by rw [ef]; exact cg⟩
          · rw [take_snoc hz] at hy
            rcases List.mem_append.mp hy with hy | hy
            · obtain ⟨c', h1, h2⟩ := hall y hy hg' f' hf' ef'
              exact ⟨c', List.mem_append_left _ h1, h2⟩
            · rw [List.mem_singleton.mp hy] at ef'
              have : f' = f := by
                have nd := fok.nd
                obtain ⟨i1, h1, k1⟩ := List.getElem_of_mem hf'
                obtain ⟨i2, h2, k2⟩ := List.getElem_of_mem hf
                have := (List.getElem_inj (xs := F.map (·.1)) (i := i1) (j := i2) (h₀ := by rw [List.length_map]; exact h1) (h₁ := by rw [List.length_map]; exact h2) nd).mp (by
                  rw [List.getElem_map, List.getElem_map, k1, k2, ef, ef'])
                subst this
                rw [← k1, ← k2]
              rw [this]
              exact ⟨_, List.mem_append_right _ (List.mem_singleton_self _), rfl⟩
          · rw [List.length_append, List.length_singleton]
            omega
        · rw [decide_eq_false cg, if_neg Bool.false_ne_true]
          exact skip_ fun h => absurd h cg
    obtain ⟨cs, hD, sD, hc, hall, hl⟩ := hI
    rw [List.length_map, lb, List.take_length] at hall
    have s56 : Same H5 H6 := sD.trans but_same
    have ends : ∀ v y, v.2 = g → IsP (srcT Lx st) (arcL kvs Lx) v y → ∃ c ∈ cs, c.2.1 = v ∧ elt ltP y c.2.2 = false := fun v y hv hy => by
      obtain ⟨f, hf, ef⟩ := fok.all v y hy
      obtain ⟨p, hp⟩ := isP_in hy
      obtain ⟨c, h1, h2⟩ := hall (v, p) hp hv f hf ef
      refine ⟨c, h1, by rw [h2, ef], ?_⟩
      rw [h2]
      exact (fok.fl f hf).2 y (by rw [ef]; exact hy)
    refine q_when (b := !(!(cs.map fun c => c.1.1).isEmpty)) (an_not (fun Q k => ⟨.ref D, rfl, _, .inl ⟨_, .of hD, rfl⟩, k⟩)) (fun h => ?_) (fun h => ?_)
    · have hcs : cs = [] := by
        cases cs with
        | nil => rfl
        | cons c cs => cases h
      refine ⟨.ref dC, rfl, by show 3 ≤ sizeLine; decide, fun T nT => ?_⟩
      refine done (tot := none) (run := none) (rv := .non) (s56.trans (same_upd nT)) upd_same (.inl ⟨rfl, rfl⟩) ⟨hC, .inr ⟨hne, .inl ⟨rfl, rfl, fun v y hv hy => ?_⟩⟩⟩
      obtain ⟨c, h1, _⟩ := ends v y hv hy
      rw [hcs] at h1
      cases h1
    have hne2 : cs ≠ [] := fun e => by
      rw [e] at h
      cases h
    refine q_asgG ⟨.ref D, rfl, D, cs.map (·.1), rfl, .of (by rw [map2_fst]; exact hD), fun e => hne2 (List.map_eq_nil_iff.mp e), ⟨fun b hb => ?_, fun b hb => ?_, fun b hb => ?_, fun b hb b' hb' => ?_⟩, fun b hb hmin => ?_⟩
    · obtain ⟨c, hcm, rfl⟩ := List.mem_map.mp hb
      rw [(hc c hcm).2.1]
      exact ((hc c hcm).1.to but_same).dp
    · obtain ⟨c, hcm, rfl⟩ := List.mem_map.mp hb
      rw [(hc c hcm).2.1]
      exact Nat.le_trans ((nodeT K).dep_trip _) (by decide)
    · obtain ⟨c, hcm, rfl⟩ := List.mem_map.mp hb
      rw [(hc c hcm).2.1]
      exact fun z => nomatch z
    · obtain ⟨c, hcm, rfl⟩ := List.mem_map.mp hb
      obtain ⟨c', hcm', rfl⟩ := List.mem_map.mp hb'
      rw [(hc c hcm).2.1, (hc c' hcm').2.1]
      exact (nodeT K).al_trip _ _
    obtain ⟨c, hcm, rfl⟩ := List.mem_map.mp hb
    obtain ⟨hPV, hdt, hcF, hcg⟩ := hc c hcm
    have hmin' : ∀ c' ∈ cs, elt ltP c'.2.2 c.2.2 = false := fun c' h' => by
      have := hmin c'.1 (List.mem_map.mpr ⟨c', h', rfl⟩)
      rw [hdt, (hc c' h').2.1] at this
      exact ((nodeT K).lt_trip _ _).symm.trans this
    obtain ⟨T2, P2, vs2, e1, e2, e3, e4⟩ := hPV
    rw [e1]
    have e2' := but_same _ _ e2
    have e3' := but_same _ _ e3
    have e4' : (nodeT K).NVs H6 vs2 c.2.2.2 := e4.to but_same
    refine ⟨T2, _, rfl, .of e2', rfl, _, _, rfl, _, _, rfl, _, _, rfl, rfl, ?_⟩
    have lv : vs2.length = c.2.2.2.length := Paired.length e4'
    have lp : c.2.2.2.length ≤ 1000000 := Nat.le_trans (fok.pl c.2 hcF) fok.len
    refine ⟨.int c.2.2.1, rfl, ?_⟩
    have vpath : ∀ H', Same H6 H' → Vn (tLc (iList K (tVar 12)) (gName 13) tYes (tOp (rIxT K) (tVar 13) (tC (.int 1))) [13]) [some (.ref p0), some (.ref td), some (.int st), some (.int g), some (.ref nd), some (.ref ad), some (.ref pd), some (.ref fd), some (.ref dC), some (.ref D), some (.int c.2.2.1), some (.int (c.2.2.2.length : Nat)), some (.ref P2), none] H' (c.2.2.2.map fun z => V.int z.2) := fun H' s' Q' kq => by
      have e3'' := s' _ _ e3'
      refine lc_nm (K := K) (vs := vs2) (vl_var rfl) (.of e3'') (fun D i H2 => H2 D = some (.lst ((c.2.2.2.take i).map fun z => V.int z.2)) ∧ Same H' (but H2 D)) (fun D nD => ⟨upd_same, same_but (same_upd nD) nD⟩) (fun D i H2 hI => .of (but_same _ _ (hI.2 _ _ e3''))) (fun D i x H2 nD hx hI => ?_) (fun D H2 nD hI => ?_)
      · obtain ⟨hD, sD⟩ := hI
        have il := (List.getElem?_eq_some_iff.mp hx).1
        have hz : c.2.2.2[i]? = some (c.2.2.2[i]'(by omega)) := List.getElem?_eq_getElem _
        generalize c.2.2.2[i]'(by omega) = z at hz
        obtain ⟨x', hx', b, rfl, eb⟩ := paired_get e4' hz
        cases hx.symm.trans hx'
        refine yes_now ?_
        rw [if_pos rfl]
        refine (vl_ixT (K := K) (vl_var rfl) vl_c (.of (but_same _ _ (sD _ _ (s' _ _ eb)))) (atI_nat (j := 1) rfl)) _ ⟨_, hD, ?_, ?_, ?_⟩
        · rw [List.length_map, List.length_take]
          exact Nat.lt_of_le_of_lt (m := 1000000) (by omega) (by decide)
        · rw [upd_same, take_snoc hz, List.map_append]
          rfl
        · rw [but_upd]
          exact sD
      · obtain ⟨hD, sD⟩ := hI
        rw [lv, List.take_length] at hD
        exact kq D H2 (sD.trans but_same) nD hD
    refine (vn_cat (xs := [.int st]) (vn_lst (va_cons (vl_var rfl) va_nil) (by show 1 ≤ sizeLine; decide)) vpath (Nat.le_trans (m := 1000001) (by rw [List.length_map, List.length_singleton]; omega) (by decide))) _ fun r H7 s67 nr er => ⟨.ref dC, rfl, by show 3 ≤ sizeLine; decide, fun T nT => ?_⟩
    refine done (tot := some c.2.2.1) (run := some (runP st c.2.2.2)) (rv := .ref r) (s56.trans (s67.trans (same_upd nT))) upd_same (.inr ⟨r, _, rfl, rfl, Same.free s56 nr, ?_⟩) ⟨hC, .inr ⟨hne, .inr ⟨c.2.1, c.2.2, hcg, (fok.fl c.2 hcF).1, rfl, rfl, fun u y hu hy => ?_⟩⟩⟩
    · rw [same_upd nT _ _ er]
      unfold runP
      rw [List.map_cons, List.map_map]
      rfl
    · obtain ⟨c', h1, _, h3⟩ := ends u y hu hy
      exact (elt_lin ltP_lin).nt h3 (hmin' c' h1)
end
/-! ### comprehensions over pairs, and real roads -/
theorem slots2 {σ : L2.St} {i1 i2 : Nat} {v w : V} (ne : i1 ≠ i2) (h1 : i1 < σ.length) (h2 : i2 < σ.length) : (((wipe σ [i1, i2]).set i1 (some v)).set i2 (some w))[i1]? = some (some v) ∧ (((wipe σ [i1, i2]).set i1 (some v)).set i2 (some w))[i2]? = some (some w) ∧ wipe (((wipe σ [i1, i2]).set i1 (some v)).set i2 (some w)) [i1, i2] = wipe σ [i1, i2] := by
  refine ⟨?_, ?_, ?_⟩
  · rw [List.getElem?_set_ne (Ne.symm ne)]
    exact List.getElem?_set_self (by show i1 < ((σ.set i2 none).set i1 none).length; rw [List.length_set, List.length_set]; exact h1)
  · exact List.getElem?_set_self (by
      show i2 < (((σ.set i2 none).set i1 none).set i1 (some v)).length
      rw [List.length_set, List.length_set, List.length_set]
      exact h2)
  · show ((((((σ.set i2 none).set i1 none).set i1 (some v)).set i2 (some w)).set i2 none).set i1 none) = ((σ.set i2 none).set i1 none)
    refine List.ext_getElem? fun i => ?_
    simp only [List.getElem?_set, List.length_set]
    by_cases c2 : i2 = i
    · simp [c2]
    · by_cases c1 : i1 = i
      · simp [c1]
      · simp [c1, c2]
section
variable {K : PySem.W.Frag} {σ : L2.St} {H : Hp} {tl tp : TE} {tt : TT} {i1 i2 : Nat} {a : Addr} {ts : List V} {L : List (Int × Int)} {Q : VK}
/-- [(x, f x p) for x, p in xs if ..] -/
theorem lc_filt {pb : Int × Int → Bool} {gf : Int × Int → Int} (ne : i1 ≠ i2) (h1 : i1 < σ.length) (h2 : i2 < σ.length) (hl : Vl tl σ H (.ref a)) (hs : H a = some (.lst ts)) (hT : TupsAt H ts L) (hz : L.length ≤ 10000)
    (ht : ∀ z ∈ L, ∀ H', Same H H' → An tt (((wipe σ [i1, i2]).set i1 (some (.int z.1))).set i2 (some (.int z.2))) H' (pb z)) (hp : ∀ z ∈ L, ∀ H', Same H H' → Vl tp (((wipe σ [i1, i2]).set i1 (some (.int z.1))).set i2 (some (.int z.2))) H' (.int (gf z)))
    (q : ∀ D H' ts', Same H H' → H D = none → H' D = some (.lst ts') → TupsAt (but H' D) ts' ((L.filter pb).map fun z => (z.1, gf z)) → Q (.ref D) H') :
    tLc (iList K tl) (gTup K 2 (gCons (gName i1) (gCons (gName i2) gNil))) tt (tTup (tCons (tVar i1) (tCons tp tNil))) [i1, i2] σ H Q := by
  refine hl _ ⟨a, rfl, ⟨ts, .of hs⟩, fun D nD => lc_list (K := K) (a := a) (xs := ts) (fun i H' => ∃ ts', H' D = some (.lst ts') ∧ Same H (but H' D) ∧ TupsAt (but H' D) ts' (((L.take i).filter pb).map fun z => (z.1, gf z)))
    ⟨[], upd_same, same_but (same_upd nD) nD, .nil⟩ (fun i H' _ hP => .of (but_same _ _ (hP.choose_spec.2.1 _ _ hs))) (fun i y H2 hi hP => ?_) (fun H2 hP => ?_)⟩
  · obtain ⟨ts', hD, sD, hT'⟩ := hP
    have il := (List.getElem?_eq_some_iff.mp hi).1
    rw [hT.len] at il
    have hg : L[i]? = some (L[i]'il) := List.getElem?_eq_getElem il
    generalize L[i]'il = z at hg
    obtain ⟨T, e1, e2⟩ := hT.at_ i z.1 z.2 hg
    cases hi.symm.trans e1
    have hm := List.mem_of_getElem? hg
    have s2 : Same H H2 := sD.trans but_same
    obtain ⟨w1, w2, w3⟩ := slots2 (v := .int z.1) (w := .int z.2) ne h1 h2
    refine ⟨T, _, rfl, .of (s2 _ _ e2), rfl, _, _, rfl, _, _, rfl, rfl, w3, ht z hm H2 s2 _ ?_⟩
    have ef : ((L.take (i + 1)).filter pb).map (fun z => (z.1, gf z)) = ((L.take i).filter pb).map (fun z => (z.1, gf z)) ++ (if pb z = true then [(z.1, gf z)] else []) := by
      rw [take_snoc hg, List.filter_append, List.map_append]
      congr 1
      by_cases c : pb z = true
      · rw [if_pos c, List.filter_cons, c]
        rfl
      · rw [if_neg c, List.filter_cons, Bool.eq_false_iff.mpr c]
        rfl
    have lts : ts'.length ≤ 10000 := by
      rw [hT'.len, List.length_map]
      exact Nat.le_trans (List.length_filter_le _ _) (Nat.le_trans (by rw [List.length_take]; exact Nat.min_le_right _ _) hz)
    by_cases c : pb z = true
    · rw [if_pos c] at ef ⊢
      refine ⟨.int z.1, w1, hp z hm H2 s2 _ ⟨by show 2 ≤ sizeLine; decide, fun T2 nT2 => ⟨ts', same_upd nT2 _ _ hD, Nat.lt_of_le_of_lt lts (by decide), ts' ++ [.ref T2], upd_same, ?_, ?_⟩⟩⟩
      · rw [but_upd]
        exact sD.trans (but_mono (same_upd nT2))
      · have T2D : T2 ≠ D := fun z => ne_ofN hD nT2 z.symm
        rw [but_upd, ef]
        exact (hT'.to (but_mono (same_upd nT2))).app (TupsAt.one (by rw [but_ne T2D]; exact upd_same))
    · rw [if_neg c] at ef ⊢
      exact ⟨ts', hD, sD, by rw [ef, List.append_nil]; exact hT'⟩
  · obtain ⟨ts', hD, sD, hT'⟩ := hP
    rw [hT.len, List.take_length] at hT'
    exact q D H2 ts' (sD.trans but_same) nD hD hT'
/-- {k: v for x in xs}, the keys are ints -/
theorem dc_nm {tk tv : TE} {j : Nat} {vs : List V} (hl : Vl tl σ H (.ref a)) (hs : SqL K H a vs) (I : Addr → Nat → Hp → Prop) (h0 : ∀ D, H D = none → I D 0 (upd H D (.dK []))) (hI : ∀ D i H', I D i H' → SqL K H' a vs)
    (step : ∀ D i x H', H D = none → vs[i]? = some x → I D i H' → tt ((σ.set j none).set j (some x)) H' fun c H3 => if c = true then tk ((σ.set j none).set j (some x)) H3 fun y H4 => tv ((σ.set j none).set j (some x)) H4 fun z H5 => ∃ kvs k, y = kV k ∧ H5 D = some (.dK kvs) ∧ kvs.length < sizeLine ∧ I D (i + 1) (upd H5 D (.dK (putK kvs k z))) else I D (i + 1) H3)
    (done : ∀ D H', H D = none → I D vs.length H' → Q (.ref D) H') : tDc (iList K tl) (gName j) tt tk tv [j] σ H Q := by
  refine hl _ ⟨a, rfl, ⟨vs, hs⟩, fun D nD => ⟨fun i m H2 => m + i = vs.length ∧ I D i H2, ⟨vs.length, rfl, h0 D nD⟩, fun i m H2 hW => ?_⟩⟩
  obtain ⟨em, hP⟩ := hW
  by_cases hi : i < vs.length
  · have hg : vs[i]? = some (vs[i]'hi) := List.getElem?_eq_getElem hi
    generalize vs[i]'hi = x at hg
    refine .inr ⟨⟨_, _, hI D i H2 hP, hg⟩, fun H2 => I D (i + 1) H2, fun H' h => ⟨m - 1, by omega, by omega, h⟩, fun x' H' hy => ?_⟩
    obtain ⟨rfl, hy⟩ := hy
    have hy := hy _ (hI D i _ hP)
    cases hg.symm.trans hy
    refine ⟨?_, step D i x _ nD hg hP⟩
    show ((σ.set j none).set j (some x)).set j none = σ.set j none
    rw [List.set_set, List.set_set]
  · refine .inl ⟨⟨_, hI D i H2 hP, by omega⟩, done D H2 nD ?_⟩
    have : i = vs.length := by omega
    rw [← this]
    exact hP
end
/-- for k in d: d is locked from then on -/
theorem keysI_in {σ : L2.St} {H : Hp} {td : TE} {d : Addr} {kvs : List (L2.Key × V)} {R : It → Hp → Prop} (hl : Vl td σ H (.ref d)) (hr : Rd H d (.dK kvs)) (k : ∀ od Hn, but Hn d = but H d → Hn d = some (.frz od (.dK kvs)) → R (Itk d od kvs) Hn) : iKeysI9 td σ H R := by
  refine hl _ ⟨d, kvs, rfl, ?_⟩
  rcases hr with e | ⟨od, e⟩
  · exact .inr ⟨e, fun od => k od _ but_upd upd_same⟩
  · exact .inl ⟨od, e, k od H rfl e⟩
theorem q_forKI {σ : L2.St} {H : Hp} {td : TE} {d : Addr} {kvs : List (L2.Key × V)} {g : TG} {tz tw : TS} {D : Ends} (hl : Vl td σ H (.ref d)) (hr : Rd H d (.dK kvs))
    (k : ∀ od Hn, but Hn d = but H d → Hn d = some (.frz od (.dK kvs)) → ∃ Pv : Nat → L2.St → Hp → Prop, Pv 0 σ Hn ∧ (∀ i σ' H', Pv i σ' H' → H' d = some (.frz od (.dK kvs))) ∧ (∀ i kk vv σ' H', kvs[i]? = some (kk, vv) → Pv i σ' H' → g (kV kk) σ' H' fun σ2 H2 => tz { D with nx := Pv (i + 1), ct := Pv (i + 1), bk := tw D } σ2 H2) ∧ (∀ σ' H', Pv kvs.length σ' H' → tw D σ' H')) : tSeq (tFor (iKeysI9 td) g tz) tw D σ H :=
  by
    unfold tSeq tFor
    refine keysI_in hl hr fun od Hn e1 e2 => ?_
    obtain ⟨Pv, h0, hG, hs, hd⟩ := k od Hn e1 e2
    refine for_it (D := { D with nx := tw D }) (walk_keys (d := d) (o := od) (kvs := kvs)) Pv h0 (fun i σ H _ p => hG i σ H p) (fun i x σ H H' hi p hY => ?_) hd
    obtain ⟨rfl, kk, vv, hk, rfl⟩ := hY
    exact hs i kk vv σ _ hk p
theorem vn_catVV {σ : L2.St} {H : Hp} {ta tb : TE} {a b : Addr} {ms ns : List Int} (ha : Vl ta σ H (.ref a)) (hA : H a = some (.lst (ms.map V.int))) (hb : Vl tb σ H (.ref b)) (hB : H b = some (.lst (ns.map V.int))) (hz : ms.length + ns.length ≤ 1000000) : Vn (tOp rCat ta tb) σ H ((ms ++ ns).map V.int) := fun Q q =>
  ha _ (hb _ ⟨a, b, _, _, rfl, rfl, hA, hB, by
    rw [List.length_map, List.length_map]
    exact Nat.le_trans hz (by decide), fun t nt => by
    rw [← List.map_append]
    exact q t _ (same_upd nt) nt upd_same⟩)
theorem sdput_in {σ : L2.St} {H : Hp} {D : Ends} {td ty tv : TE} (h : tv σ H fun v H1 => td σ H1 fun x H2 => ty σ H2 fun y H3 => ∃ a H4, x = .ref a ∧ DPut H3 a y v H4 ∧ D.nx σ H4) : sDPut td ty tv D σ H := h
theorem gname_in {σ : L2.St} {H : Hp} {i : Nat} {v : V} {k : L2.St → Hp → Prop} (h : k (σ.set i (some v)) H) : gName i v σ H k := h
theorem vl_dNotInK {σ : L2.St} {H : Hp} {td ty : TE} {o : Addr} {x : Int} {kvs : List (L2.Key × V)} (hk : Vl ty σ H (.int x)) (ho : Vl td σ H (.ref o)) (hd : H o = some (.dK kvs)) : Vl (tDNotIn ty td) σ H (.bl (!(valV kvs (Sum.inl x)).isSome)) := fun Q q => hk _ (ho _ ⟨o, _, rfl, DGet.k (k := Sum.inl x) hd, q⟩)
theorem vl_dgetRK {σ : L2.St} {H : Hp} {td ty : TE} {o : Addr} {x : Int} {kvs : List (L2.Key × V)} {v : V} (ho : Vl td σ H (.ref o)) (hk : Vl ty σ H (.int x)) (hd : Rd H o (.dK kvs)) (hv : valV kvs (Sum.inl x) = some v) : Vl (tDGet td ty) σ H v := fun Q q => ho _ (hk _ ⟨o, v, rfl, .inl ⟨kvs, Sum.inl x, hd, rfl, hv.symm⟩, q⟩)
theorem but2_upd {H : Hp} {a b : Addr} {o : HO} : but (but (upd H b o) a) b = but (but H a) b := by
  funext x
  by_cases h1 : x = b
  · rw [h1, but_at, but_at]
  · rw [but_ne h1, but_ne h1]
    by_cases h2 : x = a
    · rw [h2, but_at, but_at]
    · rw [but_ne h2, but_ne h2, upd_ne h1]
theorem tups_but1 {H : Hp} {a : Addr} {ts : List V} {L : List (Int × Int)} (h : TupsAt H ts L) (hx : ∀ xs, H a ≠ some (.tup xs)) : TupsAt (but H a) ts L := ⟨h.len, fun i u v e => by
  obtain ⟨t, h1, h2⟩ := h.at_ i u v e
  exact ⟨t, h1, by rw [but_ne fun e => hx _ (e ▸ h2)]; exact h2⟩⟩
theorem rngG9 {n : Int} {i : Nat} (h : i < n.toNat) : (rng n)[i]? = some (i : Int) := by
  unfold rng
  rw [List.getElem?_map, List.getElem?_range h]
  rfl
theorem rsN_snoc {N : Net} (ok : NetOk N) {rd : List Int} {c u z p : Int} (h : rsN N rd = some c) (hu : rd.getLast? = some u) (hp : wyP N.ls u z = some p) : rsN N (rd ++ [z]) = some (c + p) := by
  cases rd with
  | nil => cases hu
  | cons x r =>
    have h0 : 0 ≤ x ∧ x < N.n := Classical.byContradiction fun n => by
      have : rsN N (x :: r) = none := if_neg n
      rw [this] at h
      cases h
    have e1 : rsN N (x :: r) = rsA (wyP N.ls) (x :: r) := if_pos h0
    have e2 : rsN N (x :: r ++ [z]) = rsA (wyP N.ls) (x :: r ++ [z]) := if_pos h0
    rw [e1] at h
    rw [e2]
    unfold rsA at h ⊢
    have gen : ∀ i, i ≤ r.length → rsu (wyP N.ls) (x :: r ++ [z]) i = rsu (wyP N.ls) (x :: r) i := fun i => by
      induction i with
      | zero => exact fun _ => rfl
      | succ i ih =>
        intro hi
        show (match rsu (wyP N.ls) (x :: r ++ [z]) i, wyP N.ls ((x :: r ++ [z]).getD i 0) ((x :: r ++ [z]).getD (i + 1) 0) with
          | some t, some c => some (t + c)
          | _, _ => none) = _
        rw [ih (by omega)]
        have g : ∀ j, j < (x :: r).length → (x :: r ++ [z]).getD j 0 = (x :: r).getD j 0 := fun j hj => by
          rw [List.getD_eq_getElem?_getD, List.getD_eq_getElem?_getD, List.getElem?_append_left hj]
        rw [g i (by rw [List.length_cons]; omega), g (i + 1) (by rw [List.length_cons]; omega)]
        rfl
    have l1 : (x :: r).length - 1 = r.length := by rw [List.length_cons]; rfl
    have l2 : (x :: r ++ [z]).length - 1 = r.length + 1 := by rw [List.length_append, List.length_cons]; rfl
    rw [l1] at h
    rw [l2]
    have k1 : rsu (wyP N.ls) (x :: r ++ [z]) r.length = some c := by rw [gen r.length (Nat.le_refl _), h]
    rw [rsu_step k1]
    have g1 : (x :: r ++ [z]).getD r.length 0 = u := by
      rw [List.getD_eq_getElem?_getD, List.getElem?_append_left (by rw [List.length_cons]; omega)]
      rw [List.getLast?_eq_getElem?, l1] at hu
      rw [hu]
      rfl
    have g2 : (x :: r ++ [z]).getD (r.length + 1) 0 = z := by
      rw [List.getD_eq_getElem?_getD, List.getElem?_append_right (by rw [List.length_cons]; exact Nat.le_refl _), List.length_cons, Nat.sub_self]
      rfl
    rw [g1, g2, hp]
    rfl
theorem rsN_in {N : Net} (ok : NetOk N) {rd : List Int} {c : Int} (h : rsN N rd = some c) : ∀ z ∈ rd, 0 ≤ z ∧ z < N.n := by
  cases rd with
  | nil => exact fun z hz => nomatch hz
  | cons x r =>
    have h0 : 0 ≤ x ∧ x < N.n := Classical.byContradiction fun n => by
      have : rsN N (x :: r) = none := if_neg n
      rw [this] at h
      cases h
    have e1 : rsN N (x :: r) = rsA (wyP N.ls) (x :: r) := if_pos h0
    rw [e1] at h
    have gen : ∀ i t, rsu (wyP N.ls) (x :: r) i = some t → i < (x :: r).length → ∀ j, j ≤ i → 0 ≤ (x :: r).getD j 0 ∧ (x :: r).getD j 0 < N.n := fun i => by
      induction i with
      | zero =>
        intro t _ _ j hj
        have : j = 0 := by omega
        subst this
        exact h0
      | succ i ih =>
        intro t ht hl j hj
        have ht : (match rsu (wyP N.ls) (x :: r) i, wyP N.ls ((x :: r).getD i 0) ((x :: r).getD (i + 1) 0) with
          | some t, some c => some (t + c)
          | _, _ => none) = some t := ht
        cases e : rsu (wyP N.ls) (x :: r) i with
        | none => rw [e] at ht; cases ht
        | some t' =>
          cases e2 : wyP N.ls ((x :: r).getD i 0) ((x :: r).getD (i + 1) 0) with
          | none => rw [e, e2] at ht; cases ht
          | some p =>
            by_cases c : j ≤ i
            · exact ih t' e (by omega) j c
            · have : j = i + 1 := by omega
              subst this
              exact (wyP_in ok e2).2.1
    intro z hz
    obtain ⟨j, hj, ej⟩ := List.getElem_of_mem hz
    have := gen _ c h (by rw [List.length_cons]; omega) j (by omega)
    rw [List.getD_eq_getElem?_getD, List.getElem?_eq_getElem hj] at this
    rw [← ej]
    exact this
/-! ### candidates for roads -/
abbrev sCandidates : Stmt := topS 19
theorem scCandidates : FnScope ["net", "near", "goal", "prefix", "taken", "place", "barred", "arcs", "before", "starts", "found", "total", "count", "path", "other", "price"] ["net", "near", "goal", "prefix", "taken"] (defScope sCandidates) := ⟨rfl, rfl, rfl, by decide +kernel, rfl, by decide +kernel, by decide +kernel⟩
/-- the dict of ways, locked or not -/
structure NearR (N : Net) (H : Hp) (d : Addr) (L : List ((Int × Int) × Int)) (kvs : List (L2.Key × V)) : Prop where
  ok : OwOk N L
  len : L.length ≤ 5000
  rd : Rd H d (.dK kvs)
  keys : kvs.map (·.1) = (rng N.n).map Sum.inl
  row : ∀ x : Int, 0 ≤ x → x < N.n → ∃ a ts, valV kvs (.inl x) = some (.ref a) ∧ but H d a = some (.lst ts) ∧ TupsAt (but H d) ts (frS L x)
def CandAt (N : Net) (H' : Hp) (q pf tk : Addr) (pr : List Int) : Prop := H' q = some (.lst []) ∨ ∃ T R tot cnt path, H' q = some (.lst [.ref T]) ∧ H' T = some (.tup [.int tot, .int cnt, .ref R, .ref pf, .ref tk]) ∧ H' R = some (.lst ((pr ++ path).map V.int)) ∧ path ≠ [] ∧ path.length ≤ 40 ∧ (rsN N (pr ++ path)).isSome = true
def spCand (K : PySem.W.Frag) : Sp := fun vs H Q _ => ∃ (v : V) (N : Net) (nr pf tk : Addr) (g : Int) (L : List ((Int × Int) × Int)) (kvs : List (L2.Key × V)) (pr tks : List Int) (c0 : Int), vs = [v, .ref nr, .int g, .ref pf, .ref tk] ∧ Dp K (but H nr) v (netD N) ∧ NetOk N ∧ NearR N H nr L kvs ∧ but H nr pf = some (.lst (pr.map V.int)) ∧ but H nr tk = some (.lst (tks.map V.int)) ∧ pr ≠ [] ∧ pr.length ≤ 4000 ∧ tks.length ≤ 4000 ∧ rsN N pr = some c0 ∧
  ∀ H' q, Same (but H nr) (but H' nr) → NearR N H' nr L kvs → H q = none → CandAt N (but H' nr) q pf tk pr → Q (.ref q) H'
section
variable {P : Program} {w : World} {K : PySem.W.Frag} {mg : Str → Option Value} {base : Heap} {CP CR fI : Addr}
theorem ok_cand {f : Addr} {fd : FuncData} {k k1 : Nat} (l1 : k1 ≤ k) (F : Fun K "_candidates" "_candidates" sCandidates f fd) (c_road_sum : Kal P w K mg base k "road_sum" ["net", "road"] (spRSumG K)) (c_least_paths : Kal P w K mg base k1 "least_paths" ["arcs", "starts"] (spLeast (nodeI K))) (ml : mg "len" = none) : FnOk P w K mg base CX0 (k + 1) f fd ["net", "near", "goal", "prefix", "taken"] (spCand K) := by
  refine F.ok scCandidates (fun vs H Q E h => ?_) (fun cdv A outer s H vs Q E hr h => ?_)
  · obtain ⟨v, N, nr, pf, tk, g, L, kvs, pr, tks, c0, rfl, _⟩ := h
    rfl
  · obtain ⟨v, N, nr, pf, tk, g, L, kvs, pr, tks, c0, rfl, hN, ok, hnr, hpf, htk, pne, lpr, ltk, hreal, q⟩ := h
    have hu := hu_of hr
    refine ⟨_, pss_cons (ps_set (i := 6) scCandidates.nd rfl (.inr rfl) (pe_dc (own := [("place", 5)]) (g := gName 5) (tt := tYes) (tk := (tVar 5)) (tv := (tC (.bl true))) rfl scCandidates.nd (pi_list (pv 3)) (blkOk_by (own := [("place", 5)]) (N := ["net", "near", "goal", "prefix", "taken", "place", "barred", "arcs", "before", "starts", "found", "total", "count", "path", "other", "price"]) (sc := defScope sCandidates) (by decide +kernel)) (fun _ _ _ _ _ => pg_name (i := 5) scCandidates.nd rfl (Or.inl rfl)) (fun _ _ _ _ _ => by exact pts_nil) (fun _ _ _ _ _ => by exact (pv 5)) (fun _ _ _ _ _ => by exact pe_bl)))
      (pss_cons (ps_set (i := 7) scCandidates.nd rfl (.inl rfl) pe_dnewK)
      (pss_cons (ps_for PassesOwn.never rfl (pi_keysI9 (pv 1)) (pg_name (i := 5) scCandidates.nd rfl (.inl rfl))
      (pss_one (ps_dput hu (pv 7) (pv 5) (pe_lc (own := [("other", 14), ("price", 15)]) (g := gTup K 2 (gCons (gName 14) (gCons (gName 15) (gNil)))) (tt := (tB (tDNotIn (tVar 14) (tVar 6)))) (te := (tTup (tCons (tVar 14) (tCons (tVar 15) tNil)))) (by rfl) scCandidates.nd (pi_list (pe_dget hu (pv 1) (pv 5) (fun _ _ => rfl))) (blkOk_by (own := [("other", 14), ("price", 15)]) (N := ["net", "near", "goal", "prefix", "taken", "place", "barred", "arcs", "before", "starts", "found", "total", "count", "path", "other", "price"]) (sc := defScope sCandidates) (by decide +kernel)) (fun _ _ _ _ _ => pg_tup rfl (pgs_cons (pg_name (i := 14) scCandidates.nd rfl (Or.inl rfl)) (pgs_cons (pg_name (i := 15) scCandidates.nd rfl (Or.inl rfl)) pgs_nil))) (fun _ _ _ _ _ => by exact (pts_one (pt_cmp (pc_dnotin hu (pv 14) (pv 6))))) (fun _ _ _ _ _ => by exact (pe_tup (pa_cons (pv 14) (pa_cons (pv 15) pa_nil))))) rfl)))
      (pss_cons (ps_set (i := 8) scCandidates.nd rfl (.inr rfl) (pe_k c_road_sum hr (by first | decide | omega) (by rfl) (pa_cons (pv 0) (pa_cons (pv 3) pa_nil))))
      (pss_cons (ps_setLc (i := 9) (own := [("other", 14), ("price", 15)]) (g := gTup K 2 (gCons (gName 14) (gCons (gName 15) (gNil)))) (tt := (tTest (tOp (rIn K true) (tVar 14) (tVar 4)))) (te := (tTup (tCons (tVar 14) (tCons (tOp (rI0 fun i j => .int (i + j)) (tVar 8) (tVar 15)) tNil)))) (by rfl) scCandidates.nd rfl rfl (sw_true rfl rfl rfl (by decide +kernel)) (pi_list (pe_dget hu (pv 7) (pe_ix ix_list (pv 3) (pe_un un_neg pe_int) (fun _ _ => rfl)) (fun _ _ => rfl))) (blkOk_by (own := [("other", 14), ("price", 15)]) (N := ["net", "near", "goal", "prefix", "taken", "place", "barred", "arcs", "before", "starts", "found", "total", "count", "path", "other", "price"]) (sc := defScope sCandidates) (by decide +kernel)) (fun _ _ _ _ _ => pg_tup rfl (pgs_cons (pg_name (i := 14) scCandidates.nd rfl (Or.inl rfl)) (pgs_cons (pg_name (i := 15) scCandidates.nd rfl (Or.inl rfl)) pgs_nil))) (fun _ _ _ _ _ => by exact (pts_one (pt_cmpR op_notIn_seq (pv 14) (pv 4) (by rfl)))) (fun _ _ _ _ _ => by exact (pe_tup (pa_cons (pv 14) (pa_cons (pe_op op_add (pv 8) (pv 15)) pa_nil)))))
      (pss_cons (ps_set (i := 10) scCandidates.nd rfl (.inl rfl) (pe_k c_least_paths hr (by first | decide | omega) (by rfl) (pa_cons (pv 7) (pa_cons (pv 9) pa_nil))))
      (pss_cons (ps_if (pt_cmp (pc_dnotin hu (pv 2) (pv 10)))
      (pss_one (ps_ret (pe_lst pa_nil)))
      pss_nil)
      (pss_cons (ps_asg (pe_dget hu (pv 10) (pv 2) (fun _ _ => rfl)) (pg_tup rfl (pgs_cons (pg_name (i := 11) scCandidates.nd rfl (.inl rfl)) (pgs_cons (pg_name (i := 12) scCandidates.nd rfl (.inl rfl)) (pgs_cons (pg_name (i := 13) scCandidates.nd rfl (.inl rfl)) pgs_nil)))))
      (pss_one (ps_ret (pe_lst (pa_cons (pe_tup (pa_cons (pv 11) (pa_cons (pe_op op_add (pe_callB call_len_seq (by rfl) ml PySem.boot_len (pa_cons (pv 3) pa_nil)) (pv 12)) (pa_cons (pe_op op_cat (pv 3) (pv 13)) (pa_cons (pv 3) (pa_cons (pv 4) pa_nil)))))) pa_nil))))))))))), ?_⟩
    have n1 := ok.n1
    have n40 := ok.n40
    have hpr := rsN_in ok hreal
    have hbH : Same (but H nr) H := but_same
    obtain ⟨pl, hpl⟩ : ∃ l, pr.getLast? = some l := by
      cases e : pr.getLast? with
      | none => exact absurd (List.getLast?_eq_none_iff.mp e) pne
      | some l => exact ⟨l, rfl⟩
    have hplr : 0 ≤ pl ∧ pl < N.n := hpr pl (List.mem_of_getLast? hpl)
    -- barred
    refine q_asgE (dc_nm (K := K) (vs := pr.map V.int) (vl_var rfl) (.of (hbH _ _ hpf)) (fun D i H' => ∃ kvb, H' D = some (.dK kvb) ∧ Same H (but H' D) ∧ kvb.length ≤ i) (fun D nD => ⟨[], upd_same, same_but (same_upd nD) nD, Nat.le_refl _⟩) (fun D i H' hI => .of (but_same _ _ (hI.choose_spec.2.1 _ _ (hbH _ _ hpf)))) (fun D i x H' nD hx hI => ?_) (fun bd H1 nbd hI => ?_))
    · obtain ⟨kvb, hD, sD, hl⟩ := hI
      rw [List.getElem?_map] at hx
      obtain ⟨z, hz, rfl⟩ := Option.map_eq_some_iff.mp hx
      have il := (List.getElem?_eq_some_iff.mp hz).1
      refine yes_now ?_
      rw [if_pos rfl]
      refine ⟨.int z, rfl, _, Sum.inl z, rfl, hD, Nat.lt_of_le_of_lt (m := 4000) (by omega) (by decide), _, upd_same, ?_, ?_⟩
      · rw [but_upd]
        exact sD
      · have := putK_lenG (kvs := kvb) (k := (Sum.inl z : L2.Key)) (v := .bl true)
        omega
    obtain ⟨kvb, ebd, sb1, _⟩ := hI
    have s01 : Same H H1 := sb1.trans but_same
    -- arcs
    refine q_dnewK fun ad nad => ?_
    have sad := same_upd (o := .dK []) nad
    have ead := upd_same (H := H1) (a := ad) (o := .dK [])
    generalize upd H1 ad (.dK []) = H2 at sad ead
    have s02 := s01.trans sad
    have nadH : H ad = none := Same.free s01 nad
    have hrd2 : Rd H2 nr (.dK kvs) := by
      rcases hnr.rd with e | ⟨o, e⟩
      · exact .inl (s02 _ _ e)
      · exact .inr ⟨o, s02 _ _ e⟩
    have hnrN : H nr ≠ none := fun e => by
      rcases hnr.rd with e' | ⟨o, e'⟩ <;> rw [e] at e' <;> cases e'
    have adnr : ad ≠ nr := fun e => hnrN (by rw [← e]; exact nadH)
    have bdnr : bd ≠ nr := fun e => hnrN (by rw [← e]; exact nbd)
    have adbd : ad ≠ bd := fun e => by
      rw [← e, nad] at ebd
      cases ebd
    let Af : Int → List (Int × Int) := fun u => (frS L u).filter fun z => !(valV kvb (Sum.inl z.1)).isSome
    refine q_forKI (kvs := kvs) (vl_var rfl) hrd2 fun od Hn ebn enr => ⟨fun i σ H' => ∃ y5 kva, σ = [some v, some (.ref nr), some (.int g), some (.ref pf), some (.ref tk), y5, some (.ref bd), some (.ref ad), none, none, none, none, none, none, none, none] ∧ Same (but (but H1 nr) ad) (but (but H' nr) ad) ∧ H' nr = some (.frz od (.dK kvs)) ∧ H' ad = some (.dK kva) ∧ kva.length ≤ i ∧ ∀ x : Int, 0 ≤ x → x < (i : Int) → ∃ a ts, valV kva (Sum.inl x) = some (.ref a) ∧ but (but H' nr) ad a = some (.lst ts) ∧ TupsAt (but (but H' nr) ad) ts (Af x),
      ⟨_, [], rfl, ?_, enr, ?_, Nat.le_refl _, fun x h0 h1 => (by omega)⟩, fun i σ' H' hP => ?_, fun i kk vv σ' H' hk hP => ?_, fun σ' H' hP => ?_⟩
    · rw [ebn]
      exact but_mono (but_mono sad)
    · have : but Hn nr ad = some (.dK []) := by rw [ebn, but_ne adnr]; exact ead
      exact but_same _ _ this
    · obtain ⟨_, _, _, _, e, _⟩ := hP
      exact e
    · obtain ⟨y5, kva, rfl, sB, enr', ead', lka, hrow⟩ := hP
      have ki : (rng N.n)[i]? = some (i : Int) ∧ kk = Sum.inl (i : Int) ∧ i < N.n.toNat := by
        have h1 : (kvs.map (·.1))[i]? = some kk := by rw [List.getElem?_map, hk]; rfl
        rw [hnr.keys, List.getElem?_map] at h1
        obtain ⟨x, hx, ex⟩ := Option.map_eq_some_iff.mp h1
        have il := (List.getElem?_eq_some_iff.mp hx).1
        rw [len_rng] at il
        have := rngG9 (n := N.n) (i := i) (by omega)
        rw [hx] at this
        cases this
        exact ⟨hx, ex.symm, il⟩
      obtain ⟨_, rfl, il⟩ := ki
      obtain ⟨a, ts, ev, ea, hT⟩ := hnr.row (i : Int) (by omega) (by omega)
      have sH1 : Same (but H nr) (but (but H1 nr) ad) := fun b u e => by
        have hb : b ≠ ad := fun z => by
          rw [z, but_ne adnr, nadH] at e
          cases e
        rw [but_ne hb]
        exact but_mono s01 _ _ e
      have sH' : Same (but H nr) H' := ((sH1.trans sB).trans but_same).trans but_same
      have eb : H' bd = some (.dK kvb) := by
        have : but (but H1 nr) ad bd = some (.dK kvb) := by rw [but_ne (Ne.symm adbd), but_ne bdnr]; exact ebd
        exact but_same _ _ (but_same _ _ (sB _ _ this))
      have lrow : (frS L (i : Int)).length ≤ 10000 := Nat.le_trans (hnr.ok.row ok (i : Int)) (by omega)
      refine gname_in (sdput_in (lc_filt (K := K) (pb := fun z => !(valV kvb (Sum.inl z.1)).isSome) (gf := fun z => z.2) (by decide) (by show 14 < 16; decide) (by show 15 < 16; decide) (vl_dgetRK (vl_var rfl) (vl_var rfl) (.inr ⟨od, enr'⟩) ev) (sH' _ _ ea) (hT.to sH') lrow (fun z hz H'' s'' => an_B (vl_dNotInK (vl_var rfl) (vl_var rfl) (s'' _ _ eb))) (fun z hz H'' s'' => vl_var rfl) fun D H'' ts' s'' nD eD hT' => ⟨.ref ad, rfl, .int (i : Int), rfl, ad, _, rfl, DPut.k (k := Sum.inl (i : Int)) (s'' _ _ ead') (Nat.lt_of_le_of_lt (m := 40) (by omega) (by decide)), _, _, rfl, ?_, ?_, upd_same, ?_, fun x h0 h1 => ?_⟩))
      · rw [but2_upd]
        exact sB.trans (but_mono (but_mono s''))
      · rw [upd_ne (Ne.symm adnr)]
        exact s'' _ _ enr'
      · have := putK_lenG (kvs := kva) (k := (Sum.inl (i : Int) : L2.Key)) (v := .ref D)
        omega
      · rw [but2_upd]
        have Dad : D ≠ ad := fun e => by
          rw [e, ead'] at nD
          cases nD
        have Dnr : D ≠ nr := fun e => by
          rw [e, enr'] at nD
          cases nD
        by_cases c : x = (i : Int)
        · subst c
          refine ⟨D, ts', by rw [valV_put, if_pos rfl], by rw [but_ne Dad, but_ne Dnr]; exact eD, ?_⟩
          have h2 : ((frS L (i : Int)).filter fun z => !(valV kvb (Sum.inl z.1)).isSome).map (fun z => (z.1, z.2)) = Af (i : Int) := List.map_id' _
          rw [← h2]
          have h3 : TupsAt H'' ts' (((frS L (i : Int)).filter fun z => !(valV kvb (Sum.inl z.1)).isSome).map (fun z => (z.1, z.2))) := hT'.to but_same
          refine tups_but1 (tups_but1 h3 fun xs e => ?_) fun xs e => ?_
          · rw [s'' _ _ enr'] at e
            cases e
          · rw [but_ne adnr, s'' _ _ ead'] at e
            cases e
        · obtain ⟨a', ts2, k1, k2, k3⟩ := hrow x h0 (by omega)
          exact ⟨a', ts2, by rw [valV_put, if_neg fun z => c (Sum.inl.inj z)]; exact k1, but_mono (but_mono s'') _ _ k2, k3.to (but_mono (but_mono s''))⟩
    · obtain ⟨y5, kva, rfl, sB, enr', ead', lka, hrow⟩ := hP
      have lkv : kvs.length = N.n.toNat := by
        have := congrArg List.length hnr.keys
        rwa [List.length_map, List.length_map, len_rng] at this
      rw [lkv] at hrow
      have sH1 : Same (but H nr) (but (but H1 nr) ad) := fun b u e => by
        have hb : b ≠ ad := fun z => by
          rw [z, but_ne adnr, nadH] at e
          cases e
        rw [but_ne hb]
        exact but_mono s01 _ _ e
      have sb3 : Same (but H nr) (but H' nr) := (sH1.trans sB).trans but_same
      have s3 : Same (but H nr) H' := sb3.trans but_same
      -- before
      refine q_asgE (tc_call (vs := [v, .ref pf]) (va_cons (vl_var rfl) (va_cons (vl_var rfl) va_nil)) ⟨v, pf, N, pr, rfl, Dp.to hN s3, ok, .of (s3 _ _ hpf), by omega, fun H4 s4 => ?_⟩)
      rw [hreal]
      have s34 : Same (but H nr) H4 := s3.trans s4
      have ead4 := s4 _ _ ead'
      have enr4 := s4 _ _ enr'
      have bb4 : Same (but (but H' nr) ad) H4 := (but_same.trans but_same).trans s4
      obtain ⟨ar, tsr, kr1, kr2, kr3⟩ := hrow pl hplr.1 (by omega)
      have hlast : atI (pr.map V.int) (-1) = some (.int pl) := atI_lastG (by rw [List.getLast?_map, hpl]; rfl)
      have lAf : ∀ u, (Af u).length ≤ 40 := fun u => Nat.le_trans (List.length_filter_le _ _) (Nat.le_trans (hnr.ok.row ok u) (by omega))
      refine q_asgE (lc_filt (K := K) (pb := fun z => !decide (z.1 ∈ tks)) (gf := fun z => c0 + z.2) (by decide) (by show 14 < 16; decide) (by show 15 < 16; decide) (vl_dgetRK (vl_var rfl) (vl_ixL (K := K) (vl_var rfl) (vl_neg vl_c) (.of (s34 _ _ hpf)) hlast) (.inl ead4) kr1) (bb4 _ _ kr2) (kr3.to bb4) (Nat.le_trans (lAf pl) (by decide)) (fun z hz H5 s5 => an_test (vl_notInI (vl_var rfl) (vl_var rfl) (.of ((s34.trans s5) _ _ htk)))) (fun z hz H5 s5 => vl_I0 (g := fun i j => .int (i + j)) (vl_var rfl) (vl_var rfl)) fun sd H5 tss s5 nsd esd hTs => ?_)
      let S : List (Int × Int) := ((Af pl).filter fun z => !decide (z.1 ∈ tks)).map fun z => (z.1, c0 + z.2)
      have lS : S.length ≤ 40 := by
        show (((Af pl).filter fun z => !decide (z.1 ∈ tks)).map fun z => (z.1, c0 + z.2)).length ≤ 40
        rw [List.length_map]
        exact Nat.le_trans (List.length_filter_le _ _) (lAf pl)
      have inA : ∀ u a, a ∈ Af u → wyP N.ls u a.1 = some a.2 := fun u a ha => by
        have := mem_frS.mp (show (a.1, a.2) ∈ frS L u from (List.mem_filter.mp ha).1)
        exact (hnr.ok.mem _ _ _).mp this
      have bb5 : Same (but (but H' nr) ad) H5 := bb4.trans s5
      refine q_asgE (tc_call (vs := [.ref ad, .ref sd]) (va_cons (vl_var rfl) (va_cons (vl_var rfl) va_nil)) ⟨ad, sd, kva, tss, S, Af, rng N.n, rfl, s5 _ _ ead4, fun u hu => ?_, esd, ar_tups (hTs.to but_same), fun z hz => ?_, fun u hu a ha => ?_, fun u a ha => ?_, by omega, ?_, fun H6 fd kvf F s6 nfd efd hF fok => ?_⟩)
      · have := mem_rng.mp hu
        obtain ⟨a, ts', j1, j2, j3⟩ := hrow u this.1 (by omega)
        exact ⟨a, ts', j1, bb5 _ _ j2, ar_tups (j3.to bb5)⟩
      · obtain ⟨y, hy, rfl⟩ := List.mem_map.mp hz
        exact mem_rng.mpr (wyP_in ok (inA pl y (List.mem_filter.mp hy).1)).2.1
      · exact mem_rng.mpr (wyP_in ok (inA u a ha)).2.1
      · exact (wyP_in ok (inA u a ha)).2.2.1
      · have h1 := wS_le9 (A := Af) (F := []) (m := 40) lAf (rng N.n)
        rw [len_rng] at h1
        have h2 : N.n.toNat * (40 + 1) ≤ 40 * 41 := Nat.mul_le_mul_right _ (by omega)
        omega
      have s36 : Same (but H' nr) (but H6 nr) := but_mono (s4.trans (s5.trans s6))
      have sb6 : Same (but H nr) (but H6 nr) := sb3.trans s36
      have enr6 : H6 nr = some (.frz od (.dK kvs)) := s6 _ _ (s5 _ _ enr4)
      -- real roads
      have real : ∀ u x, IsP S Af u x → (∃ c, rsN N (pr ++ x.2) = some c) ∧ (pr ++ x.2).getLast? = some u := fun u x hx => by
        induction hx with
        | @start n p hs =>
          obtain ⟨y, hy, ey⟩ := List.mem_map.mp hs
          have hw := inA pl y (List.mem_filter.mp hy).1
          cases ey
          exact ⟨⟨_, rsN_snoc ok hreal hpl hw⟩, by rw [List.getLast?_append]; rfl⟩
        | @step u v w x _ ha ih =>
          obtain ⟨⟨c, hc⟩, hl⟩ := ih
          have hw := inA u (v, w) ha
          have e : pr ++ (ext x v w).2 = (pr ++ x.2) ++ [v] := (List.append_assoc _ _ _).symm
          rw [e]
          exact ⟨⟨_, rsN_snoc ok hc hl hw⟩, by rw [List.getLast?_append]; rfl⟩
      have lenF : F.length ≤ 40 := by
        have h1 := sub_lenG fok.nd (ys := rng N.n) fun u hu => by
          obtain ⟨f, hf, rfl⟩ := List.mem_map.mp hu
          have h2 := (real f.1 f.2 (fok.fl f hf).1)
          obtain ⟨c, hc⟩ := h2.1
          exact mem_rng.mpr (rsN_in ok hc f.1 (List.mem_of_getLast? h2.2))
        rw [List.length_map, len_rng] at h1
        omega
      have near6 : ∀ {H' : Hp}, Same (but H6 nr) (but H' nr) → H' nr = some (.frz od (.dK kvs)) → NearR N H' nr L kvs := fun s' e => ⟨hnr.ok, hnr.len, .inr ⟨od, e⟩, hnr.keys, fun x h0 h1 => by
        obtain ⟨a, ts', j1, j2, j3⟩ := hnr.row x h0 h1
        exact ⟨a, ts', j1, (sb6.trans s') _ _ j2, j3.to (sb6.trans s')⟩⟩
      have s16 : Same (but H nr) H6 := sb6.trans but_same
      have freeH : ∀ {a : Addr}, H6 a = none → H a = none := fun {a} e => by
        by_cases c : a = nr
        · rw [c, enr6] at e
          cases e
        · have : but H nr a = none := Same.free s16 e
          rwa [but_ne c] at this
      rcases fdAt_val9 (M := nodeI K) hF g with ⟨e1, e2⟩ | ⟨f, u, e1, e2, T2, P2, us, rfl, e3, e4, e5⟩
      · have e2 : valV kvf (Sum.inl g) = none := e2
        refine q_when (b := true) (An.is (an_B (vl_dNotInK (vl_var rfl) (vl_var rfl) efd)) (by rw [e2]; rfl)) (fun _ => ?_) (fun h => by cases h)
        refine ⟨Nat.zero_le _, fun q' nq' => ?_⟩
        have sq := same_upd (o := .lst []) nq'
        have q'nr : q' ≠ nr := fun e => by
          rw [e, enr6] at nq'
          cases nq'
        exact q _ q' (sb6.trans (but_mono sq)) (near6 (but_mono sq) (sq _ _ enr6)) (freeH nq') (.inl (by rw [but_ne q'nr]; exact upd_same))
      · have e2 : valV kvf (Sum.inl g) = some (.ref T2) := e2
        obtain ⟨hf, ef⟩ := find_iff9 e1
        refine q_when (b := false) (An.is (an_B (vl_dNotInK (vl_var rfl) (vl_var rfl) efd)) (by rw [e2]; rfl)) (fun h => by cases h) (fun _ => ?_)
        have hg : g = f.1 := ef.symm
        have hreal2 := real f.1 f.2 (fok.fl f hf).1
        have lp : f.2.2.length ≤ 40 := Nat.le_trans (fok.pl f hf) lenF
        have pne2 : f.2.2 ≠ [] := fun e => by
          have := (fok.fl f hf).1.ne
          rw [e] at this
          cases this
        obtain rfl := nvs_ints.mp e5
        refine q_asgG ((vl_dgetRK (vl_var rfl) (vl_var rfl) (.inl efd) e2) _ ⟨T2, _, rfl, .of e3, rfl, _, _, rfl, _, _, rfl, _, _, rfl, rfl, ?_⟩)
        refine ⟨.int f.2.1, rfl, (vl_I0 (g := fun i j => .int (i + j)) ((vl_lenL (K := K) (vl_var rfl) (.of (s16 _ _ hpf))).is (by rw [List.length_map])) (vl_var rfl)) _ ((vn_catVV (ms := pr) (ns := f.2.2) (vl_var rfl) (s16 _ _ hpf) (vl_var rfl) e4 (by omega)) _ fun R H7 s7 nR eR => ⟨.ref pf, rfl, .ref tk, rfl, by show 5 ≤ sizeLine; decide, fun T nT => ⟨by show 1 ≤ sizeLine; decide, fun q' nq' => ?_⟩⟩)⟩
        have sT := same_upd (o := .tup [.int f.2.1, .int ((pr.length : Nat) + (f.2.2.length : Nat)), .ref R, .ref pf, .ref tk]) nT
        have eT := upd_same (H := H7) (a := T) (o := .tup [.int f.2.1, .int ((pr.length : Nat) + (f.2.2.length : Nat)), .ref R, .ref pf, .ref tk])
        have nT6 := Same.free s7 nT
        generalize upd H7 T (.tup [.int f.2.1, .int ((pr.length : Nat) + (f.2.2.length : Nat)), .ref R, .ref pf, .ref tk]) = H8 at sT eT nq'
        have s68 := s7.trans sT
        have nq6 := Same.free s68 nq'
        have sq := same_upd (o := .lst [.ref T]) nq'
        have s69 := s68.trans sq
        have neN : ∀ {a : Addr}, H6 a = none → a ≠ nr := fun e z => by
          rw [z, enr6] at e
          cases e
        refine q _ q' (sb6.trans (but_mono s69)) (near6 (but_mono s69) (s69 _ _ enr6)) (freeH nq6) (.inr ⟨T, R, f.2.1, _, f.2.2, by rw [but_ne (neN nq6)]; exact upd_same, by rw [but_ne (neN nT6)]; exact sq _ _ eT, by rw [but_ne (neN nR)]; exact sq _ _ (sT _ _ eR), pne2, lp, ?_⟩)
        obtain ⟨c, hc⟩ := hreal2.1
        rw [hc]
        rfl
end
/-! ### best_roads: what it raises; that it ends -/
abbrev sBestRoads : Stmt := topS 18
theorem scBestRoads : FnScope ["net", "start", "goal", "count", "near", "candidates", "found", "total", "_", "road", "prefix", "taken", "size", "followers", "candidate"] ["net", "start", "goal", "count"] (defScope sBestRoads) := ⟨rfl, rfl, rfl, by decide +kernel, rfl, by decide +kernel, by decide +kernel⟩
structure Cnd where
  tot : Int
  cnt : Int
  r : List Int
  p : List Int
  t : List Int
def Cnd.d (c : Cnd) : PyData := .tuple [.int c.tot, .int c.cnt, .list (c.r.map .int), .list (c.p.map .int), .list (c.t.map .int)]
def CV (H : Hp) (v : V) (c : Cnd) : Prop := ∃ T R P U, v = .ref T ∧ H T = some (.tup [.int c.tot, .int c.cnt, .ref R, .ref P, .ref U]) ∧ H R = some (.lst (c.r.map V.int)) ∧ H P = some (.lst (c.p.map V.int)) ∧ H U = some (.lst (c.t.map V.int))
theorem CV.to {H H' : Hp} {v : V} {c : Cnd} (h : CV H v c) (s : Same H H') : CV H' v c := by
  obtain ⟨T, R, P, U, e, h1, h2, h3, h4⟩ := h
  exact ⟨T, R, P, U, e, s _ _ h1, s _ _ h2, s _ _ h3, s _ _ h4⟩
theorem CV.dp {K : PySem.W.Frag} {H : Hp} {v : V} {c : Cnd} (h : CV H v c) : Dp K H v c.d := by
  obtain ⟨T, R, P, U, rfl, h1, h2, h3, h4⟩ := h
  exact .tup (.of h1) (.cons (.int _) (.cons (.int _) (.cons (.lst (.of h2) (DpAll.ints _)) (.cons (.lst (.of h3) (DpAll.ints _)) (.cons (.lst (.of h4) (DpAll.ints _)) .nil)))))
theorem al_ints (p q : List Int) : PySem.W.alikeAll (p.map PyData.int) (q.map PyData.int) = true := by
  induction p generalizing q with
  | nil => simp [PySem.W.alikeAll]
  | cons x p ih =>
    cases q with
    | nil => simp [PySem.W.alikeAll]
    | cons y q =>
      rw [List.map_cons, List.map_cons, PySem.W.alikeAll, al_int, ih]
      rfl
theorem Cnd.al (x y : Cnd) : PySem.W.alike x.d y.d = true := by
  unfold Cnd.d
  simp [PySem.W.alike, PySem.W.alikeAll, al_ints]
theorem Cnd.dep (x : Cnd) : x.d.depth ≤ 60 := by
  have h : ∀ l : List Int, PyData.depthAll (l.map PyData.int) ≤ 1 := fun l => depth_le fun d hd => by
    obtain ⟨i, _, rfl⟩ := List.mem_map.mp hd
    simp [PyData.depth]
  have h1 := h x.r
  have h2 := h x.p
  have h3 := h x.t
  unfold Cnd.d
  simp only [PyData.depth, PyData.depthAll]
  omega
theorem vn_ifB {σ : L2.St} {H : Hp} {t : TT} {ta tb : TE} {b : Bool} {xs : List V} (h : An t σ H b) (h1 : b = true → Vn ta σ H xs) (h2 : b = false → Vn tb σ H xs) : Vn (tIf t ta tb) σ H xs := fun Q q => h _ (by
  cases b with
  | true => exact iteT (h1 rfl Q q)
  | false => exact iteF (h2 rfl Q q))
/-- a candidate behind so many roads -/
structure CndOk (N : Net) (i : Nat) (c : Cnd) : Prop where
  pne : c.p ≠ []
  pre : ∃ q, q ≠ [] ∧ c.r = c.p ++ q
  rl : c.r.length ≤ 41 * (i + 1)
  tl : c.t.length ≤ i + 1
  re : (rsN N c.r).isSome = true
theorem CndOk.mono {N : Net} {i : Nat} {c : Cnd} (h : CndOk N i c) : CndOk N (i + 1) c := ⟨h.pne, h.pre, by have := h.rl; omega, by have := h.tl; omega, h.re⟩
theorem rsN_pre {N : Net} {p q : List Int} (pne : p ≠ []) (h : (rsN N (p ++ q)).isSome = true) : (rsN N p).isSome = true := by
  cases p with
  | nil => exact absurd rfl pne
  | cons x r =>
    have h0 : 0 ≤ x ∧ x < N.n := Classical.byContradiction fun n => by
      have : rsN N (x :: r ++ q) = none := if_neg n
      rw [this] at h
      cases h
    have e1 : rsN N (x :: r) = rsA (wyP N.ls) (x :: r) := if_pos h0
    have e2 : rsN N (x :: r ++ q) = rsA (wyP N.ls) (x :: r ++ q) := if_pos h0
    rw [e2] at h
    rw [e1]
    unfold rsA at h ⊢
    have gen : ∀ i, i ≤ r.length → rsu (wyP N.ls) (x :: r ++ q) i = rsu (wyP N.ls) (x :: r) i := fun i => by
      induction i with
      | zero => exact fun _ => rfl
      | succ i ih =>
        intro hi
        show (match rsu (wyP N.ls) (x :: r ++ q) i, wyP N.ls ((x :: r ++ q).getD i 0) ((x :: r ++ q).getD (i + 1) 0) with
          | some t, some c => some (t + c)
          | _, _ => none) = _
        rw [ih (by omega)]
        have g : ∀ j, j < (x :: r).length → (x :: r ++ q).getD j 0 = (x :: r).getD j 0 := fun j hj => by
          rw [List.getD_eq_getElem?_getD, List.getD_eq_getElem?_getD, List.getElem?_append_left hj]
        rw [g i (by rw [List.length_cons]; omega), g (i + 1) (by rw [List.length_cons]; omega)]
        rfl
    have l1 : (x :: r).length - 1 = r.length := by rw [List.length_cons]; rfl
    rw [l1, ← gen r.length (Nat.le_refl _)]
    cases e : rsu (wyP N.ls) (x :: r ++ q) r.length with
    | some _ => rfl
    | none =>
      rw [rsu_none e (by rw [List.length_append, List.length_cons]; omega)] at h
      cases h
theorem NearR.to {N : Net} {H H' : Hp} {d : Addr} {L : List ((Int × Int) × Int)} {kvs : List (L2.Key × V)} (h : NearR N H d L kvs) (s : Same (but H d) (but H' d)) (r : Rd H' d (.dK kvs)) : NearR N H' d L kvs := ⟨h.ok, h.len, r, h.keys, fun x h0 h1 => by
  obtain ⟨a, ts, e1, e2, e3⟩ := h.row x h0 h1
  exact ⟨a, ts, e1, s _ _ e2, e3.to s⟩⟩
section
variable {K : PySem.W.Frag} {q kd fd : Addr} {H : Hp}
theorem hqOk_cnd {cs : List (HB × Cnd)} (h : ∀ c ∈ cs, CV (B3 q kd fd H) c.1.1 c.2 ∧ c.1.2 = c.2.d) : HqOk K H q (cs.map (·.1)) := by
  refine ⟨fun b hb o => ?_, fun b hb => ?_, fun b hb => ?_, fun b hb c hc => ?_⟩
  · obtain ⟨c, hc, rfl⟩ := List.mem_map.mp hb
    obtain ⟨h1, h2⟩ := h c hc
    rw [h2]
    exact Dp.to h1.dp b3_to
  · obtain ⟨c, hc, rfl⟩ := List.mem_map.mp hb
    rw [(h c hc).2]
    exact c.2.dep
  · obtain ⟨c, hc, rfl⟩ := List.mem_map.mp hb
    rw [(h c hc).2]
    intro z
    cases z
  · obtain ⟨c1, hc1, rfl⟩ := List.mem_map.mp hb
    obtain ⟨c2, hc2, rfl⟩ := List.mem_map.mp hc
    rw [(h c1 hc1).2, (h c2 hc2).2]
    exact Cnd.al _ _
end
theorem b3_but {q kd fd : Addr} {H : Hp} : Same (B3 q kd fd H) (but H kd) := fun a u h => by
  obtain ⟨_, n, _⟩ := b3_no h
  rw [but_ne n]
  exact b3_same _ _ h
theorem b3_of {q kd fd : Addr} {H H' : Hp} (s : Same (but H kd) (but H' kd)) : Same (B3 q kd fd H) (B3 q kd fd H') := fun a u h => by
  obtain ⟨n1, n2, n3⟩ := b3_no h
  have h1 := s _ _ (b3_but _ _ h)
  rw [but_ne n2] at h1
  rw [b3_ne n1 n2 n3]
  exact h1
theorem ints_refs {l : List Int} {ys : List V} (hl : l ≠ []) (h : ∀ y ∈ ys, ∃ a, y = V.ref a) : ys ≠ l.map V.int := fun e => by
  cases l with
  | nil => exact hl rfl
  | cons x l =>
    obtain ⟨a, ha⟩ := h (.int x) (by rw [e]; exact List.mem_cons_self)
    cases ha
/-- the loop's word: i roads are found, at most j roads are candidates -/
structure BkI (K : PySem.W.Frag) (N : Net) (v : V) (nr cd fo : Addr) (L : List ((Int × Int) × Int)) (kvs : List (L2.Key × V)) (Hb : Hp) (i : Nat) (e j : Nat) (H : Hp) : Prop where
  s : Same (but Hb nr) (B3 cd nr fo H)
  rd : Rd H nr (.dK kvs)
  ex : ∃ (cs : List (HB × Cnd)) (fs : List V), H cd = some (.lst (cs.map fun c => c.1.1)) ∧ H fo = some (.lst fs) ∧ (∀ x ∈ fs, ∃ a, x = V.ref a) ∧ fs.length = i ∧ (∀ c ∈ cs, CV (B3 cd nr fo H) c.1.1 c.2 ∧ c.1.2 = c.2.d ∧ CndOk N e c.2) ∧ HqM.HeapAt hlt 0 (cs.map (·.1)) ∧ cs.length ≤ j
def spBest (K : PySem.W.Frag) (CP CR : Addr) : Sp := fun vs H Q E => ∃ (v : V) (N : Net) (s g c : Int), vs = [v, .int s, .int g, .int c] ∧ Dp K H v (netD N) ∧ NetOk N ∧
  (¬ (0 ≤ s ∧ s < N.n) → RaiseTo E H CP s) ∧ (0 ≤ s ∧ s < N.n → ¬ (0 ≤ g ∧ g < N.n) → RaiseTo E H CP g) ∧ (0 ≤ s ∧ s < N.n → 0 ≤ g ∧ g < N.n →
  (¬ (1 ≤ c ∧ c ≤ 8) → RaiseTo E H CR c) ∧ (1 ≤ c ∧ c ≤ 8 → ∀ H' r, Same H H' → Q r H'))
section
variable {P : Program} {w : World} {K : PySem.W.Frag} {mg : Str → Option Value} {base : Heap} {CP CR fI : Addr}
theorem ok_best {f : Addr} {fd : FuncData} {k k1 k2 k3 : Nat} (l0 : 2 ≤ k) (l1 : k1 ≤ k) (l2 : k2 ≤ k) (l3 : k3 ≤ k) (F : Fun K "best_roads" "best_roads" sBestRoads f fd) (hOR : PySem.LowX.LowTxt K mg "OutOfRange" CR fI) (c_check_places : KalX P w K mg base k1 "check_places" ["n", "places"] (spChkPl K CP)) (c_ways_from : Kal P w K mg base k2 "ways_from" ["net"] (spWaysFrom K)) (c_candidates : Kal P w K mg base k3 "_candidates" ["net", "near", "goal", "prefix", "taken"] (spCand K)) (ml : mg "len" = none) (mr : mg "range" = none) (g_heappop : mg "heappop" = some (.builtin "_heapq.heappop")) (g_heappush : mg "heappush" = some (.builtin "_heapq.heappush")) {tkH : Tok} (g_MOST_ROADS : mg "MOST_ROADS" = some (.int 8 tkH)) : FnOk P w K mg base (L2.CX P w) (k + 1) f fd ["net", "start", "goal", "count"] (spBest K CP CR) := by
  refine F.okX scBestRoads (fun vs H Q E h => ?_) (fun cdv A outer s H vs Q E hr h => ?_)
  · obtain ⟨v, N, st, g, c, rfl, _⟩ := h
    rfl
  · obtain ⟨v, N, st, g, c, rfl, hN, ok, q1, q2, q3⟩ := h
    have hu := hu_of hr
    refine ⟨_, pss_cons (ps_expr (pe_kx (E := E) c_check_places hr (by first | decide | omega) (by rfl) (takes_of rfl rfl rfl rfl) (pa_cons (pe_ix ix_tup (pv 0) pe_int (fun _ _ => rfl)) (pa_cons (pe_lst (pa_cons (pv 1) (pa_cons (pv 2) pa_nil))) pa_nil))))
      (pss_cons (ps_if (pt_not (pt_chain op_le op_le pe_int (pv 3) (pe_glob (v := .int 8) (by rfl) g_MOST_ROADS ⟨_, rfl⟩)))
      (pss_one (ps_raiseLow rfl hOR hr (takes_of rfl rfl rfl rfl) (by exact (pa_cons (pv 3) pa_nil))))
      pss_nil)
      (pss_cons (ps_if (pt_cmpR op_eq (pv 1) (pv 2) (nomark _))
      (pss_one (ps_ret (pe_lst (pa_cons (pe_tup (pa_cons pe_int (pa_cons (pe_lst (pa_cons (pv 1) pa_nil)) pa_nil))) pa_nil))))
      pss_nil)
      (pss_cons (ps_set (i := 4) scBestRoads.nd rfl (.inl rfl) (pe_k c_ways_from hr (by first | decide | omega) (by rfl) (pa_cons (pv 0) pa_nil)))
      (pss_cons (ps_set (i := 5) scBestRoads.nd rfl (.inl rfl) (pe_k c_candidates hr (by first | decide | omega) (by rfl) (pa_cons (pv 0) (pa_cons (pv 4) (pa_cons (pv 2) (pa_cons (pe_lst (pa_cons (pv 1) pa_nil)) (pa_cons (pe_lst pa_nil) pa_nil)))))))
      (pss_cons (ps_set (i := 6) scBestRoads.nd rfl (.inl rfl) (pe_lst pa_nil))
      (pss_cons (ps_while (passes_of rfl) (PW.pt (pw_and (pt_truth (pv 5) (by intro _; rfl)) (pw_and1 (pt_cmpR op_lt (pe_callB call_len_seq (by rfl) ml PySem.boot_len (pa_cons (pv 6) pa_nil)) (pv 3) (nomark _)))))
      (pss_cons (ps_asg (pe_callGB (call_hpop (room70 hr)) (by rfl) g_heappop (pa_cons (pv 5) pa_nil)) (pg_tup rfl (pgs_cons (pg_name (i := 7) scBestRoads.nd rfl (.inl rfl)) (pgs_cons (pg_name (i := 8) scBestRoads.nd rfl (.inl rfl)) (pgs_cons (pg_name (i := 9) scBestRoads.nd rfl (.inl rfl)) (pgs_cons (pg_name (i := 10) scBestRoads.nd rfl (.inl rfl)) (pgs_cons (pg_name (i := 11) scBestRoads.nd rfl (.inl rfl)) pgs_nil)))))))
        (pss_cons (ps_expr (pe_bm PySem.F.plainAttrs_list PySem.F.slot_list_append PySem.F.type_list_append mt_append (pv 6) (pa_cons (pe_tup (pa_cons (pv 7) (pa_cons (pv 9) pa_nil))) pa_nil)))
        (pss_one (ps_for (passes_of rfl) rfl (pi_range2 (by rfl) mr (pa_cons (pe_callB call_len_seq (by rfl) ml PySem.boot_len (pa_cons (pv 10) pa_nil)) (pa_cons (pe_callB call_len_seq (by rfl) ml PySem.boot_len (pa_cons (pv 9) pa_nil)) pa_nil))) (pg_name (i := 12) scBestRoads.nd rfl (.inl rfl))
        (pss_cons (ps_set (i := 13) scBestRoads.nd rfl (.inl rfl) (pe_ifExp (pt_cmpR op_eq (pv 12) (pe_callB call_len_seq (by rfl) ml PySem.boot_len (pa_cons (pv 10) pa_nil)) (nomark _)) (pe_op op_cat (pv 11) (pe_lst (pa_cons (pe_ix ix_list (pv 9) (pv 12) (fun _ _ => rfl)) pa_nil))) (pe_lst (pa_cons (pe_ix ix_list (pv 9) (pv 12) (fun _ _ => rfl)) pa_nil))))
          (pss_one (ps_for (passes_of rfl) rfl (pi_list (pe_k c_candidates hr (by first | decide | omega) (by rfl) (pa_cons (pv 0) (pa_cons (pv 4) (pa_cons (pv 2) (pa_cons (pe_slice sl_list (pv 9) po_none (po_some (pv 12))) (pa_cons (pv 13) pa_nil))))))) (pg_name (i := 14) scBestRoads.nd rfl (.inl rfl))
          (pss_one (ps_expr (pe_callGB (call_hpush (room70 hr)) (by rfl) g_heappush (pa_cons (pv 5) (pa_cons (pv 14) pa_nil)))))))))))))
      (pss_one (ps_ret (pv 6))))))))), ?_⟩
    have rz : ∀ {C : Addr} {z : Int} {H' : Hp}, Same H H' → RaiseTo E H C z → RaiseTo E H' C z := fun s' r H'' d s'' hd => r H'' d (s'.trans s'') hd
    obtain ⟨p0, c0, xs0, rfl, hp0, hc0, hx0⟩ := Dp.net_inv hN
    have n1 := ok.n1
    have n40 := ok.n40
    refine q_chk2 (n := N.n) (a := st) (b := g) (vl_ixT (K := K) (vl_var rfl) vl_c hp0 (atI_nat (j := 0) rfl)) (vl_var rfl) (vl_var rfl) q1 q2 (fun hs hg H0 s0 => ?_)
    obtain ⟨qR, q⟩ := q3 hs hg
    refine q_when (b := !(decide (1 ≤ c) && decide (c ≤ 8))) (an_not (an_test (vl_chainI vl_c (vl_var rfl) vl_c))) (fun hb => ?_) (fun hb => ?_)
    · exact raise_now (va_cons (vl_var rfl) va_nil) ((qR fun z => by
        rw [decide_eq_true z.1, decide_eq_true z.2] at hb
        cases hb).to s0)
    have hc : 1 ≤ c ∧ c ≤ 8 := by
      rw [Bool.not_eq_false', Bool.and_eq_true, decide_eq_true_eq, decide_eq_true_eq] at hb
      exact hb
    have q := q hc
    refine q_when (b := decide (V.int st = V.int g)) (an_test (vl_eq (vl_var rfl) (vl_var rfl) rfl)) (fun _ => ?_) (fun _ => ?_)
    · exact ⟨.int st, rfl, by show 1 ≤ sizeLine; decide, fun p np => ⟨by show 2 ≤ sizeLine; decide, fun T nT => ⟨by show 1 ≤ sizeLine; decide, fun l nl => q _ _ (s0.trans ((same_upd np).trans ((same_upd nT).trans (same_upd nl))))⟩⟩⟩
    refine q_asgE (tc_call (vs := [.ref p0]) (va_cons (vl_var rfl) va_nil) ⟨.ref p0, N, rfl, Dp.to hN s0, ok, fun H1 nr L s1 nnr hnr => ?_⟩)
    obtain ⟨kvs, ekv, hrow⟩ := hnr.ex
    have hR1 : NearR N H1 nr L kvs := ⟨hnr.ok, hnr.len, .inl ekv, hnr.keys kvs ekv, fun x h0 h1 => by
      obtain ⟨a, ts, e1, e2, e3⟩ := hrow x h0 h1
      have an : a ≠ nr := fun z => by
        rw [z, ekv] at e2
        cases e2
      exact ⟨a, ts, e1, by rw [but_ne an]; exact e2, tups_but1 e3 fun xs e => by
        rw [ekv] at e
        cases e⟩⟩
    have hN1 : Dp K (but H1 nr) (.ref p0) (netD N) := Dp.to hN (s0.trans (same_but s1 nnr))
    refine q_asgE ⟨.ref p0, rfl, .ref nr, rfl, .int g, rfl, .int st, rfl, by show 1 ≤ sizeLine; decide, fun pf npf => ⟨Nat.zero_le _, fun tk ntk => ?_⟩⟩
    have pfnr : pf ≠ nr := fun z => by
      rw [z, ekv] at npf
      cases npf
    have s12 := same_upd (o := .lst [.int st]) npf
    have epf := upd_same (H := H1) (a := pf) (o := .lst [.int st])
    generalize upd H1 pf (.lst [.int st]) = H2 at s12 epf ntk
    have tknr : tk ≠ nr := fun z => by
      rw [z, s12 _ _ ekv] at ntk
      cases ntk
    have s23 := same_upd (o := .lst []) ntk
    have etk := upd_same (H := H2) (a := tk) (o := .lst [])
    generalize upd H2 tk (.lst []) = H3 at s23 etk
    have s13 := s12.trans s23
    have epf3 : H3 pf = some (.lst (([st] : List Int).map V.int)) := s23 _ _ epf
    have etk3 : H3 tk = some (.lst (([] : List Int).map V.int)) := etk
    have rs0 : rsN N [st] = some 0 := by
      show (if 0 ≤ st ∧ st < N.n then rsA (wyP N.ls) [st] else none) = some 0
      rw [if_pos hs]
      rfl
    refine ⟨.ref p0, N, nr, pf, tk, g, L, kvs, [st], [], 0, rfl, Dp.to hN1 (but_mono s13), ok, hR1.to (but_mono s13) (.inl (s13 _ _ ekv)), by rw [but_ne pfnr]; exact epf3, by rw [but_ne tknr]; exact etk3, by simp, by simp, by simp, rs0, fun H4 cd s34 hR4 ncd hC => ?_⟩
    have cdnr : cd ≠ nr := fun z => by
      rw [z, s13 _ _ ekv] at ncd
      cases ncd
    refine q_lnew fun fo nfo => ?_
    have fonr : fo ≠ nr := fun z => by
      rcases hR4.rd with e | ⟨o, e⟩ <;> rw [z, e] at nfo <;> cases nfo
    have ecd4 : ∃ xs, H4 cd = some (.lst xs) := by
      rcases hC with e | ⟨T, _, _, _, _, e, _⟩ <;> (rw [but_ne cdnr] at e; exact ⟨_, e⟩)
    obtain ⟨cxs, ecd4⟩ := ecd4
    have focd : fo ≠ cd := fun z => by
      rw [z, ecd4] at nfo
      cases nfo
    have s45 := same_upd (o := .lst []) nfo
    have efo := upd_same (H := H4) (a := fo) (o := .lst [])
    have ecd5 := s45 _ _ ecd4
    generalize upd H4 fo (.lst []) = H5 at s45 efo ecd5
    have sB : ∀ {a u}, but H4 nr a = some u → a ≠ cd → B3 cd nr fo H5 a = some u := fun {a u} e n => by
      have an : a ≠ nr := fun z => by
        rw [z, but_at] at e
        cases e
      rw [but_ne an] at e
      have af : a ≠ fo := fun z => by
        rw [z, nfo] at e
        cases e
      rw [b3_ne n an af]
      exact s45 _ _ e
    have sBb : Same (but H1 nr) (B3 cd nr fo H5) := fun a u e => by
      have e3 := but_mono s13 _ _ e
      have an : a ≠ nr := fun z => by
        rw [z, but_at] at e
        cases e
      exact sB (s34 _ _ e3) fun z => by
        rw [but_ne an, z, ncd] at e3
        cases e3
    have hI0 : BkI K N (.ref p0) nr cd fo L kvs H1 0 0 1 H5 := by
      refine ⟨sBb, ?_, ?_⟩
      · rcases hR4.rd with e | ⟨o, e⟩
        · exact .inl (s45 _ _ e)
        · exact .inr ⟨o, s45 _ _ e⟩
      · rcases hC with e | ⟨T, R, tot, cnt, path, e1, e2, e3, ne, lp, hre⟩
        · rw [but_ne cdnr, ecd4] at e
          cases e
          exact ⟨[], [], ecd5, efo, (fun x hx => nomatch hx), rfl, fun c hc => (nomatch hc), HqM.heap_nil, by simp⟩
        · rw [but_ne cdnr, ecd4] at e1
          cases e1
          have nl : ∀ {a : Addr} {u : HO}, but H4 nr a = some u → u ≠ .lst [.ref T] → a ≠ cd := fun {a u} e n z => by
            rw [z, but_ne cdnr, ecd4] at e
            exact n (Option.some.inj e).symm
          have epf4 := s34 pf _ (by rw [but_ne pfnr]; exact epf3)
          have etk4 := s34 tk _ (by rw [but_ne tknr]; exact etk3)
          refine ⟨[((.ref T, Cnd.d ⟨tot, cnt, [st] ++ path, [st], []⟩), ⟨tot, cnt, [st] ++ path, [st], []⟩)], [], ecd5, efo, (fun x hx => nomatch hx), rfl, fun c hc => ?_, fun i p a b i0 ip tp ha hb => ?_, by simp⟩
          · rw [List.mem_singleton] at hc
            subst hc
            exact ⟨⟨T, R, pf, tk, rfl, sB e2 (nl e2 fun z => by cases z), sB e3 (nl e3 fun z => by cases z), sB epf4 (nl epf4 fun z => by cases z), sB etk4 (nl etk4 fun z => by cases z)⟩, rfl, by simp, ⟨path, ne, rfl⟩, by show (path.length + 1) ≤ 41; omega, Nat.zero_le _, hre⟩
          · have := (List.getElem?_eq_some_iff.mp ha).1
            have : i < 1 := this
            omega
    have sHb : Same H H1 := s0.trans s1
    have sEnd : ∀ {H' : Hp}, Same (but H1 nr) (B3 cd nr fo H') → Same H H' := fun {H'} s' => (s0.trans (same_but s1 nnr)).trans (s'.trans b3_same)
    refine ⟨fun m σ H' => ∃ (i : Nat) (y7 y8 y9 y10 y11 y12 y13 y14 : Option V), σ = [some (.ref p0), some (.int st), some (.int g), some (.int c), some (.ref nr), some (.ref cd), some (.ref fo), y7, y8, y9, y10, y11, y12, y13, y14] ∧ i + m = c.toNat ∧ BkI K N (.ref p0) nr cd fo L kvs H1 i i (1 + 400 * i) H', ⟨c.toNat, 0, _, _, _, _, _, _, _, _, rfl, Nat.zero_add _, hI0⟩, fun m σ H6 hW => ?_⟩
    obtain ⟨i, y7, y8, y9, y10, y11, y12, y13, y14, rfl, him, I⟩ := hW
    have hi8 : i ≤ 8 := by omega
    obtain ⟨cs, fs, ecd, efo6, rfs, lfs, hcs, hheap, lcs⟩ := I.ex
    refine (an_and (k := !(cs.map fun c : HB × Cnd => c.1.1).isEmpty) (m := decide ((i : Int) < c)) (fun Q q => ⟨.ref cd, rfl, _, .inl ⟨_, .of ecd, rfl⟩, q⟩) (fun _ => an_test (vl_I0 (g := fun i j => .bl (decide (i < j))) ((vl_lenL (K := K) (vl_var rfl) (.of efo6)).is (by rw [lfs])) (vl_var rfl)))) _ ?_
    by_cases hb : ((!(cs.map fun c : HB × Cnd => c.1.1).isEmpty) && decide ((i : Int) < c)) = true
    · rw [if_pos hb]
      rw [Bool.and_eq_true, decide_eq_true_eq] at hb
      obtain ⟨hcne, hic⟩ := hb
      let W : Nat → L2.St → Hp → Prop := fun m σ H' => ∃ (i : Nat) (y7 y8 y9 y10 y11 y12 y13 y14 : Option V), σ = [some (.ref p0), some (.int st), some (.int g), some (.int c), some (.ref nr), some (.ref cd), some (.ref fo), y7, y8, y9, y10, y11, y12, y13, y14] ∧ i + m = c.toNat ∧ BkI K N (.ref p0) nr cd fo L kvs H1 i i (1 + 400 * i) H'
      refine ⟨fun σ' H' => ∃ m', m' < m ∧ W m' σ' H', fun σ' H' h => h, ?_⟩
      have csne : cs ≠ [] := fun z => by
        rw [z] at hcne
        cases hcne
      refine ⟨.ref cd, rfl, cd, cs.map (fun c : HB × Cnd => c.1), rfl, by rw [map2_fst]; exact ecd, fun z => csne (List.map_eq_nil_iff.mp z), hqOk_cnd (K := K) (fun c hm => ⟨(hcs c hm).1, (hcs c hm).2.1⟩), hheap, fun b bs' hperm hmin hheap2 => ?_⟩
      obtain ⟨cs', hp', ecs⟩ := perm_map_inv hperm (f := fun c : HB × Cnd => c.1) (l := cs) rfl
      obtain ⟨c0, cs1, rfl, eb, e1⟩ : ∃ c0 cs1, cs' = c0 :: cs1 ∧ b = c0.1 ∧ bs' = cs1.map (·.1) := by
        cases cs' with
        | nil => cases ecs
        | cons c0 cs1 => exact ⟨c0, cs1, rfl, (List.cons.inj ecs).1, (List.cons.inj ecs).2⟩
      subst eb e1
      have hm0 : c0 ∈ cs := hp'.mem_iff.mp List.mem_cons_self
      have pl := hp'.length_eq
      have pl : cs1.length + 1 = cs.length := pl
      obtain ⟨⟨T, R, Pf, U, hT0, hT, hR, hP, hU⟩, _, cok⟩ := hcs c0 hm0
      have nrcd : nr ≠ cd := fun z => cdnr z.symm
      have nrfo : nr ≠ fo := fun z => fonr z.symm
      have cdfo : cd ≠ fo := fun z => focd z.symm
      have e6 : B3 cd nr fo (upd H6 cd (.lst ((cs1.map (·.1)).map (·.1)))) = B3 cd nr fo H6 := b3_q
      have ecd7 : upd H6 cd (.lst ((cs1.map (·.1)).map (·.1))) cd = some (.lst (cs1.map fun c => c.1.1)) := by rw [upd_same, map2_fst]
      have efo7 : upd H6 cd (.lst ((cs1.map (·.1)).map (·.1))) fo = some (.lst fs) := by rw [upd_ne focd]; exact efo6
      have rd7 : Rd (upd H6 cd (.lst ((cs1.map (·.1)).map (·.1)))) nr (.dK kvs) := by
        rcases I.rd with e | ⟨o, e⟩
        · exact .inl (by rw [upd_ne nrcd]; exact e)
        · exact .inr ⟨o, by rw [upd_ne nrcd]; exact e⟩
      generalize upd H6 cd (.lst ((cs1.map (·.1)).map (·.1))) = H7 at e6 ecd7 efo7 rd7
      have sB1 : ∀ {x u}, B3 cd nr fo H6 x = some u → H7 x = some u := fun {x u} z => b3_same _ _ (by rw [e6]; exact z)
      rw [hT0]
      refine ⟨T, _, rfl, .of (sB1 hT), rfl, _, _, rfl, _, _, rfl, _, _, rfl, _, _, rfl, _, _, rfl, rfl, ?_⟩
      refine nx_of ?_
      -- found.append((total, road))
      refine ⟨.ref fo, rfl, .inl ⟨rfl, _, .inl (.inl efo7)⟩, .int c0.2.tot, rfl, .ref R, rfl, by show 2 ≤ sizeLine; decide, fun T2 nT2 => ?_⟩
      have sT2 := same_upd (o := .tup [.int c0.2.tot, .ref R]) nT2
      generalize upd H7 T2 (.tup [.int c0.2.tot, .ref R]) = H8 at sT2
      refine ⟨fo, fs, .ref T2, rfl, rfl, sT2 _ _ efo7, Nat.lt_of_le_of_lt (m := 8) (by omega) (by decide), ?_⟩
      have e8 : B3 cd nr fo (upd H8 fo (.lst (fs ++ [.ref T2]))) = B3 cd nr fo H8 := b3_f
      have ecd9 : upd H8 fo (.lst (fs ++ [.ref T2])) cd = some (.lst (cs1.map fun c => c.1.1)) := by rw [upd_ne cdfo]; exact sT2 _ _ ecd7
      have efo9 : upd H8 fo (.lst (fs ++ [.ref T2])) fo = some (.lst (fs ++ [.ref T2])) := upd_same
      have rd9 : Rd (upd H8 fo (.lst (fs ++ [.ref T2]))) nr (.dK kvs) := by
        rcases rd7 with e | ⟨o, e⟩
        · exact .inl (by rw [upd_ne nrfo]; exact sT2 _ _ e)
        · exact .inr ⟨o, by rw [upd_ne nrfo]; exact sT2 _ _ e⟩
      generalize upd H8 fo (.lst (fs ++ [.ref T2])) = H9 at e8 ecd9 efo9 rd9
      have s69 : Same (B3 cd nr fo H6) (B3 cd nr fo H9) := by
        rw [← e6, e8]
        exact b3_mono sT2
      have hR9 := s69 _ _ hR
      have hP9 := s69 _ _ hP
      have hU9 := s69 _ _ hU
      obtain ⟨rest, rne, erp⟩ := cok.pre
      have lrp : c0.2.r.length = c0.2.p.length + rest.length := by rw [erp, List.length_append]
      have rl := cok.rl
      have lfs9 : (fs ++ [V.ref T2]).length = i + 1 := by rw [List.length_append, lfs]; rfl
      have I9 : BkI K N (.ref p0) nr cd fo L kvs H1 (i + 1) (i + 1) (1 + 400 * i) H9 := ⟨I.s.trans s69, rd9, cs1, fs ++ [.ref T2], ecd9, efo9, (fun x hx => (List.mem_append.mp hx).elim (rfs x) fun h => ⟨T2, List.mem_singleton.mp h⟩), lfs9, fun c hc => by
        obtain ⟨h1, h2, h3⟩ := hcs c (hp'.mem_iff.mp (List.mem_cons_of_mem _ hc))
        exact ⟨h1.to s69, h2, h3.mono⟩, hheap2, by omega⟩
      refine g_forR2 (lo := (c0.2.p.length : Nat)) (n := (c0.2.r.length : Nat)) (va_cons (vl_lenI (K := K) (vl_var rfl) (.of (b3_same _ _ hP9))) (va_cons (vl_lenI (K := K) (vl_var rfl) (.of (b3_same _ _ hR9))) va_nil)) ⟨by omega, by omega, by omega, by omega⟩
        (fun a σ' H' => ∃ y12 y13 y14 : Option V, σ' = [some (.ref p0), some (.int st), some (.int g), some (.int c), some (.ref nr), some (.ref cd), some (.ref fo), some (.int c0.2.tot), some (.int c0.2.cnt), some (.ref R), some (.ref Pf), some (.ref U), y12, y13, y14] ∧ Same (B3 cd nr fo H9) (B3 cd nr fo H') ∧ BkI K N (.ref p0) nr cd fo L kvs H1 (i + 1) (i + 1) (1 + 400 * i + a) H')
        ⟨_, _, _, rfl, Same.refl _, I9⟩ (fun a σ' Ha hal hP' => ?_) (fun σ' H' hP' => ?_)
      · obtain ⟨z12, z13, z14, rfl, s9a, I'⟩ := hP'
        have hRa := s9a _ _ hR9
        have hPa := s9a _ _ hP9
        have hUa := s9a _ _ hU9
        have hal' : c0.2.p.length + a < c0.2.r.length := by omega
        obtain ⟨x, hx⟩ : ∃ x, c0.2.r[c0.2.p.length + a]? = some x := ⟨_, List.getElem?_eq_getElem hal'⟩
        have tl := cok.tl
        have hat : atI (c0.2.r.map V.int) (((c0.2.p.length : Nat) : Int) + ((a : Nat) : Int)) = some (.int x) := by
          rw [show ((c0.2.p.length : Nat) : Int) + ((a : Nat) : Int) = ((c0.2.p.length + a : Nat) : Int) by omega]
          exact atI_nat (by rw [List.getElem?_map, hx]; rfl)
        -- followers
        refine q_asgE (vn_ifB (xs := (if a = 0 then c0.2.t ++ [x] else [x]).map V.int) (b := decide (a = 0)) (an_test ((vl_eq (vl_var rfl) (vl_lenI (K := K) (vl_var rfl) (.of (b3_same _ _ hPa))) rfl).is ?_)) (fun hz => ?_) (fun hz => ?_) _ fun fl Hf sf nfl efl => ?_)
        · have : (V.int (((c0.2.p.length : Nat) : Int) + ((a : Nat) : Int)) = V.int ((c0.2.p.length : Nat) : Int)) ↔ a = 0 := ⟨fun h => by
            have := V.int.inj h
            omega, fun h => by rw [h]; simp⟩
          rw [decide_eq_decide.mpr this]
        · rw [if_pos (of_decide_eq_true hz)]
          exact vn_catL (vl_var rfl) (b3_same _ _ hUa) (vn_oneI (vl_ixL (K := K) (vl_var rfl) (vl_var rfl) (.of (b3_same _ _ hRa)) hat)) (by show c0.2.t.length + 1 ≤ 1000000; omega)
        · rw [if_neg (of_decide_eq_false hz)]
          exact vn_oneI (vl_ixL (K := K) (vl_var rfl) (vl_var rfl) (.of (b3_same _ _ hRa)) hat)
        have lfol : (if a = 0 then c0.2.t ++ [x] else [x]).length ≤ i + 2 := by
          by_cases c : a = 0
          · rw [if_pos c, List.length_append]
            show c0.2.t.length + 1 ≤ i + 2
            omega
          · rw [if_neg c]
            show 1 ≤ i + 2
            omega
        generalize (if a = 0 then c0.2.t ++ [x] else [x]) = fols at efl lfol
        obtain ⟨cs3, fs3, k1, k2, k0, k3, k4, k5, k6⟩ := I'.ex
        have hnra : Ha nr ≠ none := fun e => by
          rcases I'.rd with e' | ⟨o, e'⟩ <;> rw [e] at e' <;> cases e'
        have flnr : fl ≠ nr := fun z => hnra (by rw [← z]; exact nfl)
        have flcd : fl ≠ cd := fun z => ne_ofN k1 nfl z.symm
        have flfo : fl ≠ fo := fun z => ne_ofN k2 nfl z.symm
        refine ⟨.ref p0, rfl, .ref nr, rfl, .int g, rfl, (vn_toI (K := K) (ns := c0.2.r) (j := c0.2.p.length + a) (vl_var rfl) ((vl_var rfl).is (congrArg V.int (by omega))) (.of (sf _ _ (b3_same _ _ hRa))) (by omega)) _ fun pf2 Hg s6 npf2 epf2 => ⟨.ref fl, rfl, ?_⟩⟩
        have sag := sf.trans s6
        have npfa : Ha pf2 = none := Same.free sf npf2
        have pfnr2 : pf2 ≠ nr := fun z => hnra (by rw [← z]; exact npfa)
        have pfcd2 : pf2 ≠ cd := fun z => ne_ofN k1 npfa z.symm
        have pffo2 : pf2 ≠ fo := fun z => ne_ofN k2 npfa z.symm
        have plen : 0 < c0.2.p.length := List.length_pos_iff.mpr cok.pne
        have ltk : (c0.2.r.take (c0.2.p.length + a)).length = c0.2.p.length + a := by rw [List.length_take]; omega
        have tkne : c0.2.r.take (c0.2.p.length + a) ≠ [] := fun z => by
          rw [z] at ltk
          have : 0 = c0.2.p.length + a := ltk
          omega
        obtain ⟨cc, hcc⟩ := Option.isSome_iff_exists.mp (rsN_pre (N := N) (q := c0.2.r.drop (c0.2.p.length + a)) tkne (by rw [List.take_append_drop]; exact cok.re))
        generalize c0.2.r.take (c0.2.p.length + a) = tkp at epf2 ltk tkne hcc
        refine ⟨.ref p0, N, nr, pf2, fl, g, L, kvs, tkp, fols, cc, rfl, Dp.to hN1 ((I'.s.trans b3_but).trans (but_mono sag)), ok, hR1.to ((I'.s.trans b3_but).trans (but_mono sag)) ?_, by rw [but_ne pfnr2]; exact epf2, by rw [but_ne flnr]; exact s6 _ _ efl, tkne, by omega, by omega, hcc, fun H10 q2 s10 hR10 nq2 hC2 => ?_⟩
        · rcases I'.rd with e | ⟨o, e⟩
          · exact .inl (sag _ _ e)
          · exact .inr ⟨o, sag _ _ e⟩
        have sa10 : Same (but Ha nr) (but H10 nr) := (but_mono sag).trans s10
        have nqa : Ha q2 = none := Same.free sag nq2
        have q2nr : q2 ≠ nr := fun z => hnra (by rw [← z]; exact nqa)
        have q2cd : q2 ≠ cd := fun z => ne_ofN k1 nqa z.symm
        have q2fo : q2 ≠ fo := fun z => ne_ofN k2 nqa z.symm
        have sB10 : Same (B3 cd nr fo Ha) (B3 cd nr fo H10) := b3_of sa10
        have ecd10 : H10 cd = some (.lst (cs3.map fun c => c.1.1)) := by
          have := sa10 cd _ (by rw [but_ne cdnr]; exact k1)
          rwa [but_ne cdnr] at this
        have efo10 : H10 fo = some (.lst fs3) := by
          have := sa10 fo _ (by rw [but_ne fonr]; exact k2)
          rwa [but_ne fonr] at this
        have I10 : BkI K N (.ref p0) nr cd fo L kvs H1 (i + 1) (i + 1) (1 + 400 * i + a) H10 := ⟨I'.s.trans sB10, hR10.rd, cs3, fs3, ecd10, efo10, k0, k3, fun c hc => ⟨(k4 c hc).1.to sB10, (k4 c hc).2⟩, k5, k6⟩
        rcases hC2 with e | ⟨T3, R3, tot, cnt, path, e1, e2, e3, ne, lp, hre⟩
        · rw [but_ne q2nr] at e
          refine ⟨q2, rfl, ⟨_, .of e⟩, for_list (xs := []) (fun _ σ' H' => σ' = [some (.ref p0), some (.int st), some (.int g), some (.int c), some (.ref nr), some (.ref cd), some (.ref fo), some (.int c0.2.tot), some (.int c0.2.cnt), some (.ref R), some (.ref Pf), some (.ref U), some (.int (((c0.2.p.length : Nat) : Int) + ((a : Nat) : Int))), some (.ref fl), z14] ∧ H' = H10) ⟨rfl, rfl⟩ (fun _ _ _ _ h => by rw [h.2]; exact .of e) (fun _ _ _ _ hx => by cases hx) (fun σ' H' h => ?_)⟩
          obtain ⟨rfl, rfl⟩ := h
          exact ⟨_, _, _, rfl, s9a.trans sB10, I10.s, I10.rd, cs3, fs3, ecd10, efo10, k0, k3, fun c hc => ⟨(k4 c hc).1.to sB10, (k4 c hc).2⟩, k5, by omega⟩
        · rw [but_ne q2nr] at e1
          have T3nr : T3 ≠ nr := fun z => by
            rw [z, but_at] at e2
            cases e2
          have R3nr : R3 ≠ nr := fun z => by
            rw [z, but_at] at e3
            cases e3
          rw [but_ne T3nr] at e2
          rw [but_ne R3nr] at e3
          have rcs : ∀ x ∈ (cs3.map fun c : HB × Cnd => c.1.1), ∃ a, x = V.ref a := fun x hx => by
            obtain ⟨c, hc, rfl⟩ := List.mem_map.mp hx
            obtain ⟨T', _, _, _, e', _⟩ := (k4 c hc).1
            exact ⟨T', e'⟩
          have nR : ∀ {b : Addr} {ys : List V}, H10 b = some (.lst ys) → (∀ y ∈ ys, ∃ a, y = V.ref a) → R3 ≠ b := fun {b ys} e' h' z => by
            rw [z, e'] at e3
            have e3 := HO.lst.inj (Option.some.inj e3)
            exact ints_refs (l := tkp ++ path) (fun z => ne (List.append_eq_nil_iff.mp z).2) h' e3
          have T3cd : T3 ≠ cd := fun z => by
            rw [z, ecd10] at e2
            cases e2
          have T3fo : T3 ≠ fo := fun z => by
            rw [z, efo10] at e2
            cases e2
          have hcv : CV (B3 cd nr fo H10) (.ref T3) ⟨tot, cnt, tkp ++ path, tkp, fols⟩ := ⟨T3, R3, pf2, fl, rfl, by rw [b3_ne T3cd T3nr T3fo]; exact e2, by rw [b3_ne (nR ecd10 rcs) R3nr (nR efo10 k0)]; exact e3, by
            rw [b3_ne pfcd2 pfnr2 pffo2]
            have := s10 pf2 _ (by rw [but_ne pfnr2]; exact epf2)
            rwa [but_ne pfnr2] at this, by
            rw [b3_ne flcd flnr flfo]
            have := s10 fl _ (by rw [but_ne flnr]; exact s6 _ _ efl)
            rwa [but_ne flnr] at this⟩
          have hcok : CndOk N (i + 1) ⟨tot, cnt, tkp ++ path, tkp, fols⟩ := ⟨tkne, ⟨path, ne, rfl⟩, by
            show (tkp ++ path).length ≤ 41 * (i + 1 + 1)
            rw [List.length_append]
            omega, lfol, hre⟩
          refine ⟨q2, rfl, ⟨_, .of e1⟩, for_list (xs := [.ref T3]) (fun j σ' H' => ∃ z14, σ' = [some (.ref p0), some (.int st), some (.int g), some (.int c), some (.ref nr), some (.ref cd), some (.ref fo), some (.int c0.2.tot), some (.int c0.2.cnt), some (.ref R), some (.ref Pf), some (.ref U), some (.int (((c0.2.p.length : Nat) : Int) + ((a : Nat) : Int))), some (.ref fl), z14] ∧ H' q2 = some (.lst [.ref T3]) ∧ (j = 0 → H' = H10) ∧ (j = 1 → Same (B3 cd nr fo H10) (B3 cd nr fo H') ∧ BkI K N (.ref p0) nr cd fo L kvs H1 (i + 1) (i + 1) (1 + 400 * i + (a + 1)) H')) ⟨_, rfl, e1, fun _ => rfl, fun h => by cases h⟩ (fun _ _ _ _ h => .of h.choose_spec.2.1) (fun j x σ' H' hx hP' => ?_) (fun σ' H' hP' => ?_)⟩
          · have j0 : j = 0 := by
              have := (List.getElem?_eq_some_iff.mp hx).1
              have : j < 1 := this
              omega
            subst j0
            cases hx
            obtain ⟨z14', rfl, _, h0, _⟩ := hP'
            cases h0 rfl
            refine ⟨.ref cd, rfl, .ref T3, rfl, cd, cs3.map (fun c : HB × Cnd => c.1), (.ref T3, Cnd.d ⟨tot, cnt, tkp ++ path, tkp, fols⟩), rfl, by rw [map2_fst]; exact ecd10, by rw [List.length_map]; exact Nat.lt_of_le_of_lt (m := 4000) (by omega) (by decide), ?_, k5, fun cs5 hperm5 hheap5 => ?_⟩
            · have := hqOk_cnd (K := K) (q := cd) (kd := nr) (fd := fo) (H := H10) (cs := cs3 ++ [((.ref T3, Cnd.d ⟨tot, cnt, tkp ++ path, tkp, fols⟩), ⟨tot, cnt, tkp ++ path, tkp, fols⟩)]) fun c hc => by
                rcases List.mem_append.mp hc with hc | hc
                · exact ⟨(k4 c hc).1.to sB10, (k4 c hc).2.1⟩
                · rw [List.mem_singleton] at hc
                  subst hc
                  exact ⟨hcv, rfl⟩
              rw [List.map_append] at this
              exact this
            · obtain ⟨cs6, hp6, e6'⟩ := perm_map_inv hperm5 (f := fun c : HB × Cnd => c.1) (l := cs3 ++ [((.ref T3, Cnd.d ⟨tot, cnt, tkp ++ path, tkp, fols⟩), ⟨tot, cnt, tkp ++ path, tkp, fols⟩)]) (by rw [List.map_append]; rfl)
              subst e6'
              have e11 : B3 cd nr fo (upd H10 cd (.lst ((cs6.map fun c : HB × Cnd => c.1).map (·.1)))) = B3 cd nr fo H10 := b3_q
              have pl6 := hp6.length_eq
              rw [List.length_append] at pl6
              have pl6 : cs6.length = cs3.length + 1 := pl6
              refine ⟨_, rfl, by rw [upd_ne q2cd]; exact e1, (fun h => absurd h (by decide)), fun _ => ⟨by rw [e11]; exact Same.refl _, by rw [e11]; exact I10.s, ?_, cs6, fs3, by rw [upd_same, map2_fst], by rw [upd_ne focd]; exact efo10, k0, k3, fun c hc => ?_, hheap5, by omega⟩⟩
              · rcases I10.rd with e | ⟨o, e⟩
                · exact .inl (by rw [upd_ne nrcd]; exact e)
                · exact .inr ⟨o, by rw [upd_ne nrcd]; exact e⟩
              · rw [e11]
                rcases List.mem_append.mp (hp6.mem_iff.mp hc) with hc | hc
                · exact ⟨(k4 c hc).1.to sB10, (k4 c hc).2⟩
                · rw [List.mem_singleton] at hc
                  subst hc
                  exact ⟨hcv, rfl, hcok⟩
          · obtain ⟨z14', rfl, _, _, h1⟩ := hP'
            obtain ⟨h1, h2⟩ := h1 rfl
            exact ⟨_, _, _, rfl, (s9a.trans sB10).trans h1, h2⟩
      · obtain ⟨z12, z13, z14, rfl, _, I'⟩ := hP'
        refine ⟨m - 1, by omega, i + 1, _, _, _, _, _, _, _, _, rfl, by omega, I'.s, I'.rd, ?_⟩
        obtain ⟨cs3, fs3, k1, k2, k0, k3, k4, k5, k6⟩ := I'.ex
        exact ⟨cs3, fs3, k1, k2, k0, k3, k4, k5, by omega⟩
    · rw [if_neg hb]
      exact g_ret (vl_var rfl) (q _ _ (sEnd I.s))
end
/-! ### k37: what is told of a question -/
abbrev sTold37 : Stmt := topS 31
theorem scTold37 : FnScope ["net", "start", "goal", "count", "is_turns", "e"] ["net", "start", "goal", "count", "is_turns"] (defScope sTold37) := ⟨rfl, rfl, rfl, by decide +kernel, rfl, by decide +kernel, by decide +kernel⟩
/-- what the law's told gives: the word and the number -/
def told37 (n s g c : Int) (b : Bool) : Str × Int := if ¬ (0 ≤ s ∧ s < n) then ("place", s) else if ¬ (0 ≤ g ∧ g < n) then ("place", g) else if b = false ∧ ¬ (1 ≤ c ∧ c ≤ 8) then ("range", c) else ("told", 0)
def spTold37 (K : PySem.W.Frag) : Sp := fun vs H Q _ => ∃ (v : V) (N : Net) (s g c : Int) (b : Bool), vs = [v, .int s, .int g, .int c, .bl b] ∧ Dp K H v (netD N) ∧ NetOk N ∧ ∀ H' q, Same H H' → H q = none → H' q = some (.tup [.str (told37 N.n s g c b).1, .int (told37 N.n s g c b).2]) → Q (.ref q) H'
section
variable {P : Program} {w : World} {K : PySem.W.Frag} {mg : Str → Option Value} {base : Heap} {CP CR CT CB CE fI : Addr}
theorem ok_told37 {f : Addr} {fd : FuncData} {k k1 k2 : Nat} (l1 : k1 ≤ k) (l2 : k2 ≤ k) (F : Fun K "_law_told" "_law_told" sTold37 f fd) (hP : PySem.LowX.LowTxt K mg "NoPlace" CP fI) (hR : PySem.LowX.LowTxt K mg "OutOfRange" CR fI) (hE : NmAt mg "OverpassesError" CE) (BR : Apart K CR CP) (c_answer_with_turns : KalX P w K mg base k1 "answer_with_turns" ["net", "turns", "start", "goal"] (spAnsT K CP CT CB)) (c_best_roads : KalX P w K mg base k2 "best_roads" ["net", "start", "goal", "count"] (spBest K CP CR)) : FnOk P w K mg base CX0 (k + 1) f fd ["net", "start", "goal", "count", "is_turns"] (spTold37 K) := by
  refine F.ok scTold37 (fun vs H Q E h => ?_) (fun cdv A outer s H vs Q E hr h => ?_)
  · obtain ⟨v, N, st, g, c, b, rfl, _⟩ := h
    rfl
  · obtain ⟨v, N, st, g, c, b, rfl, hN, ok, q⟩ := h
    refine ⟨_, pss_cons (ps_try_cl (tb := fun W => tIfS (tB (tVar 4)) (tDrop (tCallS (spAnsT K CP CT CB) (WE W) (tCons (tVar 0) (tCons tDNewT (tCons (tVar 1) (tCons (tVar 2) tNil)))))) (tDrop (tCallS (spBest K CP CR) (WE W) (tCons (tVar 0) (tCons (tVar 1) (tCons (tVar 2) (tCons (tVar 3) tNil))))))) (Wout := fun _ _ _ _ => False) rfl rfl takes0 (fun W pn xe tk _ => (pss_one (ps_if (pt_val (pv 4))
        (pss_one (ps_expr (pe_ks c_answer_with_turns hr (by first | decide | omega) (by rfl) tk (pa_cons (pv 0) (pa_cons pe_dnewT (pa_cons (pv 1) (pa_cons (pv 2) pa_nil)))))))
        (pss_one (ps_expr (pe_ks c_best_roads hr (by first | decide | omega) (by rfl) tk (pa_cons (pv 0) (pa_cons (pv 1) (pa_cons (pv 2) (pa_cons (pv 3) pa_nil)))))))))) (.named (i := 5) (ts := fun a cls d => tRet (tTup (tCons (tC (.str "place")) (tCons (tByLow CP a cls d (tVar 5)) tNil)))) scTold37.nd rfl rfl ⟨rfl, by decide, .inl hP.gC⟩ (fun a oe cls d pn hz hf => (pss_one (ps_ret (pe_tup (pa_cons pe_str (pa_cons (pe_byLow hP hz hf (pv 5)) pa_nil)))))) (.named (i := 5) (ts := fun a cls d => tRet (tTup (tCons (tC (.str "range")) (tCons (tByLow CR a cls d (tVar 5)) tNil)))) scTold37.nd rfl rfl ⟨rfl, by decide, .inl hR.gC⟩ (fun a oe cls d pn hz hf => (pss_one (ps_ret (pe_tup (pa_cons pe_str (pa_cons (pe_byLow hR hz hf (pv 5)) pa_nil)))))) (.bare (ts := fun a cls d => tRet (tTup (tCons (tC (.str "other")) (tCons (tC (.int 0)) tNil)))) ⟨rfl, by decide, .inl hE.gC⟩ (fun a oe cls d pn hz hf => (pss_one (ps_ret (pe_tup (pa_cons pe_str (pa_cons pe_int pa_nil)))))) .nil))))
      (pss_one (ps_ret (pe_tup (pa_cons pe_str (pa_cons pe_int pa_nil))))), ?_⟩
    have fin : ∀ (x : Str) (z : Int) (H' : Hp) (q1 : Addr), told37 N.n st g c b = ((x, z) : Str × Int) → Same H H' → H' q1 = none → Q (.ref q1) (upd H' q1 (.tup [.str x, .int z])) := fun x z H' q1 e s' n' => q _ _ (s'.trans (same_upd n')) (Same.free s' n') (by rw [e]; exact upd_same)
    refine ⟨.bl b, rfl, b, rfl, ?_⟩
    cases b with
    | true =>
      rw [if_pos rfl]
      refine ⟨v, rfl, fun td ntd => ⟨.int st, rfl, .int g, rfl, ?_⟩⟩
      have std := same_upd (o := .dT []) ntd
      refine ⟨v, N, td, [], [], [], st, g, rfl, Dp.to hN std, ok, upd_same, ⟨rfl, .nil, fun z hz => nomatch hz⟩, Nat.zero_le _, .nil, .nil, fun hs => fun H' d s' hd => ⟨true, hP.te, fun _ a0 _ => (vl_byLow (vl_var rfl) hd) _ ⟨by show 2 ≤ sizeLine; decide, fun q1 nq => fin _ _ _ q1 (if_pos hs) (std.trans s') nq⟩, fun z => nomatch z⟩, fun hs hg => fun H' d s' hd => ⟨true, hP.te, fun _ a0 _ => (vl_byLow (vl_var rfl) hd) _ ⟨by show 2 ≤ sizeLine; decide, fun q1 nq => fin _ _ _ q1 (by unfold told37; rw [if_neg (fun z => z hs), if_pos hg]) (std.trans s') nq⟩, fun z => nomatch z⟩, fun hs hg => ⟨fun i e => (nomatch e), fun _ i e => (nomatch e), fun _ _ H' T Lw tot run C s' _ _ _ _ => ⟨by show 2 ≤ sizeLine; decide, fun q1 nq => fin _ _ _ q1 (by unfold told37; rw [if_neg (fun z => z hs), if_neg (fun z => z hg)]; rfl) (std.trans s') nq⟩⟩⟩
    | false =>
      rw [if_neg Bool.false_ne_true]
      refine ⟨v, rfl, .int st, rfl, .int g, rfl, .int c, rfl, v, N, st, g, c, rfl, hN, ok, fun hs => fun H' d s' hd => ⟨true, hP.te, fun _ a0 _ => (vl_byLow (vl_var rfl) hd) _ ⟨by show 2 ≤ sizeLine; decide, fun q1 nq => fin _ _ _ q1 (if_pos hs) (s') nq⟩, fun z => nomatch z⟩, fun hs hg => fun H' d s' hd => ⟨true, hP.te, fun _ a0 _ => (vl_byLow (vl_var rfl) hd) _ ⟨by show 2 ≤ sizeLine; decide, fun q1 nq => fin _ _ _ q1 (by unfold told37; rw [if_neg (fun z => z hs), if_pos hg]) (s') nq⟩, fun z => nomatch z⟩, fun hs hg => ⟨fun hc => ?_, fun hc H' r s' => ⟨by show 2 ≤ sizeLine; decide, fun q1 nq => fin _ _ _ q1 (by unfold told37; rw [if_neg (fun z => z hs), if_neg (fun z => z hg), if_neg (fun z => z.2 hc)]) s' nq⟩⟩⟩
      exact fun H' d s' hd => ⟨false, BR.no, (fun z => nomatch z), fun _ => ⟨true, hR.te, fun _ a0 _ => (vl_byLow (vl_var rfl) hd) _ ⟨by show 2 ≤ sizeLine; decide, fun q1 nq => fin _ _ _ q1 (by unfold told37; rw [if_neg (fun z => z hs), if_neg (fun z => z hg), if_pos ⟨rfl, hc⟩]) s' nq⟩, fun z => nomatch z⟩⟩
end
section
variable {prog : Program} {w : World} {A : Around} {E : Value → Shared → Prop} {s : Shared}
/-- the places of [::-1] in a pair -/
theorem rev2_places {sl : Addr} {vs : Value} {Q : Int × Int × Nat → Shared → Prop} (slc : s.heap.IsSliceOf sl .none .none vs) (minus : IsPart vs (some (-1))) (goal_ : Q (1, -1, 2) s) : wpAny (model prog w) A (Builtin.Slice.sliceApplied (.ref sl) (pure ((2 : Nat) : Int))) Q E s := by
  obtain ⟨ob, look, _, data⟩ := id slc
  unfold Builtin.Slice.sliceApplied Builtin.Slice.sliceFields
  refine wpAny_bind (wpAny_bind (wpAny_field look data (x := .none) rfl (wpAny_bind (wpAny_field look data (x := .none) rfl (wpAny_bind (wpAny_field look data (x := vs) rfl (wpAny_pure (wpAny_bind (HT.slicePart_ minus ?_)))))))))
  dsimp only
  rw [if_neg (show ¬ (((some (-1 : Int)).getD 1 == 0) = true) by decide)]
  refine wpAny_bind (HT.slicePart_ .none (wpAny_bind (HT.slicePart_ .none (wpAny_bind (wpAny_pure ?_)))))
  exact wpAny_pure goal_
theorem rev2_get {t sl : Addr} {x y vs : Value} {Q : Value → Shared → Prop} (tup : IsTup s.heap t #[x, y]) (slc : s.heap.IsSliceOf sl .none .none vs) (minus : IsPart vs (some (-1)))
    (goal_ : Q (.ref s.heap.objs.size) { s with heap := s.heap.push { cls := .type "tuple", data := .seq #[y, x] } }) : wpAny (model prog w) A (getItem (.ref t) (.ref sl)) Q E s := by
  obtain ⟨ob, look, kind, data⟩ := id slc
  have small : sizeOk (.seq #[y, x]) := by
    show (2 : Nat) ≤ sizeLine
    decide
  unfold getItem
  try with_reducible refine wpAny_holding ?_
  first | refine wpAny_bind (wpAny_pure ?_) | skip
  refine wpAny_bind (wpAny_sequenceKey tup.typeIs (by decide) (wpAny_bind (wpAny_callSpecial?_slot (name := Str.ofString "__getitem__") tup.typeIs PyProof.Rows.slot_tuple_getitem (wpAny_call_entry PyProof.Rows.slot_tuple_getitem tup.typeIs PyProof.Rows.entry_tuple_getitem ?_ (PyProof.Rows.args_tuple_getitem _ _)))))
  refine wpAny_bind (m := Builtin.Tuple.tupleItemsOf (.ref t)) (tupleItemsOf_ tup (wpAny_bind (wpAny_typeOf ⟨ob, look, kind⟩ ?_)))
  rw [if_pos (by decide)]
  refine wpAny_bind (rev2_places slc minus ?_)
  show wpAny _ _ (if ((1 : Int) == 0 && (-1 : Int) == 1 && (2 : Nat) == 2) = true then _ else _) _ _ s
  rw [if_neg (by decide)]
  have pick : ((List.range 2).filterMap fun (k : Nat) => (#[x, y] : Array Value)[((1 : Int) + (k : Int) * -1).toNat]?).toArray = #[y, x] := by
    rw [show List.range 2 = [0, 1] from rfl]
    rfl
  rw [pick]
  first
    | exact wpAny_bind (m := Builtin.Tuple.tupleExact _) (wpAny_newObj_type (wpAny_pure ⟨_, rfl, wpAny_pure goal_⟩) small)
    | exact wpAny_bind (m := Builtin.Tuple.tupleExact _) (wpAny_newObj_type (wpAny_bind (wpAny_pure (wpAny_pure ⟨_, rfl, wpAny_pure goal_⟩))) small)
    | exact wpAny_bind (wpAny_bind (m := Builtin.Tuple.tupleExact _) (wpAny_newObj_type (wpAny_pure (wpAny_pure ⟨_, rfl, wpAny_pure goal_⟩)) small))
    | exact wpAny_bind (wpAny_bind (m := Builtin.Tuple.tupleExact _) (wpAny_newObj_type (wpAny_pure ⟨_, rfl, wpAny_pure goal_⟩) small))
end
theorem two_vals {x y : V} {its : List Value} (r : Vals [x, y] its) : ∃ i1 i2, its = [i1, i2] ∧ RelV x i1 ∧ RelV y i2 := by
  cases r with
  | cons a r =>
    cases r with
    | cons b r =>
      cases r
      exact ⟨_, _, rfl, a, b⟩
/-- t[::-1], t a pair -/
def tRevT (K : PySem.W.Frag) (te : TE) : TE := fun σ H Q => te σ H fun v H1 => ∃ a x y, v = .ref a ∧ SqT K H1 a [x, y] ∧ ∀ p, H1 p = none → Q (.ref p) (upd H1 p (.tup [y, x]))
theorem pe_revT {X : Cx} {e : Expr} {te : TE} {k : Nat} {p1 p2 p3 pos : Pos} (sub : PE X e te) : PE X (.Subscript e (.Slice none none (some (.UnaryOp .USub (.Constant (.int 1) k p1) p2)) p3) pos) (tRevT X.K te) := by
  refine ⟨fun pins s σ H Q I want => Subscript_ (thn (sub.run pins s σ H _ I want) fun v s1 ⟨x0, H1, I1, r1, q1⟩ => ?_)⟩
  obtain ⟨a, x, y, ex, hx, q⟩ := q1
  subst ex
  cases r1
  have part : PO X (some (.UnaryOp .USub (.Constant (.int 1) k p1) p2)) (tPart (tUn (rU fun i => .int (-i)) (tC (.int 1)))) := po_some (pe_un un_neg pe_int)
  refine wpAny_Slice (thn (po_none.run pins s1 σ H1 (fun o Ha => o = none ∧ Ha = H1) I1 ⟨rfl, rfl⟩) fun vl s2 ⟨l, H2, I2, pl, el, e2⟩ => ?_)
  cases el
  cases e2
  refine thn (po_none.run pins s2 σ H1 (fun o Ha => o = none ∧ Ha = H1) I2 ⟨rfl, rfl⟩) fun vu s3 ⟨u, H3, I3, pu, eu, e3⟩ => ?_
  cases eu
  cases e3
  refine thn (part.run pins s3 σ H1 (fun o Ha => o = some (-1) ∧ Ha = H1) I3 ⟨1, rfl, -1, rfl, rfl, rfl⟩) fun vs s4 ⟨o, H4, I4, ps, eo, e4⟩ => ?_
  cases eo
  cases e4
  have J : Inv X pins σ H1 { s4 with heap := s4.heap.push { cls := .type "slice", data := .fields #[vl, vu, vs] } } := I4.kept (t' := s4.toks) fun b ob look => Heap.get?_push_of_some _ look
  obtain ⟨its, r, tup, sz⟩ := J.tuple hx
  cases pl
  cases pu
  obtain ⟨i1, i2, ei, c1, c2⟩ := two_vals r
  subst ei
  have tup : IsTup (s4.heap.push { cls := .type "slice", data := .fields #[.none, .none, vs] }) a #[i1, i2] := tup
  show wpAny (model X.prog X.w) X.A (subscriptTail e (.Slice none none (some (.UnaryOp .USub (.Constant (.int 1) k p1) p2)) p3) (.ref a) (.ref s4.heap.objs.size)) (EP X pins σ Q) X.xe { s4 with heap := s4.heap.push { cls := .type "slice", data := .fields #[.none, .none, vs] } }
  refine tail_any (ops := [.ref a, .ref s4.heap.objs.size]) tup.typeIs PyProof.Rows.slot_tuple_getitem.lookup ?_ (by with_unfolding_all rfl)
  refine rev2_get tup (Heap.IsSliceOf.new _ .none .none vs) ps ⟨.ref _, _, J.laid (t' := s4.toks) (o := .tup [y, x]) (fun b ob look => Heap.get?_push_of_some _ look) (Nat.le_refl _) ?_, rfl, q _ (J.hok.fresh (Nat.le_refl _))⟩
  exact ⟨by show 2 ≤ sizeLine; decide, _, .cons c2 (.cons c1 .nil), IsTup.new _ _⟩
/-! ### the law's turns -/
theorem mem_putT {kvs : List (List L2.Key × V)} {k : List L2.Key} {v : V} {p : List L2.Key × V} (hp : p ∈ putK kvs k v) : p ∈ kvs ∨ p = (k, v) := by
  unfold putK at hp
  split at hp
  · obtain ⟨z, hz, e⟩ := List.mem_map.mp hp
    split at e
    · rename_i c
      rw [c] at e
      exact .inr e.symm
    · rw [← e]
      exact .inl hz
  · rcases List.mem_append.mp hp with hp | hp
    · exact .inl hp
    · exact .inr (List.mem_singleton.mp hp)
theorem TrnOk.put {kvs : List (List L2.Key × V)} (h : TrnOk kvs) (hl : kvs.length < 100) {a b c : Int} {o : Option Int} (h1 : (0 ≤ a ∧ a ≤ 40) ∧ (0 ≤ b ∧ b ≤ 40) ∧ (0 ≤ c ∧ c ≤ 40)) (h2 : ∀ x, o = some x → 0 ≤ x ∧ x ≤ 1000000) : TrnOk (putK kvs [Sum.inl a, Sum.inl b, Sum.inl c] (oV o)) := by
  refine ⟨Nat.le_trans put_len hl, fun p hp => ?_⟩
  rcases mem_putT hp with hp | hp
  · exact h.at_ p hp
  · exact ⟨a, b, c, o, hp, h1, h2⟩
theorem lay_lnk9 (l : Lnk) : (lnkD l).canLay0 = true ∧ (lnkD l).depth = 1 := by
  obtain ⟨h1, h2⟩ := lay_o l.t
  obtain ⟨h3, h4⟩ := lay_o l.k
  constructor
  · show (true && (true && ((oD l.t).canLay0 && ((oD l.k).canLay0 && true)))) = true
    rw [h1, h3]
    rfl
  · show max 0 (max 0 (max (oD l.t).depth (max (oD l.k).depth 0))) + 1 = 1
    rw [h2, h4]
    rfl
theorem shaped_lnks (ls : List Lnk) : SeqAt.shaped (.list (ls.map lnkD)) = true := by
  have h : ∀ ls : List Lnk, PyData.canLayAll0 (ls.map lnkD) = true ∧ PyData.depthAll (ls.map lnkD) ≤ 1 := fun ls => by
    induction ls with
    | nil => exact ⟨rfl, Nat.zero_le _⟩
    | cons l ls ih =>
      obtain ⟨g1, g2⟩ := lay_lnk9 l
      constructor
      · show ((lnkD l).canLay0 && PyData.canLayAll0 (ls.map lnkD)) = true
        rw [g1, ih.1]
        rfl
      · show max (lnkD l).depth (PyData.depthAll (ls.map lnkD)) ≤ 1
        rw [g2]
        have := ih.2
        omega
  have hl := h ls
  show (PyData.canLayAll0 (ls.map lnkD) && decide (PyData.depthAll (ls.map lnkD) + 1 ≤ 64)) = true
  rw [hl.1]
  have := hl.2
  exact decide_eq_true (by omega)
theorem eqv_nil {ds : List PyData} : PyData.eqv (.list ds) (.list []) = decide (ds = []) := by
  cases ds with
  | nil => rfl
  | cons d ds => rfl
section
variable {K : PySem.W.Frag} {σ : L2.St} {H : Hp} {ta te : TE}
theorem ax_op9 {tb : TE} {r : R2} {b : Bool} (h : ∀ Q : Bool → Hp → Prop, (∀ H', Same H H' → Q b H') → ta σ H fun x H1 => tb σ H1 fun y H2 => r x y H2 fun z H3 => ∃ b', z = .bl b' ∧ Q b' H3) : Ax (tTest (tOp r ta tb)) σ H b := h
/-- xs != [] -/
theorem ax_neNil {a : Addr} {xs : List V} {ds : List PyData} (ha : Vl ta σ H (.ref a)) (hx : SqL K H a xs) (hd : DpAll K H xs ds) (sh : SeqAt.shaped (.list ds) = true) : Ax (tTest (tOp (rNeD K) ta (tLst tNil))) σ H (!decide (ds = [])) := ax_op9 fun Q k => ha _ ⟨Nat.zero_le _, fun L nL => ⟨.list ds, .list [], .lst ((same_upd nL).seq hx) (DpAll.to hd (same_upd nL)), .lst (.of upd_same) .nil, sh, rfl, _, rfl, by
  rw [eqv_nil]
  exact k _ (same_upd nL)⟩⟩
theorem ax_eqNil {a : Addr} {xs : List V} {ds : List PyData} (ha : Vl ta σ H (.ref a)) (hx : SqL K H a xs) (hd : DpAll K H xs ds) (sh : SeqAt.shaped (.list ds) = true) : Ax (tTest (tOp (rEqD K) ta (tLst tNil))) σ H (decide (ds = [])) := ax_op9 fun Q k => ha _ ⟨Nat.zero_le _, fun L nL => ⟨.list ds, .list [], .lst ((same_upd nL).seq hx) (DpAll.to hd (same_upd nL)), .lst (.of upd_same) .nil, sh, rfl, _, rfl, by
  rw [eqv_nil]
  exact k _ (same_upd nL)⟩⟩
/-- t[:2] of a tuple of four -/
theorem mk_cut2 {a : Addr} {x y z u : V} {Q : VK} (ha : Vl ta σ H (.ref a)) (hx : SqT K H a [x, y, z, u]) (k : ∀ p, H p = none → Q (.ref p) (upd H p (.tup [x, y]))) : tSl (rSlT K) ta tNoPart (tPart (tC (.int 2))) σ H Q := ha _ ⟨2, rfl, a, _, rfl, hx, by show ¬ (HT.sIx 4 0 none = 0 ∧ HT.sIx 4 4 (some 2) = 4); decide, k⟩
/-- t[:2], t[:2][::-1]: one of the two -/
theorem mk_way2 {a : Addr} {x y z u : V} {Q : VK} {tb : TE} {i : Nat} (hi : i < 2) (ha : ∀ H', Vl ta σ H' (.ref a)) (hx : SqT K H a [x, y, z, u]) (hb : ∀ H', Vl tb σ H' (.int (i : Nat))) (k : ∀ H' p, Same H H' → H' p = some (.tup (if i = 0 then [x, y] else [y, x])) → Q (.ref p) H') :
    tOp (rIxL K) (tLst (tCons (tSl (rSlT K) ta tNoPart (tPart (tC (.int 2)))) (tCons (tRevT K (tSl (rSlT K) ta tNoPart (tPart (tC (.int 2))))) tNil))) tb σ H Q := by
  refine mk_cut2 (ha _) hx fun T1 n1 => ?_
  have s1 := same_upd (o := .tup [x, y]) n1
  have e1 := upd_same (H := H) (a := T1) (o := .tup [x, y])
  generalize upd H T1 (.tup [x, y]) = H1 at s1 e1
  refine mk_cut2 (K := K) (ha _) (seqT s1 hx) fun T2 n2 => ⟨T2, x, y, rfl, .of upd_same, fun T3 n3 => ?_⟩
  have s2 := (same_upd (o := .tup [x, y]) n2).trans (same_upd (o := .tup [y, x]) n3)
  have e3 := upd_same (H := upd H1 T2 (.tup [x, y])) (a := T3) (o := .tup [y, x])
  generalize upd (upd H1 T2 (.tup [x, y])) T3 (.tup [y, x]) = H3 at s2 e3
  refine ⟨by show 2 ≤ sizeLine; decide, fun L nL => ?_⟩
  have sL := same_upd (o := .lst [.ref T1, .ref T3]) nL
  refine hb _ _ ⟨L, [.ref T1, .ref T3], (i : Nat), if i = 0 then .ref T1 else .ref T3, rfl, rfl, .of upd_same, ?_, ?_⟩
  · have c : i = 0 ∨ i = 1 := by omega
    rcases c with rfl | rfl
    · exact atI_nat rfl
    · exact atI_nat rfl
  · by_cases c : i = 0
    · rw [if_pos c]
      refine k _ T1 (s1.trans (s2.trans sL)) ?_
      rw [if_pos c]
      exact sL _ _ (s2 _ _ e1)
    · rw [if_neg c]
      refine k _ T3 (s1.trans (s2.trans sL)) ?_
      rw [if_neg c]
      exact sL _ _ e3
end
def spTurns9 (K : PySem.W.Frag) : Sp := fun vs H Q _ => ∃ (d : Addr) (v : V) (N : Net) (ds : List Int) (k : Int), vs = [.ref d, .int k, v] ∧ SqL K H d (ds.map V.int) ∧ 0 ≤ k ∧ Dp K H v (netD N) ∧ NetOk N ∧ ∀ H' td kvs, Same H H' → H' td = some (.dT kvs) → TrnOk kvs → Q (.ref td) H'
theorem near_in {N : Net} (ok : NetOk N) {x c : Int} (h : c ∈ nearL N.ls x) : 0 ≤ c ∧ c < N.n := by
  unfold nearL at h
  rcases List.mem_append.mp h with h | h
  · obtain ⟨l, hl, rfl⟩ := List.mem_map.mp h
    have hk := ok.ok l (List.mem_filter.mp hl).1
    have a0 := hk.a0
    have ab := hk.ab
    have bn := hk.bn
    omega
  · obtain ⟨l, hl, rfl⟩ := List.mem_map.mp h
    have hk := ok.ok l (List.mem_filter.mp hl).1
    have a0 := hk.a0
    have ab := hk.ab
    have bn := hk.bn
    omega
theorem near_pos {ls : List Lnk} {l : Lnk} (hl : l ∈ ls) {x : Int} (c : x = l.a ∨ x = l.b) : 0 < (nearL ls x).length := by
  unfold nearL
  rw [List.length_append, List.length_map, List.length_map]
  rcases c with rfl | rfl
  · have := List.length_pos_of_mem (List.mem_filter.mpr ⟨hl, decide_eq_true rfl⟩ : l ∈ ls.filter fun z : Lnk => decide (z.a = l.a))
    omega
  · have := List.length_pos_of_mem (List.mem_filter.mpr ⟨hl, decide_eq_true rfl⟩ : l ∈ ls.filter fun z : Lnk => decide (z.b = l.b))
    omega
section
variable {P : Program} {w : World} {K : PySem.W.Frag} {mg : Str → Option Value} {base : Heap}
end
end Ovc
namespace PySem
open Sem (wp)
open PySem.W (kdx_alive)
abbrev IsZG (h : Heap) (z TI TO : Addr) (F0 F1 : Value) : Prop := h.get? z = some { cls := .type "zip", dict := none, data := .fields #[F0, F1, .bool false, .ref TI, .ref TO], slots := #[] }
abbrev IsTri (h : Heap) (T : Addr) (a b c : Value) : Prop := h.get? T = some { cls := .type "tuple", data := .seq #[a, b, c] }
/-- what a zip keeps of the tuple it gave out -/
def ZgOk (F0 F1 : Value) : Prop := (F0 = .none ∧ F1 = .bool false) ∨ ∃ (T : Addr) (f : Bool), F0 = rawInt T ∧ F1 = .bool f
structure ZApart3 (z TI TO i1 i2 i3 l1 l2 l3 : Addr) : Prop where
  TIz : TI ≠ z
  TOz : TO ≠ z
  i1z : i1 ≠ z
  i2z : i2 ≠ z
  i3z : i3 ≠ z
  TITO : TI ≠ TO
  TIi1 : TI ≠ i1
  TIi2 : TI ≠ i2
  TIi3 : TI ≠ i3
  TOi1 : TO ≠ i1
  TOi2 : TO ≠ i2
  TOi3 : TO ≠ i3
  i12 : i1 ≠ i2
  i13 : i1 ≠ i3
  i23 : i2 ≠ i3
  l1z : l1 ≠ z
  l1TO : l1 ≠ TO
  l1i1 : l1 ≠ i1
  l1i2 : l1 ≠ i2
  l1i3 : l1 ≠ i3
  l2z : l2 ≠ z
  l2TO : l2 ≠ TO
  l2i1 : l2 ≠ i1
  l2i2 : l2 ≠ i2
  l2i3 : l2 ≠ i3
  l3z : l3 ≠ z
  l3TO : l3 ≠ TO
  l3i1 : l3 ≠ i1
  l3i2 : l3 ≠ i2
  l3i3 : l3 ≠ i3
theorem zapart3 (n a b c : Nat) (la : a < n) (lb : b < n) (lc : c < n) : ZApart3 (n + 5) (n + 3) (n + 4) n (n + 1) (n + 2) a b c := by
  constructor <;> (refine PySem.W.neN ?_; omega)
section
variable {prog : Program} {w : World} {A : Around} {E : Value → Shared → Prop} {s : Shared}
theorem zg_dead {a : Addr} {Q : Option Obj → Shared → Prop} (ho : s.heap.get? a = none) (h : Q none s) : wpAny (model prog w) A (loadIfAlive a) Q E s := by
  have h' : Q (s.heap.get? a) s := by rw [ho]; exact h
  exact fun _ _ _ => h'
/-- nothing is out -/
def ZFree (prog : Program) (w : World) (s : Shared) (z : Addr) : Prop := ∀ (A : Around) (E : Value → Shared → Prop) (Q : Bool → Shared → Prop), Q true s → wpAny (model prog w) A (Builtin.SmallTypes.ownedTupleIsFree (.ref z)) Q E s
/-- free, or out -/
theorem zg_free {z TI TO : Addr} {F0 F1 : Value} (hz : IsZG s.heap z TI TO F0 F1) (ok : ZgOk F0 F1) : ZFree prog w s z ∨
    (∃ T f oT, IsZipHeld s.heap z TI TO T f ∧ s.heap.get? T = some oT) := by
  rcases ok with ⟨rfl, rfl⟩ | ⟨T, f, rfl, rfl⟩
  · refine .inl fun A E Q q => ?_
    unfold Builtin.SmallTypes.ownedTupleIsFree
    exact wpAny_bind (wpAny_field hz rfl (x := .none) rfl (wpAny_pure q))
  · cases e : s.heap.get? T with
    | some oT => exact .inr ⟨T, f, oT, hz, e⟩
    | none =>
      refine .inl fun A E Q q => ?_
      unfold Builtin.SmallTypes.ownedTupleIsFree
      refine wpAny_bind (wpAny_field hz rfl (x := rawInt T) rfl ?_)
      show wpAny _ _ (loadIfAlive ((T : Int).toNat) >>= _) _ _ _
      rw [Int.toNat_natCast]
      refine wpAny_bind (zg_dead e ?_)
      simp only [Option.isNone_none, if_true]
      exact wpAny_pure q
theorem zg_upd3 {T : Addr} {a b c x : Value} {k : Nat} {Q : Unit → Shared → Prop} (hT : IsTri s.heap T a b c)
    (h : ∀ h', h'.get? T = some { cls := .type "tuple", data := .seq ((#[a, b, c] : Array Value).setIfInBounds k x) } → Heap.SameBut T s.heap h' → Q () { s with heap := h' }) :
    wpAny (model prog w) A (updateSeq T (·.setIfInBounds k x)) Q E s := by
  refine wpAny_updateSeq hT rfl (h _ ?_ (Heap.SameBut.update ..))
  rw [Heap.get?_update_self _ hT rfl]
  simp [Obj.mapSeq]
/-! the step of a free zip of two -/
theorem zg2_item {z TI TO i1 i2 l1 l2 : Addr} {F0 F1 : Value} {k1 k2 : Nat} {xs ys : Array Value} {x y a b : Value} {Q : Value → Shared → Prop} (D : ZipApart z TI TO i1 i2 l1 l2)
    (hz : IsZG s.heap z TI TO F0 F1) (hf : ZFree prog w s z) (hTI : IsPair s.heap TI (.ref i1) (.ref i2)) (hTO : IsPair s.heap TO a b)
    (h1 : s.heap.IsListIter i1 l1 k1) (h2 : s.heap.IsListIter i2 l2 k2) (hl1 : s.heap.IsList l1 xs) (hl2 : s.heap.IsList l2 ys) (hx : xs[k1]? = some x) (hy : ys[k2]? = some y)
    (hQ : ∀ h', IsZG h' z TI TO (rawInt s.heap.objs.size) (.bool false) → IsPair h' TO x y → h'.IsListIter i1 l1 (k1 + 1) → h'.IsListIter i2 l2 (k2 + 1) → IsPair h' s.heap.objs.size x y → h'.objs.size = s.heap.objs.size + 1 →
      (∀ c o, c ≠ z → c ≠ TO → c ≠ i1 → c ≠ i2 → s.heap.get? c = some o → h'.get? c = some o) → Q (.ref s.heap.objs.size) { s with heap := h' }) :
    wpAny (model prog w) A (Builtin.«zip.__next__» ⟨[.ref z], []⟩) (fun fin s' => ∃ v, fin = .done (.ret v) ∧ Q v s') E s := by
  show wpAny _ _ (field (.ref z) 2 >>= _) _ _ _
  refine wpAny_bind (wpAny_field hz rfl (x := .bool false) rfl ?_)
  show wpAny _ _ (field (.ref z) 3 >>= _) _ _ _
  refine wpAny_bind (wpAny_field hz rfl (x := .ref TI) rfl ?_)
  refine wpAny_bind (wpAny_seqItems hTI rfl ?_)
  show wpAny _ _ (Builtin.SmallTypes.ownedTupleIsFree (.ref z) >>= _) _ _ _
  refine wpAny_bind (hf _ _ _ ?_)
  simp only [if_true]
  refine wpAny_bind (wpAny_rule ?_)
  refine wpAny_bind (wpAny_field hz rfl (x := .ref TO) rfl ?_)
  refine wpAny_bind (wpAny_setField_rec hz (by simp) fun h₁ hz₁ hs₁ => ?_)
  replace hz₁ : IsZG h₁ z TI TO .ellipsis F1 := hz₁
  refine wpAny_bind ?_
  simp only [List.zipIdx_cons, List.zipIdx_nil, List.forIn_cons, List.forIn_nil]
  refine wpAny_bind (wpAny_bind (wpAny_onRaise ?_))
  show wpAny _ _ (Builtin.SmallTypes.nextOf (.ref i1) >>= _) _ _ _
  refine wpAny_bind (wpAny_nextOf_list_item (h1.extBut hs₁.extBut D.i1z) (hl1.extBut hs₁.extBut D.l1z) hx fun h₂ h1₂ hs₂ => wpAny_pure ?_)
  have hTO₂ : IsPair h₂ TO a b := hs₂.extBut _ _ D.TOi1 (hs₁.extBut _ _ D.TOz hTO)
  refine wpAny_bind (wpAny_seqItems hTO₂ rfl ?_)
  refine wpAny_bind (wpAny_updateSeq_pair hTO₂ fun h₃ hTO₃ hs₃ => ?_)
  replace hTO₃ : IsPair h₃ TO x b := hTO₃
  refine wpAny_bind (wpAny_letGo (wpAny_pure ?_))
  refine wpAny_bind (wpAny_bind (wpAny_onRaise ?_))
  show wpAny _ _ (Builtin.SmallTypes.nextOf (.ref i2) >>= _) _ _ _
  refine wpAny_bind (wpAny_nextOf_list_item (((h2.extBut hs₁.extBut D.i2z).extBut hs₂.extBut D.i12.symm).extBut hs₃.extBut D.TOi2.symm)
    (((hl2.extBut hs₁.extBut D.l2z).extBut hs₂.extBut D.l2i1).extBut hs₃.extBut D.l2TO) hy fun h₄ h2₄ hs₄ => wpAny_pure ?_)
  have hTO₄ : IsPair h₄ TO x b := hs₄.extBut _ _ D.TOi2 hTO₃
  refine wpAny_bind (wpAny_seqItems hTO₄ rfl ?_)
  refine wpAny_bind (wpAny_updateSeq_pair hTO₄ fun h₅ hTO₅ hs₅ => ?_)
  replace hTO₅ : IsPair h₅ TO x y := hTO₅
  refine wpAny_bind (wpAny_letGo (wpAny_pure (wpAny_pure ?_)))
  refine wpAny_bind (wpAny_seqItems hTO₅ rfl ?_)
  refine wpAny_bind (wpAny_newTuple ?_)
  have hsz : h₅.objs.size = s.heap.objs.size := by rw [hs₅.1, hs₄.1, hs₃.1, hs₂.1, hs₁.1]
  have hz₅ : IsZG h₅ z TI TO .ellipsis F1 := hs₅.extBut _ _ D.TOz.symm (hs₄.extBut _ _ D.i2z.symm (hs₃.extBut _ _ D.TOz.symm (hs₂.extBut _ _ D.i1z.symm hz₁)))
  have hk₅ : ∀ c o, c ≠ z → c ≠ TO → c ≠ i1 → c ≠ i2 → s.heap.get? c = some o → h₅.get? c = some o := fun c o c1 c2 c3 c4 e =>
    hs₅.extBut _ _ c2 (hs₄.extBut _ _ c4 (hs₃.extBut _ _ c2 (hs₂.extBut _ _ c3 (hs₁.extBut _ _ c1 e))))
  have h1₅ : h₅.IsListIter i1 l1 (k1 + 1) := ((h1₂.extBut hs₃.extBut D.TOi1.symm).extBut hs₄.extBut D.i12).extBut hs₅.extBut D.TOi1.symm
  have h2₅ : h₅.IsListIter i2 l2 (k2 + 1) := h2₄.extBut hs₅.extBut D.TOi2.symm
  have hzlt : z < h₅.objs.size := Heap.lt_size hz₅
  show wpAny _ _ (Builtin.SmallTypes.ownedTupleHandOut (.ref z) (.ref h₅.objs.size) >>= _) _ _ _
  refine wpAny_bind ?_
  unfold Builtin.SmallTypes.ownedTupleHandOut
  have hz₆ : IsZG (h₅.push { cls := .type "tuple", data := .seq #[x, y] }) z TI TO .ellipsis F1 := Heap.get?_push_of_some _ hz₅
  refine wpAny_bind (wpAny_setField_rec hz₆ (by simp) fun h₇ hz₇ hs₇ => ?_)
  replace hz₇ : IsZG h₇ z TI TO (rawInt h₅.objs.size) F1 := hz₇
  refine wpAny_setField_rec hz₇ (by simp) fun h₈ hz₈ hs₈ => ?_
  replace hz₈ : IsZG h₈ z TI TO (rawInt h₅.objs.size) (.bool false) := hz₈
  have up : ∀ c o, c ≠ z → h₅.get? c = some o → h₈.get? c = some o := fun c o c1 e => hs₈.extBut _ _ c1 (hs₇.extBut _ _ c1 (Heap.get?_push_of_some _ e))
  have hT₈ : IsPair h₈ h₅.objs.size x y := hs₈.extBut _ _ (Nat.ne_of_gt hzlt) (hs₇.extBut _ _ (Nat.ne_of_gt hzlt) (Heap.get?_push_size _ rfl))
  have hz8 : h₈.objs.size = h₅.objs.size + 1 := by rw [hs₈.1, hs₇.1, Heap.size_push]
  rw [hsz] at hz₈ hT₈ hz8
  refine wpAny_pure ⟨_, rfl, ?_⟩
  show Q (.ref h₅.objs.size) _
  rw [hsz]
  exact hQ h₈ hz₈ (up _ _ D.TOz hTO₅) (h1₅.at fun o e => up _ o D.i1z e) (h2₅.at fun o e => up _ o D.i2z e) hT₈ hz8 fun c o c1 c2 c3 c4 e => up c o c1 (hk₅ c o c1 c2 c3 c4 e)
theorem zg2_end {z TI TO i1 i2 l1 l2 : Addr} {F0 F1 : Value} {k1 k2 : Nat} {xs ys : Array Value} {a b : Value} {Q : Fin → Shared → Prop} (hh : A.handled = none) (D : ZipApart z TI TO i1 i2 l1 l2)
    (hz : IsZG s.heap z TI TO F0 F1) (hf : ZFree prog w s z) (hTI : IsPair s.heap TI (.ref i1) (.ref i2)) (hTO : IsPair s.heap TO a b)
    (h1 : s.heap.IsListIter i1 l1 k1) (h2 : s.heap.IsListIter i2 l2 k2) (hl1 : s.heap.IsList l1 xs) (hl2 : s.heap.IsList l2 ys) (hend : xs[k1]? = none ∨ ys[k2]? = none)
    (hE : ∀ h' e, (∀ c o, c ≠ z → c ≠ TO → c ≠ i1 → c ≠ i2 → s.heap.get? c = some o → h'.get? c = some o) → (∃ o, h'.get? e = some o ∧ o.cls = .type "StopIteration") → E (.ref e) { s with heap := h' }) :
    wpAny (model prog w) A (Builtin.«zip.__next__» ⟨[.ref z], []⟩) Q E s := by
  show wpAny _ _ (field (.ref z) 2 >>= _) _ _ _
  refine wpAny_bind (wpAny_field hz rfl (x := .bool false) rfl ?_)
  show wpAny _ _ (field (.ref z) 3 >>= _) _ _ _
  refine wpAny_bind (wpAny_field hz rfl (x := .ref TI) rfl ?_)
  refine wpAny_bind (wpAny_seqItems hTI rfl ?_)
  show wpAny _ _ (Builtin.SmallTypes.ownedTupleIsFree (.ref z) >>= _) _ _ _
  refine wpAny_bind (hf _ _ _ ?_)
  simp only [if_true]
  refine wpAny_bind (wpAny_rule ?_)
  refine wpAny_bind (wpAny_field hz rfl (x := .ref TO) rfl ?_)
  refine wpAny_bind (wpAny_setField_rec hz (by simp) fun h₁ hz₁ hs₁ => ?_)
  replace hz₁ : IsZG h₁ z TI TO .ellipsis F1 := hz₁
  refine wpAny_bind ?_
  simp only [List.zipIdx_cons, List.zipIdx_nil, List.forIn_cons, List.forIn_nil]
  refine wpAny_bind (wpAny_bind (wpAny_onRaise ?_))
  show wpAny _ _ (Builtin.SmallTypes.nextOf (.ref i1) >>= _) _ _ _
  cases hx : xs[k1]? with
  | none =>
    refine wpAny_bind (wpAny_nextOf_list_end hh (h1.extBut hs₁.extBut D.i1z) (hl1.extBut hs₁.extBut D.l1z) hx fun h₂ e hs₂ he => ?_)
    obtain ⟨oe, hoe, hce⟩ := he
    have hz₂ : IsZG h₂ z TI TO .ellipsis F1 := hs₂ _ _ D.i1z.symm hz₁
    have hez : e ≠ z := fun x => by subst x; rw [hz₂] at hoe; cases hoe; simp at hce
    refine wpAny_setField_rec hz₂ (by simp) fun h₃ _ hs₃ => hE h₃ e (fun c o c1 _ c3 _ x => hs₃.extBut _ _ c1 (hs₂ _ _ c3 (hs₁.extBut _ _ c1 x))) ⟨oe, hs₃.extBut _ _ hez hoe, hce⟩
  | some x =>
    have hy : ys[k2]? = none := by rcases hend with h | h; rw [hx] at h; cases h; exact h
    refine wpAny_bind (wpAny_nextOf_list_item (h1.extBut hs₁.extBut D.i1z) (hl1.extBut hs₁.extBut D.l1z) hx fun h₂ h1₂ hs₂ => wpAny_pure ?_)
    have hTO₂ : IsPair h₂ TO a b := hs₂.extBut _ _ D.TOi1 (hs₁.extBut _ _ D.TOz hTO)
    refine wpAny_bind (wpAny_seqItems hTO₂ rfl ?_)
    refine wpAny_bind (wpAny_updateSeq_pair hTO₂ fun h₃ hTO₃ hs₃ => ?_)
    refine wpAny_bind (wpAny_letGo (wpAny_pure ?_))
    refine wpAny_bind (wpAny_bind (wpAny_onRaise ?_))
    show wpAny _ _ (Builtin.SmallTypes.nextOf (.ref i2) >>= _) _ _ _
    refine wpAny_bind (wpAny_nextOf_list_end hh (((h2.extBut hs₁.extBut D.i2z).extBut hs₂.extBut D.i12.symm).extBut hs₃.extBut D.TOi2.symm)
      (((hl2.extBut hs₁.extBut D.l2z).extBut hs₂.extBut D.l2i1).extBut hs₃.extBut D.l2TO) hy fun h₄ e hs₄ he => ?_)
    obtain ⟨oe, hoe, hce⟩ := he
    have hz₄ : IsZG h₄ z TI TO .ellipsis F1 := hs₄ _ _ D.i2z.symm (hs₃.extBut _ _ D.TOz.symm (hs₂.extBut _ _ D.i1z.symm hz₁))
    have hez : e ≠ z := fun x => by subst x; rw [hz₄] at hoe; cases hoe; simp at hce
    refine wpAny_setField_rec hz₄ (by simp) fun h₅ _ hs₅ => hE h₅ e (fun c o c1 c2 c3 c4 x => hs₅.extBut _ _ c1 (hs₄ _ _ c4 (hs₃.extBut _ _ c2 (hs₂.extBut _ _ c3 (hs₁.extBut _ _ c1 x))))) ⟨oe, hs₅.extBut _ _ hez hoe, hce⟩
/-! any step of a zip of two -/
theorem zg2_next {z TI TO i1 i2 l1 l2 : Addr} {F0 F1 : Value} {k1 k2 : Nat} {xs ys : Array Value} {x y a b : Value} {Q : Option Value → Shared → Prop} (D : ZipApart z TI TO i1 i2 l1 l2)
    (hz : IsZG s.heap z TI TO F0 F1) (ok : ZgOk F0 F1) (hTI : IsPair s.heap TI (.ref i1) (.ref i2)) (hTO : IsPair s.heap TO a b)
    (h1 : s.heap.IsListIter i1 l1 k1) (h2 : s.heap.IsListIter i2 l2 k2) (hl1 : s.heap.IsList l1 xs) (hl2 : s.heap.IsList l2 ys) (hx : xs[k1]? = some x) (hy : ys[k2]? = some y)
    (hQ : ∀ h' G0 G1 c d, IsZG h' z TI TO G0 G1 → ZgOk G0 G1 → IsPair h' TO c d → h'.IsListIter i1 l1 (k1 + 1) → h'.IsListIter i2 l2 (k2 + 1) → IsPair h' s.heap.objs.size x y → h'.objs.size = s.heap.objs.size + 1 →
      (∀ c o, c ≠ z → c ≠ TO → c ≠ i1 → c ≠ i2 → s.heap.get? c = some o → h'.get? c = some o) → Q (some (.ref s.heap.objs.size)) { s with heap := h' }) :
    wpAny (model prog w) A (pyNext (.ref z)) Q E s := by
  have hT : s.TypeIs (.ref z) "zip" := ⟨_, hz, rfl⟩
  rcases zg_free (prog := prog) (w := w) hz ok with hf | ⟨T, f, oT, hh, ht⟩
  · unfold pyNext
    exact wpAny_bind (wpAny_attempt (wpAny_callSpecial?_slot (name := Str.ofString "__next__") hT F.slot_zip_next
      (wpAny_call_entry F.slot_zip_next hT F.entry_zip_next
        (zg2_item D hz hf hTI hTO h1 h2 hl1 hl2 hx hy fun h' a1 a2 a3 a4 a5 a6 a7 => wpAny_pure (hQ h' _ _ _ _ a1 (.inr ⟨_, _, rfl, rfl⟩) a2 a3 a4 a5 a6 a7)) (F.args_zip_next_1 _))))
  · exact wpAny_pyNext_zip_item_held D hh ht hTI h1 h2 hl1 hl2 hx hy fun h' a1 a2 a3 a4 a5 a6 => hQ h' _ _ _ _ a1 (.inr ⟨_, _, rfl, rfl⟩) (a6 _ _ D.TOz D.TOi1 D.TOi2 hTO) a2 a3 a4 a5 fun c o c1 _ c3 c4 e => a6 c o c1 c3 c4 e
theorem zg2_stop {z TI TO i1 i2 l1 l2 : Addr} {F0 F1 : Value} {k1 k2 : Nat} {xs ys : Array Value} {a b : Value} {Q : Option Value → Shared → Prop} (hh : A.handled = none) (D : ZipApart z TI TO i1 i2 l1 l2)
    (hz : IsZG s.heap z TI TO F0 F1) (ok : ZgOk F0 F1) (hTI : IsPair s.heap TI (.ref i1) (.ref i2)) (hTO : IsPair s.heap TO a b)
    (h1 : s.heap.IsListIter i1 l1 k1) (h2 : s.heap.IsListIter i2 l2 k2) (hl1 : s.heap.IsList l1 xs) (hl2 : s.heap.IsList l2 ys) (hend : xs[k1]? = none ∨ ys[k2]? = none)
    (hQ : ∀ h', (∀ c o, c ≠ z → c ≠ TO → c ≠ i1 → c ≠ i2 → s.heap.get? c = some o → h'.get? c = some o) → Q none { s with heap := h' }) : wpAny (model prog w) A (pyNext (.ref z)) Q E s := by
  have hT : s.TypeIs (.ref z) "zip" := ⟨_, hz, rfl⟩
  rcases zg_free (prog := prog) (w := w) hz ok with hf | ⟨T, f, oT, hd, ht⟩
  · unfold pyNext
    refine wpAny_bind (wpAny_attempt (wpAny_callSpecial?_slot (name := Str.ofString "__next__") hT F.slot_zip_next
      (wpAny_call_entry F.slot_zip_next hT F.entry_zip_next (zg2_end hh D hz hf hTI hTO h1 h2 hl1 hl2 hend fun h' e hk he => ?_) (F.args_zip_next_1 _))))
    obtain ⟨o, ho, hc⟩ := he
    refine wpAny_bind (wpAny_isInstance (T := "StopIteration") (b := true) ⟨o, ho, hc⟩ isSubtype_stop ?_)
    exact wpAny_pure (hQ _ hk)
  · exact wpAny_pyNext_zip_end_held hh D hd ht hTI h1 h2 hl1 hl2 hend fun h' hk => hQ h' fun c o c1 _ c3 c4 e => hk c o c1 c3 c4 e
end
end PySem
namespace Ovc
open PySem PySem.Spec PyProof.Rows L2
end Ovc
namespace PySem
open Sem (wp)
section
variable {prog : Program} {w : World} {A : Around} {E : Value → Shared → Prop} {s : Shared}
theorem zg3_item {z TI TO i1 i2 i3 l1 l2 l3 : Addr} {F0 F1 : Value} {k : Nat} {xs ys zs : Array Value} {x y v a b c : Value} {Q : Value → Shared → Prop} (D : ZApart3 z TI TO i1 i2 i3 l1 l2 l3)
    (hz : IsZG s.heap z TI TO F0 F1) (hf : ZFree prog w s z) (hTI : IsTri s.heap TI (.ref i1) (.ref i2) (.ref i3)) (hTO : IsTri s.heap TO a b c)
    (h1 : s.heap.IsListIter i1 l1 k) (h2 : s.heap.IsListIter i2 l2 k) (h3 : s.heap.IsListIter i3 l3 k) (hl1 : s.heap.IsList l1 xs) (hl2 : s.heap.IsList l2 ys) (hl3 : s.heap.IsList l3 zs) (hx : xs[k]? = some x) (hy : ys[k]? = some y) (hv : zs[k]? = some v)
    (hQ : ∀ h', IsZG h' z TI TO (rawInt s.heap.objs.size) (.bool false) → IsTri h' TO x y v → h'.IsListIter i1 l1 (k + 1) → h'.IsListIter i2 l2 (k + 1) → h'.IsListIter i3 l3 (k + 1) → IsTri h' s.heap.objs.size x y v → h'.objs.size = s.heap.objs.size + 1 →
      (∀ c o, c ≠ z → c ≠ TO → c ≠ i1 → c ≠ i2 → c ≠ i3 → s.heap.get? c = some o → h'.get? c = some o) → Q (.ref s.heap.objs.size) { s with heap := h' }) :
    wpAny (model prog w) A (Builtin.«zip.__next__» ⟨[.ref z], []⟩) (fun fin s' => ∃ v, fin = .done (.ret v) ∧ Q v s') E s := by
  show wpAny _ _ (field (.ref z) 2 >>= _) _ _ _
  refine wpAny_bind (wpAny_field hz rfl (x := .bool false) rfl ?_)
  show wpAny _ _ (field (.ref z) 3 >>= _) _ _ _
  refine wpAny_bind (wpAny_field hz rfl (x := .ref TI) rfl ?_)
  refine wpAny_bind (wpAny_seqItems hTI rfl ?_)
  show wpAny _ _ (Builtin.SmallTypes.ownedTupleIsFree (.ref z) >>= _) _ _ _
  refine wpAny_bind (hf _ _ _ ?_)
  simp only [if_true]
  refine wpAny_bind (wpAny_rule ?_)
  refine wpAny_bind (wpAny_field hz rfl (x := .ref TO) rfl ?_)
  refine wpAny_bind (wpAny_setField_rec hz (by simp) fun h₁ hz₁ hs₁ => ?_)
  replace hz₁ : IsZG h₁ z TI TO .ellipsis F1 := hz₁
  refine wpAny_bind ?_
  simp only [List.zipIdx_cons, List.zipIdx_nil, List.forIn_cons, List.forIn_nil]
  refine wpAny_bind (wpAny_bind (wpAny_onRaise ?_))
  show wpAny _ _ (Builtin.SmallTypes.nextOf (.ref i1) >>= _) _ _ _
  refine wpAny_bind (wpAny_nextOf_list_item (h1.extBut hs₁.extBut D.i1z) (hl1.extBut hs₁.extBut D.l1z) hx fun h₂ h1₂ hs₂ => wpAny_pure ?_)
  have hTO₂ : IsTri h₂ TO a b c := hs₂.extBut _ _ D.TOi1 (hs₁.extBut _ _ D.TOz hTO)
  refine wpAny_bind (wpAny_seqItems hTO₂ rfl ?_)
  refine wpAny_bind (zg_upd3 hTO₂ fun h₃ hTO₃ hs₃ => ?_)
  replace hTO₃ : IsTri h₃ TO x b c := hTO₃
  refine wpAny_bind (wpAny_letGo (wpAny_pure ?_))
  refine wpAny_bind (wpAny_bind (wpAny_onRaise ?_))
  show wpAny _ _ (Builtin.SmallTypes.nextOf (.ref i2) >>= _) _ _ _
  refine wpAny_bind (wpAny_nextOf_list_item (((h2.extBut hs₁.extBut D.i2z).extBut hs₂.extBut D.i12.symm).extBut hs₃.extBut D.TOi2.symm)
    (((hl2.extBut hs₁.extBut D.l2z).extBut hs₂.extBut D.l2i1).extBut hs₃.extBut D.l2TO) hy fun h₄ h2₄ hs₄ => wpAny_pure ?_)
  have hTO₄ : IsTri h₄ TO x b c := hs₄.extBut _ _ D.TOi2 hTO₃
  refine wpAny_bind (wpAny_seqItems hTO₄ rfl ?_)
  refine wpAny_bind (zg_upd3 hTO₄ fun h₅ hTO₅ hs₅ => ?_)
  replace hTO₅ : IsTri h₅ TO x y c := hTO₅
  refine wpAny_bind (wpAny_letGo (wpAny_pure ?_))
  refine wpAny_bind (wpAny_bind (wpAny_onRaise ?_))
  show wpAny _ _ (Builtin.SmallTypes.nextOf (.ref i3) >>= _) _ _ _
  refine wpAny_bind (wpAny_nextOf_list_item (((((h3.extBut hs₁.extBut D.i3z).extBut hs₂.extBut D.i13.symm).extBut hs₃.extBut D.TOi3.symm).extBut hs₄.extBut D.i23.symm).extBut hs₅.extBut D.TOi3.symm)
    (((((hl3.extBut hs₁.extBut D.l3z).extBut hs₂.extBut D.l3i1).extBut hs₃.extBut D.l3TO).extBut hs₄.extBut D.l3i2).extBut hs₅.extBut D.l3TO) hv fun h₆ h3₆ hs₆ => wpAny_pure ?_)
  have hTO₆ : IsTri h₆ TO x y c := hs₆.extBut _ _ D.TOi3 hTO₅
  refine wpAny_bind (wpAny_seqItems hTO₆ rfl ?_)
  refine wpAny_bind (zg_upd3 hTO₆ fun h₇ hTO₇ hs₇ => ?_)
  replace hTO₇ : IsTri h₇ TO x y v := hTO₇
  refine wpAny_bind (wpAny_letGo (wpAny_pure (wpAny_pure ?_)))
  refine wpAny_bind (wpAny_seqItems hTO₇ rfl ?_)
  refine wpAny_bind (wpAny_newTuple ?_)
  have hsz : h₇.objs.size = s.heap.objs.size := by rw [hs₇.1, hs₆.1, hs₅.1, hs₄.1, hs₃.1, hs₂.1, hs₁.1]
  have hz₇ : IsZG h₇ z TI TO .ellipsis F1 := hs₇.extBut _ _ D.TOz.symm (hs₆.extBut _ _ D.i3z.symm (hs₅.extBut _ _ D.TOz.symm (hs₄.extBut _ _ D.i2z.symm (hs₃.extBut _ _ D.TOz.symm (hs₂.extBut _ _ D.i1z.symm hz₁)))))
  have hk₇ : ∀ c o, c ≠ z → c ≠ TO → c ≠ i1 → c ≠ i2 → c ≠ i3 → s.heap.get? c = some o → h₇.get? c = some o := fun c o c1 c2 c3 c4 c5 e =>
    hs₇.extBut _ _ c2 (hs₆.extBut _ _ c5 (hs₅.extBut _ _ c2 (hs₄.extBut _ _ c4 (hs₃.extBut _ _ c2 (hs₂.extBut _ _ c3 (hs₁.extBut _ _ c1 e))))))
  have h1₇ : h₇.IsListIter i1 l1 (k + 1) := ((((h1₂.extBut hs₃.extBut D.TOi1.symm).extBut hs₄.extBut D.i12).extBut hs₅.extBut D.TOi1.symm).extBut hs₆.extBut D.i13).extBut hs₇.extBut D.TOi1.symm
  have h2₇ : h₇.IsListIter i2 l2 (k + 1) := ((h2₄.extBut hs₅.extBut D.TOi2.symm).extBut hs₆.extBut D.i23).extBut hs₇.extBut D.TOi2.symm
  have h3₇ : h₇.IsListIter i3 l3 (k + 1) := h3₆.extBut hs₇.extBut D.TOi3.symm
  have hzlt : z < h₇.objs.size := Heap.lt_size hz₇
  show wpAny _ _ (Builtin.SmallTypes.ownedTupleHandOut (.ref z) (.ref h₇.objs.size) >>= _) _ _ _
  refine wpAny_bind ?_
  unfold Builtin.SmallTypes.ownedTupleHandOut
  have hz₈ : IsZG (h₇.push { cls := .type "tuple", data := .seq #[x, y, v] }) z TI TO .ellipsis F1 := Heap.get?_push_of_some _ hz₇
  refine wpAny_bind (wpAny_setField_rec hz₈ (by simp) fun h₉ hz₉ hs₉ => ?_)
  replace hz₉ : IsZG h₉ z TI TO (rawInt h₇.objs.size) F1 := hz₉
  refine wpAny_setField_rec hz₉ (by simp) fun hL hzL hsL => ?_
  replace hzL : IsZG hL z TI TO (rawInt h₇.objs.size) (.bool false) := hzL
  have up : ∀ c o, c ≠ z → h₇.get? c = some o → hL.get? c = some o := fun c o c1 e => hsL.extBut _ _ c1 (hs₉.extBut _ _ c1 (Heap.get?_push_of_some _ e))
  have hTL : IsTri hL h₇.objs.size x y v := hsL.extBut _ _ (Nat.ne_of_gt hzlt) (hs₉.extBut _ _ (Nat.ne_of_gt hzlt) (Heap.get?_push_size _ rfl))
  have hzz : hL.objs.size = h₇.objs.size + 1 := by rw [hsL.1, hs₉.1, Heap.size_push]
  rw [hsz] at hzL hTL hzz
  refine wpAny_pure ⟨_, rfl, ?_⟩
  show Q (.ref h₇.objs.size) _
  rw [hsz]
  exact hQ hL hzL (up _ _ D.TOz hTO₇) (h1₇.at fun o e => up _ o D.i1z e) (h2₇.at fun o e => up _ o D.i2z e) (h3₇.at fun o e => up _ o D.i3z e) hTL hzz fun c o c1 c2 c3 c4 c5 e => up c o c1 (hk₇ c o c1 c2 c3 c4 c5 e)
theorem zg3_end {z TI TO i1 i2 i3 l1 l2 l3 : Addr} {F0 F1 : Value} {k : Nat} {xs ys zs : Array Value} {a b c : Value} {Q : Fin → Shared → Prop} (hh : A.handled = none) (D : ZApart3 z TI TO i1 i2 i3 l1 l2 l3)
    (hz : IsZG s.heap z TI TO F0 F1) (hf : ZFree prog w s z) (hTI : IsTri s.heap TI (.ref i1) (.ref i2) (.ref i3)) (hTO : IsTri s.heap TO a b c)
    (h1 : s.heap.IsListIter i1 l1 k) (h2 : s.heap.IsListIter i2 l2 k) (h3 : s.heap.IsListIter i3 l3 k) (hl1 : s.heap.IsList l1 xs) (hl2 : s.heap.IsList l2 ys) (hl3 : s.heap.IsList l3 zs) (hend : xs[k]? = none ∨ ys[k]? = none ∨ zs[k]? = none)
    (hE : ∀ h' e, (∀ c o, c ≠ z → c ≠ TO → c ≠ i1 → c ≠ i2 → c ≠ i3 → s.heap.get? c = some o → h'.get? c = some o) → (∃ o, h'.get? e = some o ∧ o.cls = .type "StopIteration") → E (.ref e) { s with heap := h' }) :
    wpAny (model prog w) A (Builtin.«zip.__next__» ⟨[.ref z], []⟩) Q E s := by
  show wpAny _ _ (field (.ref z) 2 >>= _) _ _ _
  refine wpAny_bind (wpAny_field hz rfl (x := .bool false) rfl ?_)
  show wpAny _ _ (field (.ref z) 3 >>= _) _ _ _
  refine wpAny_bind (wpAny_field hz rfl (x := .ref TI) rfl ?_)
  refine wpAny_bind (wpAny_seqItems hTI rfl ?_)
  show wpAny _ _ (Builtin.SmallTypes.ownedTupleIsFree (.ref z) >>= _) _ _ _
  refine wpAny_bind (hf _ _ _ ?_)
  simp only [if_true]
  refine wpAny_bind (wpAny_rule ?_)
  refine wpAny_bind (wpAny_field hz rfl (x := .ref TO) rfl ?_)
  refine wpAny_bind (wpAny_setField_rec hz (by simp) fun h₁ hz₁ hs₁ => ?_)
  replace hz₁ : IsZG h₁ z TI TO .ellipsis F1 := hz₁
  refine wpAny_bind ?_
  simp only [List.zipIdx_cons, List.zipIdx_nil, List.forIn_cons, List.forIn_nil]
  refine wpAny_bind (wpAny_bind (wpAny_onRaise ?_))
  show wpAny _ _ (Builtin.SmallTypes.nextOf (.ref i1) >>= _) _ _ _
  cases hx : xs[k]? with
  | none =>
    refine wpAny_bind (wpAny_nextOf_list_end hh (h1.extBut hs₁.extBut D.i1z) (hl1.extBut hs₁.extBut D.l1z) hx fun h₂ e hs₂ he => ?_)
    obtain ⟨oe, hoe, hce⟩ := he
    have hz₂ : IsZG h₂ z TI TO .ellipsis F1 := hs₂ _ _ D.i1z.symm hz₁
    have hez : e ≠ z := fun x => by subst x; rw [hz₂] at hoe; cases hoe; simp at hce
    refine wpAny_setField_rec hz₂ (by simp) fun h₃ _ hs₃ => hE h₃ e (fun c o c1 _ c3 _ _ x => hs₃.extBut _ _ c1 (hs₂ _ _ c3 (hs₁.extBut _ _ c1 x))) ⟨oe, hs₃.extBut _ _ hez hoe, hce⟩
  | some x =>
    refine wpAny_bind (wpAny_nextOf_list_item (h1.extBut hs₁.extBut D.i1z) (hl1.extBut hs₁.extBut D.l1z) hx fun h₂ h1₂ hs₂ => wpAny_pure ?_)
    have hTO₂ : IsTri h₂ TO a b c := hs₂.extBut _ _ D.TOi1 (hs₁.extBut _ _ D.TOz hTO)
    refine wpAny_bind (wpAny_seqItems hTO₂ rfl ?_)
    refine wpAny_bind (zg_upd3 hTO₂ fun h₃ hTO₃ hs₃ => ?_)
    replace hTO₃ : IsTri h₃ TO x b c := hTO₃
    refine wpAny_bind (wpAny_letGo (wpAny_pure ?_))
    refine wpAny_bind (wpAny_bind (wpAny_onRaise ?_))
    show wpAny _ _ (Builtin.SmallTypes.nextOf (.ref i2) >>= _) _ _ _
    have i2₃ := ((h2.extBut hs₁.extBut D.i2z).extBut hs₂.extBut D.i12.symm).extBut hs₃.extBut D.TOi2.symm
    have l2₃ := ((hl2.extBut hs₁.extBut D.l2z).extBut hs₂.extBut D.l2i1).extBut hs₃.extBut D.l2TO
    cases hy : ys[k]? with
    | none =>
      refine wpAny_bind (wpAny_nextOf_list_end hh i2₃ l2₃ hy fun h₄ e hs₄ he => ?_)
      obtain ⟨oe, hoe, hce⟩ := he
      have hz₄ : IsZG h₄ z TI TO .ellipsis F1 := hs₄ _ _ D.i2z.symm (hs₃.extBut _ _ D.TOz.symm (hs₂.extBut _ _ D.i1z.symm hz₁))
      have hez : e ≠ z := fun x => by subst x; rw [hz₄] at hoe; cases hoe; simp at hce
      refine wpAny_setField_rec hz₄ (by simp) fun h₅ _ hs₅ => hE h₅ e (fun c o c1 c2 c3 c4 _ x => hs₅.extBut _ _ c1 (hs₄ _ _ c4 (hs₃.extBut _ _ c2 (hs₂.extBut _ _ c3 (hs₁.extBut _ _ c1 x))))) ⟨oe, hs₅.extBut _ _ hez hoe, hce⟩
    | some y =>
      have hv : zs[k]? = none := by
        rcases hend with h | h | h
        · rw [hx] at h; cases h
        · rw [hy] at h; cases h
        · exact h
      refine wpAny_bind (wpAny_nextOf_list_item i2₃ l2₃ hy fun h₄ h2₄ hs₄ => wpAny_pure ?_)
      have hTO₄ : IsTri h₄ TO x b c := hs₄.extBut _ _ D.TOi2 hTO₃
      refine wpAny_bind (wpAny_seqItems hTO₄ rfl ?_)
      refine wpAny_bind (zg_upd3 hTO₄ fun h₅ hTO₅ hs₅ => ?_)
      refine wpAny_bind (wpAny_letGo (wpAny_pure ?_))
      refine wpAny_bind (wpAny_bind (wpAny_onRaise ?_))
      show wpAny _ _ (Builtin.SmallTypes.nextOf (.ref i3) >>= _) _ _ _
      refine wpAny_bind (wpAny_nextOf_list_end hh (((((h3.extBut hs₁.extBut D.i3z).extBut hs₂.extBut D.i13.symm).extBut hs₃.extBut D.TOi3.symm).extBut hs₄.extBut D.i23.symm).extBut hs₅.extBut D.TOi3.symm)
        (((((hl3.extBut hs₁.extBut D.l3z).extBut hs₂.extBut D.l3i1).extBut hs₃.extBut D.l3TO).extBut hs₄.extBut D.l3i2).extBut hs₅.extBut D.l3TO) hv fun h₆ e hs₆ he => ?_)
      obtain ⟨oe, hoe, hce⟩ := he
      have hz₆ : IsZG h₆ z TI TO .ellipsis F1 := hs₆ _ _ D.i3z.symm (hs₅.extBut _ _ D.TOz.symm (hs₄.extBut _ _ D.i2z.symm (hs₃.extBut _ _ D.TOz.symm (hs₂.extBut _ _ D.i1z.symm hz₁))))
      have hez : e ≠ z := fun x => by subst x; rw [hz₆] at hoe; cases hoe; simp at hce
      refine wpAny_setField_rec hz₆ (by simp) fun h₇ _ hs₇ => hE h₇ e (fun c o c1 c2 c3 c4 c5 x => hs₇.extBut _ _ c1 (hs₆ _ _ c5 (hs₅.extBut _ _ c2 (hs₄.extBut _ _ c4 (hs₃.extBut _ _ c2 (hs₂.extBut _ _ c3 (hs₁.extBut _ _ c1 x))))))) ⟨oe, hs₇.extBut _ _ hez hoe, hce⟩
theorem zg3_item_held {z TI TO T i1 i2 i3 l1 l2 l3 : Addr} {f : Bool} {oT : Obj} {k : Nat} {xs ys zs : Array Value} {x y v : Value} {Q : Value → Shared → Prop} (D : ZApart3 z TI TO i1 i2 i3 l1 l2 l3)
    (hz : IsZipHeld s.heap z TI TO T f) (hT : s.heap.get? T = some oT) (hTI : IsTri s.heap TI (.ref i1) (.ref i2) (.ref i3))
    (h1 : s.heap.IsListIter i1 l1 k) (h2 : s.heap.IsListIter i2 l2 k) (h3 : s.heap.IsListIter i3 l3 k) (hl1 : s.heap.IsList l1 xs) (hl2 : s.heap.IsList l2 ys) (hl3 : s.heap.IsList l3 zs) (hx : xs[k]? = some x) (hy : ys[k]? = some y) (hv : zs[k]? = some v)
    (hQ : ∀ h', IsZipHeld h' z TI TO T true → h'.IsListIter i1 l1 (k + 1) → h'.IsListIter i2 l2 (k + 1) → h'.IsListIter i3 l3 (k + 1) → IsTri h' s.heap.objs.size x y v → h'.objs.size = s.heap.objs.size + 1 →
      (∀ c o, c ≠ z → c ≠ i1 → c ≠ i2 → c ≠ i3 → s.heap.get? c = some o → h'.get? c = some o) → Q (.ref s.heap.objs.size) { s with heap := h' }) :
    wpAny (model prog w) A (Builtin.«zip.__next__» ⟨[.ref z], []⟩) (fun fin s' => ∃ v, fin = .done (.ret v) ∧ Q v s') E s := by
  show wpAny _ _ (field (.ref z) 2 >>= _) _ _ _
  refine wpAny_bind (wpAny_field hz rfl (x := .bool false) rfl ?_)
  show wpAny _ _ (field (.ref z) 3 >>= _) _ _ _
  refine wpAny_bind (wpAny_field hz rfl (x := .ref TI) rfl ?_)
  refine wpAny_bind (wpAny_seqItems hTI rfl ?_)
  show wpAny _ _ (Builtin.SmallTypes.ownedTupleIsFree (.ref z) >>= _) _ _ _
  refine wpAny_bind (wpAny_tupleHeld_zip hz hT fun h₁ hz₁ hs₁ => ?_)
  simp only [Bool.false_eq_true, if_false]
  refine wpAny_bind ?_
  rw [← Array.forIn_toList]
  simp only [List.forIn_cons, List.forIn_nil]
  refine wpAny_bind (wpAny_bind (wpAny_holding ?_))
  show wpAny _ _ (Builtin.SmallTypes.nextOf (.ref i1) >>= _) _ _ _
  refine wpAny_bind (wpAny_nextOf_list_item (s := { s with heap := h₁ }) (h1.extBut hs₁.extBut D.i1z) (hl1.extBut hs₁.extBut D.l1z) hx fun h₂ h1₂ hs₂ => wpAny_pure ?_)
  refine wpAny_pure ?_
  refine wpAny_bind (wpAny_bind (wpAny_holding ?_))
  show wpAny _ _ (Builtin.SmallTypes.nextOf (.ref i2) >>= _) _ _ _
  refine wpAny_bind (wpAny_nextOf_list_item (s := { s with heap := h₂ }) ((h2.extBut hs₁.extBut D.i2z).extBut hs₂.extBut D.i12.symm) ((hl2.extBut hs₁.extBut D.l2z).extBut hs₂.extBut D.l2i1) hy fun h₃ h2₃ hs₃ => wpAny_pure ?_)
  refine wpAny_pure ?_
  refine wpAny_bind (wpAny_bind (wpAny_holding ?_))
  show wpAny _ _ (Builtin.SmallTypes.nextOf (.ref i3) >>= _) _ _ _
  refine wpAny_bind (wpAny_nextOf_list_item (s := { s with heap := h₃ }) (((h3.extBut hs₁.extBut D.i3z).extBut hs₂.extBut D.i13.symm).extBut hs₃.extBut D.i23.symm) (((hl3.extBut hs₁.extBut D.l3z).extBut hs₂.extBut D.l3i1).extBut hs₃.extBut D.l3i2) hv fun h₄ h3₄ hs₄ => wpAny_pure ?_)
  refine wpAny_pure (wpAny_pure ?_)
  show wpAny _ _ (newTuple [x, y, v] >>= _) _ _ _
  refine wpAny_bind (wpAny_newTuple ?_)
  have hsz : h₄.objs.size = s.heap.objs.size := by rw [hs₄.1, hs₃.1, hs₂.1, hs₁.1]
  have hz₄ : IsZipHeld h₄ z TI TO T true := hs₄.extBut _ _ D.i3z.symm (hs₃.extBut _ _ D.i2z.symm (hs₂.extBut _ _ D.i1z.symm hz₁))
  have hk : ∀ c o, c ≠ z → c ≠ i1 → c ≠ i2 → c ≠ i3 → s.heap.get? c = some o → h₄.get? c = some o := fun c o c1 c2 c3 c4 e => hs₄.extBut _ _ c4 (hs₃.extBut _ _ c3 (hs₂.extBut _ _ c2 (hs₁.extBut _ _ c1 e)))
  have h1₄ : h₄.IsListIter i1 l1 (k + 1) := (h1₂.extBut hs₃.extBut D.i12).extBut hs₄.extBut D.i13
  have h2₄ : h₄.IsListIter i2 l2 (k + 1) := h2₃.extBut hs₄.extBut D.i23
  refine wpAny_pure ⟨_, rfl, ?_⟩
  show Q (.ref h₄.objs.size) _
  have hp : IsTri (h₄.push { cls := .type "tuple", data := .seq #[x, y, v] }) h₄.objs.size x y v := Heap.get?_push_size _ rfl
  have hz5 : (h₄.push { cls := .type "tuple", data := .seq #[x, y, v] }).objs.size = h₄.objs.size + 1 := Heap.size_push ..
  rw [hsz] at hp hz5 ⊢
  exact hQ _ (Heap.get?_push_of_some _ hz₄) (h1₄.at fun o e => Heap.get?_push_of_some _ e) (h2₄.at fun o e => Heap.get?_push_of_some _ e) (h3₄.at fun o e => Heap.get?_push_of_some _ e) hp hz5 fun c o c1 c2 c3 c4 e => Heap.get?_push_of_some _ (hk c o c1 c2 c3 c4 e)
theorem zg3_end_held {z TI TO T i1 i2 i3 l1 l2 l3 : Addr} {f : Bool} {oT : Obj} {k : Nat} {xs ys zs : Array Value} {Q : Fin → Shared → Prop} (hh : A.handled = none) (D : ZApart3 z TI TO i1 i2 i3 l1 l2 l3)
    (hz : IsZipHeld s.heap z TI TO T f) (hT : s.heap.get? T = some oT) (hTI : IsTri s.heap TI (.ref i1) (.ref i2) (.ref i3))
    (h1 : s.heap.IsListIter i1 l1 k) (h2 : s.heap.IsListIter i2 l2 k) (h3 : s.heap.IsListIter i3 l3 k) (hl1 : s.heap.IsList l1 xs) (hl2 : s.heap.IsList l2 ys) (hl3 : s.heap.IsList l3 zs) (hend : xs[k]? = none ∨ ys[k]? = none ∨ zs[k]? = none)
    (hE : ∀ h' e, (∀ c o, c ≠ z → c ≠ i1 → c ≠ i2 → c ≠ i3 → s.heap.get? c = some o → h'.get? c = some o) → (∃ o, h'.get? e = some o ∧ o.cls = .type "StopIteration") → E (.ref e) { s with heap := h' }) :
    wpAny (model prog w) A (Builtin.«zip.__next__» ⟨[.ref z], []⟩) Q E s := by
  show wpAny _ _ (field (.ref z) 2 >>= _) _ _ _
  refine wpAny_bind (wpAny_field hz rfl (x := .bool false) rfl ?_)
  show wpAny _ _ (field (.ref z) 3 >>= _) _ _ _
  refine wpAny_bind (wpAny_field hz rfl (x := .ref TI) rfl ?_)
  refine wpAny_bind (wpAny_seqItems hTI rfl ?_)
  show wpAny _ _ (Builtin.SmallTypes.ownedTupleIsFree (.ref z) >>= _) _ _ _
  refine wpAny_bind (wpAny_tupleHeld_zip hz hT fun h₁ hz₁ hs₁ => ?_)
  simp only [Bool.false_eq_true, if_false]
  refine wpAny_bind ?_
  rw [← Array.forIn_toList]
  simp only [List.forIn_cons, List.forIn_nil]
  refine wpAny_bind (wpAny_bind (wpAny_holding ?_))
  show wpAny _ _ (Builtin.SmallTypes.nextOf (.ref i1) >>= _) _ _ _
  cases hx : xs[k]? with
  | none =>
    refine wpAny_bind (wpAny_nextOf_list_end (s := { s with heap := h₁ }) hh (h1.extBut hs₁.extBut D.i1z) (hl1.extBut hs₁.extBut D.l1z) hx fun h₂ e hs₂ he => ?_)
    exact hE h₂ e (fun c o c1 c2 _ _ x => hs₂ _ _ c2 (hs₁.extBut _ _ c1 x)) he
  | some x =>
    refine wpAny_bind (wpAny_nextOf_list_item (s := { s with heap := h₁ }) (h1.extBut hs₁.extBut D.i1z) (hl1.extBut hs₁.extBut D.l1z) hx fun h₂ h1₂ hs₂ => wpAny_pure ?_)
    refine wpAny_pure ?_
    refine wpAny_bind (wpAny_bind (wpAny_holding ?_))
    show wpAny _ _ (Builtin.SmallTypes.nextOf (.ref i2) >>= _) _ _ _
    cases hy : ys[k]? with
    | none =>
      refine wpAny_bind (wpAny_nextOf_list_end (s := { s with heap := h₂ }) hh ((h2.extBut hs₁.extBut D.i2z).extBut hs₂.extBut D.i12.symm) ((hl2.extBut hs₁.extBut D.l2z).extBut hs₂.extBut D.l2i1) hy fun h₃ e hs₃ he => ?_)
      exact hE h₃ e (fun c o c1 c2 c3 _ x => hs₃ _ _ c3 (hs₂.extBut _ _ c2 (hs₁.extBut _ _ c1 x))) he
    | some y =>
      have hv : zs[k]? = none := by
        rcases hend with h | h | h
        · rw [hx] at h; cases h
        · rw [hy] at h; cases h
        · exact h
      refine wpAny_bind (wpAny_nextOf_list_item (s := { s with heap := h₂ }) ((h2.extBut hs₁.extBut D.i2z).extBut hs₂.extBut D.i12.symm) ((hl2.extBut hs₁.extBut D.l2z).extBut hs₂.extBut D.l2i1) hy fun h₃ h2₃ hs₃ => wpAny_pure ?_)
      refine wpAny_pure ?_
      refine wpAny_bind (wpAny_bind (wpAny_holding ?_))
      show wpAny _ _ (Builtin.SmallTypes.nextOf (.ref i3) >>= _) _ _ _
      refine wpAny_bind (wpAny_nextOf_list_end (s := { s with heap := h₃ }) hh (((h3.extBut hs₁.extBut D.i3z).extBut hs₂.extBut D.i13.symm).extBut hs₃.extBut D.i23.symm) (((hl3.extBut hs₁.extBut D.l3z).extBut hs₂.extBut D.l3i1).extBut hs₃.extBut D.l3i2) hv fun h₄ e hs₄ he => ?_)
      exact hE h₄ e (fun c o c1 c2 c3 c4 x => hs₄ _ _ c4 (hs₃.extBut _ _ c3 (hs₂.extBut _ _ c2 (hs₁.extBut _ _ c1 x)))) he
/-! any step of a zip of three -/
theorem zg3_next {z TI TO i1 i2 i3 l1 l2 l3 : Addr} {F0 F1 : Value} {k : Nat} {xs ys zs : Array Value} {x y v a b c : Value} {Q : Option Value → Shared → Prop} (D : ZApart3 z TI TO i1 i2 i3 l1 l2 l3)
    (hz : IsZG s.heap z TI TO F0 F1) (ok : ZgOk F0 F1) (hTI : IsTri s.heap TI (.ref i1) (.ref i2) (.ref i3)) (hTO : IsTri s.heap TO a b c)
    (h1 : s.heap.IsListIter i1 l1 k) (h2 : s.heap.IsListIter i2 l2 k) (h3 : s.heap.IsListIter i3 l3 k) (hl1 : s.heap.IsList l1 xs) (hl2 : s.heap.IsList l2 ys) (hl3 : s.heap.IsList l3 zs) (hx : xs[k]? = some x) (hy : ys[k]? = some y) (hv : zs[k]? = some v)
    (hQ : ∀ h' G0 G1 a' b' c', IsZG h' z TI TO G0 G1 → ZgOk G0 G1 → IsTri h' TO a' b' c' → h'.IsListIter i1 l1 (k + 1) → h'.IsListIter i2 l2 (k + 1) → h'.IsListIter i3 l3 (k + 1) → IsTri h' s.heap.objs.size x y v → h'.objs.size = s.heap.objs.size + 1 →
      (∀ c o, c ≠ z → c ≠ TO → c ≠ i1 → c ≠ i2 → c ≠ i3 → s.heap.get? c = some o → h'.get? c = some o) → Q (some (.ref s.heap.objs.size)) { s with heap := h' }) :
    wpAny (model prog w) A (pyNext (.ref z)) Q E s := by
  have hT : s.TypeIs (.ref z) "zip" := ⟨_, hz, rfl⟩
  rcases zg_free (prog := prog) (w := w) hz ok with hf | ⟨T, f, oT, hd, ht⟩
  · unfold pyNext
    exact wpAny_bind (wpAny_attempt (wpAny_callSpecial?_slot (name := Str.ofString "__next__") hT F.slot_zip_next
      (wpAny_call_entry F.slot_zip_next hT F.entry_zip_next
        (zg3_item D hz hf hTI hTO h1 h2 h3 hl1 hl2 hl3 hx hy hv fun h' a1 a2 a3 a4 a5 a6 a7 a8 => wpAny_pure (hQ h' _ _ _ _ _ a1 (.inr ⟨_, _, rfl, rfl⟩) a2 a3 a4 a5 a6 a7 a8)) (F.args_zip_next_1 _))))
  · unfold pyNext
    exact wpAny_bind (wpAny_attempt (wpAny_callSpecial?_slot (name := Str.ofString "__next__") hT F.slot_zip_next
      (wpAny_call_entry F.slot_zip_next hT F.entry_zip_next
        (zg3_item_held D hd ht hTI h1 h2 h3 hl1 hl2 hl3 hx hy hv fun h' a1 a2 a3 a4 a5 a6 a7 => wpAny_pure (hQ h' _ _ _ _ _ a1 (.inr ⟨_, _, rfl, rfl⟩) (a7 _ _ D.TOz D.TOi1 D.TOi2 D.TOi3 hTO) a2 a3 a4 a5 a6 fun c o c1 _ c3 c4 c5 e => a7 c o c1 c3 c4 c5 e)) (F.args_zip_next_1 _))))
theorem zg3_stop {z TI TO i1 i2 i3 l1 l2 l3 : Addr} {F0 F1 : Value} {k : Nat} {xs ys zs : Array Value} {a b c : Value} {Q : Option Value → Shared → Prop} (hh : A.handled = none) (D : ZApart3 z TI TO i1 i2 i3 l1 l2 l3)
    (hz : IsZG s.heap z TI TO F0 F1) (ok : ZgOk F0 F1) (hTI : IsTri s.heap TI (.ref i1) (.ref i2) (.ref i3)) (hTO : IsTri s.heap TO a b c)
    (h1 : s.heap.IsListIter i1 l1 k) (h2 : s.heap.IsListIter i2 l2 k) (h3 : s.heap.IsListIter i3 l3 k) (hl1 : s.heap.IsList l1 xs) (hl2 : s.heap.IsList l2 ys) (hl3 : s.heap.IsList l3 zs) (hend : xs[k]? = none ∨ ys[k]? = none ∨ zs[k]? = none)
    (hQ : ∀ h', (∀ c o, c ≠ z → c ≠ TO → c ≠ i1 → c ≠ i2 → c ≠ i3 → s.heap.get? c = some o → h'.get? c = some o) → Q none { s with heap := h' }) : wpAny (model prog w) A (pyNext (.ref z)) Q E s := by
  have hT : s.TypeIs (.ref z) "zip" := ⟨_, hz, rfl⟩
  rcases zg_free (prog := prog) (w := w) hz ok with hf | ⟨T, f, oT, hd, ht⟩
  · unfold pyNext
    refine wpAny_bind (wpAny_attempt (wpAny_callSpecial?_slot (name := Str.ofString "__next__") hT F.slot_zip_next
      (wpAny_call_entry F.slot_zip_next hT F.entry_zip_next (zg3_end hh D hz hf hTI hTO h1 h2 h3 hl1 hl2 hl3 hend fun h' e hk he => ?_) (F.args_zip_next_1 _))))
    obtain ⟨o, ho, hc⟩ := he
    refine wpAny_bind (wpAny_isInstance (T := "StopIteration") (b := true) ⟨o, ho, hc⟩ isSubtype_stop ?_)
    exact wpAny_pure (hQ _ hk)
  · unfold pyNext
    refine wpAny_bind (wpAny_attempt (wpAny_callSpecial?_slot (name := Str.ofString "__next__") hT F.slot_zip_next
      (wpAny_call_entry F.slot_zip_next hT F.entry_zip_next (zg3_end_held hh D hd ht hTI h1 h2 h3 hl1 hl2 hl3 hend fun h' e hk he => ?_) (F.args_zip_next_1 _))))
    obtain ⟨o, ho, hc⟩ := he
    refine wpAny_bind (wpAny_isInstance (T := "StopIteration") (b := true) ⟨o, ho, hc⟩ isSubtype_stop ?_)
    exact wpAny_pure (hQ _ fun c o c1 _ c3 c4 c5 e => hk c o c1 c3 c4 c5 e)
end
theorem zg3_pyIter {prog : Program} {w : World} {A : Around} {E : Value → Shared → Prop} {s : Shared} {z TI TO : Addr} {f0 f1 : Value} {Q : Value → Shared → Prop} (hz : IsZG s.heap z TI TO f0 f1) (h : Q (.ref z) s) : wpAny (model prog w) A (pyIter (.ref z)) Q E s := by
  have hT : s.TypeIs (.ref z) "zip" := ⟨_, hz, rfl⟩
  refine wpAny_pyIter_slot hT F.slot_zip_iter (wpAny_call_entry F.slot_zip_iter hT F.entry_zip_iter ?_ (F.args_zip_iter_1 _))
  show wpAny _ _ (ret (.ref z)) _ _ s
  exact wpAny_pure ⟨_, rfl, "zip", _, hT, F.slot_zip_next.lookup, h⟩
namespace F
theorem typeCall_zip3 (a b c : Value) : checkTypeCall "zip" ⟨[a, b, c], []⟩ = pure () := by kernel_rfl
theorem newCall_zip3 (a b c : Value) : checkBuiltinCall "zip.__new__" ⟨[.type "zip", a, b, c], []⟩ = pure () := by kernel_rfl
theorem args_obj_init4 (a b c d : Value) : argsOk "object.__init__" ⟨[a, b, c, d], []⟩ := by
  unfold argsOk; rw [signature?_of (id := "object.__init__") (n := ['_', '_', 't', 'i', 'n', 'i', '_', '_']) (o := ['t', 'c', 'e', 'j', 'b', 'o']) (by kernel_rfl) owner_object]; kernel_rfl
end F
abbrev zg3H1 (h : Heap) (l1 : Addr) : Heap := h.push { cls := .type "list_iterator", data := .fields #[.ref l1, .int 0 0] }
abbrev zg3H2 (h : Heap) (l1 l2 : Addr) : Heap := (zg3H1 h l1).push { cls := .type "list_iterator", data := .fields #[.ref l2, .int 0 0] }
abbrev zg3H3 (h : Heap) (l1 l2 l3 : Addr) : Heap := (zg3H2 h l1 l2).push { cls := .type "list_iterator", data := .fields #[.ref l3, .int 0 0] }
abbrev zg3H4 (h : Heap) (l1 l2 l3 : Addr) : Heap := (zg3H3 h l1 l2 l3).push { cls := .type "tuple", data := .seq #[.ref h.objs.size, .ref (zg3H1 h l1).objs.size, .ref (zg3H2 h l1 l2).objs.size] }
abbrev zg3H5 (h : Heap) (l1 l2 l3 : Addr) : Heap := (zg3H4 h l1 l2 l3).push { cls := .type "tuple", data := .seq #[.none, .none, .none] }
abbrev zg3H6 (h : Heap) (l1 l2 l3 : Addr) : Heap := (zg3H5 h l1 l2 l3).push { cls := .type "zip", data := .fields #[.none, .bool false, .bool false, .ref (zg3H3 h l1 l2 l3).objs.size, .ref (zg3H4 h l1 l2 l3).objs.size] }
theorem meets_zip3_new (l1 l2 l3 : Addr) (xs ys zs : Array Value) :
    Meets (Builtin.«zip.__new__» ⟨[.type "zip", .ref l1, .ref l2, .ref l3], []⟩) (fun _ R s => s.heap.IsList l1 xs ∧ s.heap.IsList l2 ys ∧ s.heap.IsList l3 zs ∧
      R (.ok (.ret (.ref (zg3H5 s.heap l1 l2 l3).objs.size))) { s with heap := zg3H6 s.heap l1 l2 l3 }) :=
  .of_wp fun prog w A R s h => by
    obtain ⟨hp, g, d, tk, os⟩ := s; obtain ⟨hl1, hl2, hl3, h⟩ := h
    have hsub := sub_zip
    have hL1 : Heap.IsList (Shared.heap ⟨hp, g, d, tk, os⟩) l1 xs := hl1
    have hL2 : Heap.IsList (Shared.heap ⟨hp.push { cls := .type "list_iterator", data := .fields #[.ref l1, .int 0 0] }, g, d, tk, os⟩) l2 ys := Heap.IsList.push hl2 _
    have hL3 : Heap.IsList (Shared.heap ⟨(hp.push { cls := .type "list_iterator", data := .fields #[.ref l1, .int 0 0] }).push { cls := .type "list_iterator", data := .fields #[.ref l2, .int 0 0] }, g, d, tk, os⟩) l3 zs := Heap.IsList.push (Heap.IsList.push hl3 _) _
    wp_walk using wpAny_pyIter_list hL1, wpAny_pyIter_list hL2, wpAny_pyIter_list hL3
    exact ⟨_, rfl, h⟩
section
variable {prog : Program} {w : World} {A : Around} {E : Value → Shared → Prop} {s : Shared}
theorem call_zip3 {l1 l2 l3 : Addr} {xs ys zs : Array Value} {Q : Value → Shared → Prop} (hl1 : s.heap.IsList l1 xs) (hl2 : s.heap.IsList l2 ys) (hl3 : s.heap.IsList l3 zs)
    (h : ∀ h', IsZG h' (s.heap.objs.size + 5) (s.heap.objs.size + 3) (s.heap.objs.size + 4) .none (.bool false) → IsTri h' (s.heap.objs.size + 3) (.ref s.heap.objs.size) (.ref (s.heap.objs.size + 1)) (.ref (s.heap.objs.size + 2)) →
      IsTri h' (s.heap.objs.size + 4) .none .none .none → h'.IsListIter s.heap.objs.size l1 0 → h'.IsListIter (s.heap.objs.size + 1) l2 0 → h'.IsListIter (s.heap.objs.size + 2) l3 0 → h'.objs.size = s.heap.objs.size + 6 →
      (∀ c o, s.heap.get? c = some o → h'.get? c = some o) → Q (.ref (s.heap.objs.size + 5)) { s with heap := h' }) :
    wpAny (model prog w) A (call (.type "zip") [.ref l1, .ref l2, .ref l3]) Q E s := by
  refine callType_new F.called_zip (by decide) (F.typeCall_zip3 _ _ _) (F.newCall_zip3 _ _ _) (fun obj => F.args_obj_init4 obj _ _ _) F.entry_zip_new
    (meets_zip3_new l1 l2 l3 xs ys zs) ⟨hl1, hl2, hl3, ?_⟩
  have z1 : (zg3H1 s.heap l1).objs.size = s.heap.objs.size + 1 := Heap.size_push ..
  have z2 : (zg3H2 s.heap l1 l2).objs.size = s.heap.objs.size + 2 := by rw [Heap.size_push, z1]
  have z3 : (zg3H3 s.heap l1 l2 l3).objs.size = s.heap.objs.size + 3 := by rw [Heap.size_push, z2]
  have z4 : (zg3H4 s.heap l1 l2 l3).objs.size = s.heap.objs.size + 4 := by rw [Heap.size_push, z3]
  have z5 : (zg3H5 s.heap l1 l2 l3).objs.size = s.heap.objs.size + 5 := by rw [Heap.size_push, z4]
  have z6 : (zg3H6 s.heap l1 l2 l3).objs.size = s.heap.objs.size + 6 := by rw [Heap.size_push, z5]
  have g6 : (zg3H6 s.heap l1 l2 l3).get? (zg3H5 s.heap l1 l2 l3).objs.size = some _ := Heap.get?_push_size _ rfl
  have g5 : (zg3H6 s.heap l1 l2 l3).get? (zg3H4 s.heap l1 l2 l3).objs.size = some _ := Heap.get?_push_of_some _ (Heap.get?_push_size _ rfl)
  have g4 : (zg3H6 s.heap l1 l2 l3).get? (zg3H3 s.heap l1 l2 l3).objs.size = some _ := Heap.get?_push_of_some _ (Heap.get?_push_of_some _ (Heap.get?_push_size _ rfl))
  have g3 : (zg3H6 s.heap l1 l2 l3).get? (zg3H2 s.heap l1 l2).objs.size = some _ := Heap.get?_push_of_some _ (Heap.get?_push_of_some _ (Heap.get?_push_of_some _ (Heap.get?_push_size _ rfl)))
  have g2 : (zg3H6 s.heap l1 l2 l3).get? (zg3H1 s.heap l1).objs.size = some _ := Heap.get?_push_of_some _ (Heap.get?_push_of_some _ (Heap.get?_push_of_some _ (Heap.get?_push_of_some _ (Heap.get?_push_size _ rfl))))
  have g1 : (zg3H6 s.heap l1 l2 l3).get? s.heap.objs.size = some _ := Heap.get?_push_of_some _ (Heap.get?_push_of_some _ (Heap.get?_push_of_some _ (Heap.get?_push_of_some _ (Heap.get?_push_of_some _ (Heap.get?_push_size _ rfl)))))
  show _ ∧ _
  rw [z3, z4, z5] at g6
  rw [z1, z2, z3] at g4
  rw [z4] at g5
  rw [z2] at g3
  rw [z1] at g2
  rw [z5]
  exact ⟨⟨_, g6, rfl⟩, h _ g6 g4 g5 ⟨_, g1, rfl, rfl⟩ ⟨_, g2, rfl, rfl⟩ ⟨_, g3, rfl, rfl⟩ z6 fun c o x =>
    Heap.get?_push_of_some _ (Heap.get?_push_of_some _ (Heap.get?_push_of_some _ (Heap.get?_push_of_some _ (Heap.get?_push_of_some _ (Heap.get?_push_of_some _ x)))))⟩
end
end PySem
namespace Ovc
open PySem PySem.Spec PyProof.Rows L2
end Ovc
namespace L2
open PySem PySem.Spec PyProof.Rows
theorem zgo_name {M : Model} {A : Around} {E : Value → Shared → Prop} {s : Shared} {x : Str} {px : Pos} {it u : Value} {Q : Unit → Shared → Prop} (q : Q () s) : wpAny M A (letOwnedTupleGo (.Name x px) it u) Q E s := wpAny_pure q
theorem turn_zipN {P : Program} {w : World} {K : PySem.W.Frag} {x : Str} {px : Pos} {a b z TI TO i1 i2 : Addr} (D : ZipApart z TI TO i1 i2 a b) :
    Turn P w K (.Name x px) (Itz K a b) [z, TI, TO, i1, i2] z (fun i h => (∃ F0 F1, IsZG h z TI TO F0 F1 ∧ ZgOk F0 F1) ∧ IsPair h TI (.ref i1) (.ref i2) ∧ (∃ x y, IsPair h TO x y) ∧ h.IsListIter i1 a i ∧ h.IsListIter i2 b i) where
  mem := by simp
  obj := fun i h st c hc => by
    obtain ⟨⟨F0, F1, hz, _⟩, hTI, ⟨x, y, hTO⟩, ⟨o1, e1, _, d1⟩, ⟨o2, e2, _, d2⟩⟩ := st
    have e' : c = z ∨ c = TI ∨ c = TO ∨ c = i1 ∨ c = i2 := by simpa using hc
    rcases e' with q | q | q | q | q
    · rw [q]; exact ⟨_, hz, fun v q => nomatch q⟩
    · rw [q]; exact ⟨_, hTI, fun v q => nomatch q⟩
    · rw [q]; exact ⟨_, hTO, fun v q => nomatch q⟩
    · rw [q]; exact ⟨o1, e1, fun v q => by rw [d1] at q; cases q⟩
    · rw [q]; exact ⟨o2, e2, fun v q => by rw [d2] at q; cases q⟩
  keep := fun i h h' st k => by
    obtain ⟨⟨F0, F1, hz, ok⟩, hTI, ⟨x, y, hTO⟩, h1, h2⟩ := st
    exact ⟨⟨F0, F1, k z (by simp) _ hz, ok⟩, k TI (by simp) _ hTI, ⟨x, y, k TO (by simp) _ hTO⟩, h1.at fun o q => k i1 (by simp) o q, h2.at fun o q => k i2 (by simp) o q⟩
  item := by
    intro X hP hw hK hc i pins s σ H E I hf st hg
    subst hP hw hK
    obtain ⟨⟨F0, F1, hz, ok⟩, hTI, ⟨x0, y0, hTO⟩, h1, h2⟩ := st
    obtain ⟨xs, ys, x, y, hqx, hqy, hx, hy⟩ := hg
    obtain ⟨its, rv, p, _⟩ := I.list hqx
    obtain ⟨its2, rv2, p2, _⟩ := I.list hqy
    obtain ⟨u, hu, ru⟩ := rv.get hx
    obtain ⟨u2, hu2, ru2⟩ := rv2.get hy
    refine zg2_next D hz ok hTI hTO h1 h2 p.isList p2.isList (x := u) (y := u2) (by simpa using hu) (by simpa using hu2) fun h' G0 G1 c d z' ok' TO' h1' h2' hT hsz hk => ?_
    refine ⟨_, rfl, zgo_name ?_⟩
    have new : ObjOk X.prog X.w (upd H s.heap.objs.size (.tup [x, y])) h' s.heap.objs.size (.tup [x, y]) :=
      ⟨by show 2 ≤ sizeLine; decide, [u, u2], .cons ru (.cons ru2 .nil), ⟨_, hT, rfl, _, rfl⟩⟩
    have I1 : Inv X pins σ (upd H s.heap.objs.size (.tup [x, y])) { s with heap := h' } :=
      I.turnedNew (t' := s.toks) (ch := [z, TI, TO, i1, i2]) (fun c o hb q => hk c o (fun q' => hb (by simp [q'])) (fun q' => hb (by simp [q'])) (fun q' => hb (by simp [q'])) (fun q' => hb (by simp [q'])) q) hf (Nat.le_refl _) new
    refine ⟨.ref s.heap.objs.size, _, I1, rfl, ⟨_, x, y, rfl, I.hok.fresh (Nat.le_refl _), rfl, fun l hl => by rw [I.list_inj hl hqx]; exact hx, fun l hl => by rw [I.list_inj hl hqy]; exact hy⟩, ⟨⟨G0, G1, z', ok'⟩, ?_, ⟨c, d, TO'⟩, h1', h2'⟩, fun c hcm => ?_⟩
    · exact hk _ _ D.TIz D.TITO D.TIi1 D.TIi2 hTI
    · have hlt : c < s.heap.objs.size := by
        have e' : c = z ∨ c = TI ∨ c = TO ∨ c = i1 ∨ c = i2 := by simpa using hcm
        rcases e' with q | q | q | q | q
        · rw [q]; exact Heap.lt_size hz
        · rw [q]; exact Heap.lt_size hTI
        · rw [q]; exact Heap.lt_size hTO
        · rw [q]; obtain ⟨_, e1, _⟩ := h1; exact Heap.lt_size e1
        · rw [q]; obtain ⟨_, e2, _⟩ := h2; exact Heap.lt_size e2
      rw [upd_ne (Nat.ne_of_lt hlt)]
      exact (hf c hcm).1
  done := by
    intro X hP hw hK hc i pins s σ H E I hf st hg
    subst hP hw hK
    obtain ⟨⟨F0, F1, hz, ok⟩, hTI, ⟨x0, y0, hTO⟩, h1, h2⟩ := st
    obtain ⟨xs, ys, hqx, hqy, hend⟩ := hg
    obtain ⟨its, rv, p, _⟩ := I.list hqx
    obtain ⟨its2, rv2, p2, _⟩ := I.list hqy
    have l1 := rv.length
    have l2 := rv2.length
    have he : its.toArray[i]? = none ∨ its2.toArray[i]? = none := by
      rcases hend with q | q
      · exact .inl (by simp; omega)
      · exact .inr (by simp; omega)
    exact zg2_stop (I.ok.hd hc) D hz ok hTI hTO h1 h2 p.isList p2.isList he fun h' hk => ⟨rfl, I.turnedL (t' := s.toks) (ch := [z, TI, TO, i1, i2]) (fun c o hb q =>
      hk c o (fun q' => hb (by simp [q'])) (fun q' => hb (by simp [q'])) (fun q' => hb (by simp [q'])) (fun q' => hb (by simp [q'])) q) hf⟩
  self := fun A i s Q E st h => by
    obtain ⟨⟨F0, F1, hz, _⟩, _⟩ := st
    exact zg3_pyIter hz h
theorem pi_zipN {X : Cx} {e e2 : Expr} {ta : TA} {p pos px : Pos} {x : Str} (hg : Gl X "zip") (hm : X.mg "zip" = none) (ha : PA X [e, e2] ta)
    (hs : starEach [e, e2] X.env = (false, eval e X.env) :: starEach [e2] X.env := by rfl) (hpl : (backTo pos (starEach [e2] X.env)).any (·.1) = false := by rfl) :
    PI X (.Name x px) (.Call (.Name "zip" p) [e, e2] [] pos) (iZip X.K ta) := by
  refine ⟨fun pins s σ H R I h => ?_⟩
  refine Call_ (ld_blt I hg hm PyProof.Rows.boot_zip (PyProof.Rows.callWith_type1 (thn (ha.run _ pins s σ H _ I h) fun us s1 ⟨vs, H1, I1, r1, q1⟩ => ?_) hs hpl))
  obtain ⟨a, b, xs, ys, ex, hqx, hqy, q⟩ := q1
  subst ex
  obtain ⟨u1, u2, rfl, r, r'⟩ := vals2 r1
  cases r
  cases r'
  obtain ⟨its, rv, p1, _⟩ := I1.list hqx
  obtain ⟨its2, rv2, p2, _⟩ := I1.list hqy
  have la : a < s1.heap.objs.size := p1.lt
  have lb : b < s1.heap.objs.size := p2.lt
  refine call_zip_2 p1.isList p2.isList fun h' hz hTI hTO h1 h2 hsz hk => wpAny_pyIter_zip hz ?_
  have I2 : Inv X pins σ H1 { s1 with heap := h' } := I1.kept (t' := s1.toks) hk
  refine ⟨s1.heap.objs.size + 4, [s1.heap.objs.size + 4, s1.heap.objs.size + 2, s1.heap.objs.size + 3, s1.heap.objs.size, s1.heap.objs.size + 1], _, _, H1, rfl, I2, turn_zipN (PySem.W.ktu_apart s1.heap.objs.size a b la lb), ⟨⟨_, _, hz, .inl ⟨rfl, rfl⟩⟩, hTI, ⟨_, _, hTO⟩, h1, h2⟩, fun c hcm => ?_, q⟩
  have e' : c = s1.heap.objs.size + 4 ∨ c = s1.heap.objs.size + 2 ∨ c = s1.heap.objs.size + 3 ∨ c = s1.heap.objs.size ∨ c = s1.heap.objs.size + 1 := by simpa using hcm
  have hle : s1.heap.objs.size ≤ c := by
    rcases e' with z | z | z | z | z
    · rw [z]; exact Nat.le_add_right _ _
    · rw [z]; exact Nat.le_add_right _ _
    · rw [z]; exact Nat.le_add_right _ _
    · rw [z]; exact Nat.le_refl _
    · rw [z]; exact Nat.le_add_right _ _
  exact I1.fpOk hle (I1.hok.fresh hle)
/-! three lists -/
def Itz3 (K : PySem.W.Frag) (a b c : Addr) : It :=
  ⟨fun i H => ∃ (xs ys zs : List V) (x y v : V), SqL K H a xs ∧ SqL K H b ys ∧ SqL K H c zs ∧ xs[i]? = some x ∧ ys[i]? = some y ∧ zs[i]? = some v,
    fun i H u H' => ∃ T x y v, u = .ref T ∧ H T = none ∧ H' = upd H T (.tup [x, y, v]) ∧ (∀ xs, SqL K H a xs → xs[i]? = some x) ∧ (∀ ys, SqL K H b ys → ys[i]? = some y) ∧ ∀ zs, SqL K H c zs → zs[i]? = some v,
    fun i H => ∃ xs ys zs : List V, SqL K H a xs ∧ SqL K H b ys ∧ SqL K H c zs ∧ (xs.length ≤ i ∨ ys.length ≤ i ∨ zs.length ≤ i)⟩
theorem turn_zip3N {P : Program} {w : World} {K : PySem.W.Frag} {x : Str} {px : Pos} {a b d z TI TO i1 i2 i3 : Addr} (D : ZApart3 z TI TO i1 i2 i3 a b d) :
    Turn P w K (.Name x px) (Itz3 K a b d) [z, TI, TO, i1, i2, i3] z (fun i h => (∃ F0 F1, IsZG h z TI TO F0 F1 ∧ ZgOk F0 F1) ∧ IsTri h TI (.ref i1) (.ref i2) (.ref i3) ∧ (∃ x y v, IsTri h TO x y v) ∧ h.IsListIter i1 a i ∧ h.IsListIter i2 b i ∧ h.IsListIter i3 d i) where
  mem := by simp
  obj := fun i h st c hc => by
    obtain ⟨⟨F0, F1, hz, _⟩, hTI, ⟨x, y, v, hTO⟩, ⟨o1, e1, _, d1⟩, ⟨o2, e2, _, d2⟩, ⟨o3, e3, _, d3⟩⟩ := st
    have e' : c = z ∨ c = TI ∨ c = TO ∨ c = i1 ∨ c = i2 ∨ c = i3 := by simpa using hc
    rcases e' with q | q | q | q | q | q
    · rw [q]; exact ⟨_, hz, fun v q => nomatch q⟩
    · rw [q]; exact ⟨_, hTI, fun v q => nomatch q⟩
    · rw [q]; exact ⟨_, hTO, fun v q => nomatch q⟩
    · rw [q]; exact ⟨o1, e1, fun v q => by rw [d1] at q; cases q⟩
    · rw [q]; exact ⟨o2, e2, fun v q => by rw [d2] at q; cases q⟩
    · rw [q]; exact ⟨o3, e3, fun v q => by rw [d3] at q; cases q⟩
  keep := fun i h h' st k => by
    obtain ⟨⟨F0, F1, hz, ok⟩, hTI, ⟨x, y, v, hTO⟩, h1, h2, h3⟩ := st
    exact ⟨⟨F0, F1, k z (by simp) _ hz, ok⟩, k TI (by simp) _ hTI, ⟨x, y, v, k TO (by simp) _ hTO⟩, h1.at fun o q => k i1 (by simp) o q, h2.at fun o q => k i2 (by simp) o q, h3.at fun o q => k i3 (by simp) o q⟩
  item := by
    intro X hP hw hK hc i pins s σ H E I hf st hg
    subst hP hw hK
    obtain ⟨⟨F0, F1, hz, ok⟩, hTI, ⟨x0, y0, v0, hTO⟩, h1, h2, h3⟩ := st
    obtain ⟨xs, ys, zs, x, y, v, hqx, hqy, hqz, hx, hy, hv⟩ := hg
    obtain ⟨its, rv, p, _⟩ := I.list hqx
    obtain ⟨its2, rv2, p2, _⟩ := I.list hqy
    obtain ⟨its3, rv3, p3, _⟩ := I.list hqz
    obtain ⟨u, hu, ru⟩ := rv.get hx
    obtain ⟨u2, hu2, ru2⟩ := rv2.get hy
    obtain ⟨u3, hu3, ru3⟩ := rv3.get hv
    refine zg3_next D hz ok hTI hTO h1 h2 h3 p.isList p2.isList p3.isList (x := u) (y := u2) (v := u3) (by simpa using hu) (by simpa using hu2) (by simpa using hu3) fun h' G0 G1 ca cb cc z' ok' TO' h1' h2' h3' hT hsz hk => ?_
    refine ⟨_, rfl, zgo_name ?_⟩
    have new : ObjOk X.prog X.w (upd H s.heap.objs.size (.tup [x, y, v])) h' s.heap.objs.size (.tup [x, y, v]) :=
      ⟨by show 3 ≤ sizeLine; decide, [u, u2, u3], .cons ru (.cons ru2 (.cons ru3 .nil)), ⟨_, hT, rfl, _, rfl⟩⟩
    have I1 : Inv X pins σ (upd H s.heap.objs.size (.tup [x, y, v])) { s with heap := h' } :=
      I.turnedNew (t' := s.toks) (ch := [z, TI, TO, i1, i2, i3]) (fun c o hb q => hk c o (fun q' => hb (by simp [q'])) (fun q' => hb (by simp [q'])) (fun q' => hb (by simp [q'])) (fun q' => hb (by simp [q'])) (fun q' => hb (by simp [q'])) q) hf (Nat.le_refl _) new
    refine ⟨.ref s.heap.objs.size, _, I1, rfl, ⟨_, x, y, v, rfl, I.hok.fresh (Nat.le_refl _), rfl, fun l hl => by rw [I.list_inj hl hqx]; exact hx, fun l hl => by rw [I.list_inj hl hqy]; exact hy, fun l hl => by rw [I.list_inj hl hqz]; exact hv⟩, ⟨⟨G0, G1, z', ok'⟩, ?_, ⟨ca, cb, cc, TO'⟩, h1', h2', h3'⟩, fun c hcm => ?_⟩
    · exact hk _ _ D.TIz D.TITO D.TIi1 D.TIi2 D.TIi3 hTI
    · have hlt : c < s.heap.objs.size := by
        have e' : c = z ∨ c = TI ∨ c = TO ∨ c = i1 ∨ c = i2 ∨ c = i3 := by simpa using hcm
        rcases e' with q | q | q | q | q | q
        · rw [q]; exact Heap.lt_size hz
        · rw [q]; exact Heap.lt_size hTI
        · rw [q]; exact Heap.lt_size hTO
        · rw [q]; obtain ⟨_, e1, _⟩ := h1; exact Heap.lt_size e1
        · rw [q]; obtain ⟨_, e2, _⟩ := h2; exact Heap.lt_size e2
        · rw [q]; obtain ⟨_, e3, _⟩ := h3; exact Heap.lt_size e3
      rw [upd_ne (Nat.ne_of_lt hlt)]
      exact (hf c hcm).1
  done := by
    intro X hP hw hK hc i pins s σ H E I hf st hg
    subst hP hw hK
    obtain ⟨⟨F0, F1, hz, ok⟩, hTI, ⟨x0, y0, v0, hTO⟩, h1, h2, h3⟩ := st
    obtain ⟨xs, ys, zs, hqx, hqy, hqz, hend⟩ := hg
    obtain ⟨its, rv, p, _⟩ := I.list hqx
    obtain ⟨its2, rv2, p2, _⟩ := I.list hqy
    obtain ⟨its3, rv3, p3, _⟩ := I.list hqz
    have l1 := rv.length
    have l2 := rv2.length
    have l3 := rv3.length
    have he : its.toArray[i]? = none ∨ its2.toArray[i]? = none ∨ its3.toArray[i]? = none := by
      rcases hend with q | q | q
      · exact .inl (by simp; omega)
      · exact .inr (.inl (by simp; omega))
      · exact .inr (.inr (by simp; omega))
    exact zg3_stop (I.ok.hd hc) D hz ok hTI hTO h1 h2 h3 p.isList p2.isList p3.isList he fun h' hk => ⟨rfl, I.turnedL (t' := s.toks) (ch := [z, TI, TO, i1, i2, i3]) (fun c o hb q =>
      hk c o (fun q' => hb (by simp [q'])) (fun q' => hb (by simp [q'])) (fun q' => hb (by simp [q'])) (fun q' => hb (by simp [q'])) (fun q' => hb (by simp [q'])) q) hf⟩
  self := fun A i s Q E st h => by
    obtain ⟨⟨F0, F1, hz, _⟩, _⟩ := st
    exact zg3_pyIter hz h
def iZip3 (K : PySem.W.Frag) (ta : TA) : TI := fun σ H R => ta σ H fun vs H1 => ∃ a b c xs ys zs, vs = [.ref a, .ref b, .ref c] ∧ SqL K H1 a xs ∧ SqL K H1 b ys ∧ SqL K H1 c zs ∧ R (Itz3 K a b c) H1
theorem pi_zip3N {X : Cx} {e e2 e3 : Expr} {ta : TA} {p pos px : Pos} {x : Str} (hg : Gl X "zip") (hm : X.mg "zip" = none) (ha : PA X [e, e2, e3] ta)
    (hs : starEach [e, e2, e3] X.env = (false, eval e X.env) :: starEach [e2, e3] X.env := by rfl) (hpl : (backTo pos (starEach [e2, e3] X.env)).any (·.1) = false := by rfl) :
    PI X (.Name x px) (.Call (.Name "zip" p) [e, e2, e3] [] pos) (iZip3 X.K ta) := by
  refine ⟨fun pins s σ H R I h => ?_⟩
  refine Call_ (ld_blt I hg hm PyProof.Rows.boot_zip (PyProof.Rows.callWith_type1 (thn (ha.run _ pins s σ H _ I h) fun us s1 ⟨vs, H1, I1, r1, q1⟩ => ?_) hs hpl))
  obtain ⟨a, b, d, xs, ys, zs, ex, hqx, hqy, hqz, q⟩ := q1
  subst ex
  obtain ⟨us', rfl, r⟩ : ∃ us', us = [Value.ref a, Value.ref b, Value.ref d] ∧ us' = us := by
    cases r1 with
    | cons r rr =>
      cases rr with
      | cons r' rr =>
        cases rr with
        | cons r'' rr =>
          cases rr
          cases r
          cases r'
          cases r''
          exact ⟨_, rfl, rfl⟩
  obtain ⟨its, rv, p1, _⟩ := I1.list hqx
  obtain ⟨its2, rv2, p2, _⟩ := I1.list hqy
  obtain ⟨its3, rv3, p3, _⟩ := I1.list hqz
  have la : a < s1.heap.objs.size := p1.lt
  have lb : b < s1.heap.objs.size := p2.lt
  have ld : d < s1.heap.objs.size := p3.lt
  refine call_zip3 p1.isList p2.isList p3.isList fun h' hz hTI hTO h1 h2 h3 hsz hk => zg3_pyIter hz ?_
  have I2 : Inv X pins σ H1 { s1 with heap := h' } := I1.kept (t' := s1.toks) hk
  refine ⟨s1.heap.objs.size + 5, [s1.heap.objs.size + 5, s1.heap.objs.size + 3, s1.heap.objs.size + 4, s1.heap.objs.size, s1.heap.objs.size + 1, s1.heap.objs.size + 2], _, _, H1, rfl, I2, turn_zip3N (zapart3 s1.heap.objs.size a b d la lb ld), ⟨⟨_, _, hz, .inl ⟨rfl, rfl⟩⟩, hTI, ⟨_, _, _, hTO⟩, h1, h2, h3⟩, fun c hcm => ?_, q⟩
  have e' : c = s1.heap.objs.size + 5 ∨ c = s1.heap.objs.size + 3 ∨ c = s1.heap.objs.size + 4 ∨ c = s1.heap.objs.size ∨ c = s1.heap.objs.size + 1 ∨ c = s1.heap.objs.size + 2 := by simpa using hcm
  have hle : s1.heap.objs.size ≤ c := by
    rcases e' with z | z | z | z | z | z
    · rw [z]; exact Nat.le_add_right _ _
    · rw [z]; exact Nat.le_add_right _ _
    · rw [z]; exact Nat.le_add_right _ _
    · rw [z]; exact Nat.le_refl _
    · rw [z]; exact Nat.le_add_right _ _
    · rw [z]; exact Nat.le_add_right _ _
  exact I1.fpOk hle (I1.hok.fresh hle)
end L2
namespace Ovc
open PySem PySem.Spec PyProof.Rows L2
/-! ### run_sum -/
def YTri (xs ys zs : Nat → Option V) : Nat → Hp → V → Hp → Prop := fun i H u H' => ∃ T x y v, u = .ref T ∧ H T = none ∧ H' = upd H T (.tup [x, y, v]) ∧ xs i = some x ∧ ys i = some y ∧ zs i = some v
theorem walk_zip3 {K : PySem.W.Frag} {a b c : Addr} {xs ys zs : List V} {n : Nat} (hn : n = min xs.length (min ys.length zs.length)) : Walk (Itz3 K a b c) n (fun H => SqL K H a xs ∧ SqL K H b ys ∧ SqL K H c zs) (YTri (fun i => xs[i]?) (fun i => ys[i]?) (fun i => zs[i]?)) := by
  subst hn
  refine ⟨fun i _ hi q => ?_, fun _ q => ⟨xs, ys, zs, q.1, q.2.1, q.2.2, by omega⟩, fun i H v H' _ q y => ?_⟩
  · have h1 : i < xs.length := by omega
    have h2 : i < ys.length := by omega
    have h3 : i < zs.length := by omega
    exact ⟨xs, ys, zs, xs[i], ys[i], zs[i], q.1, q.2.1, q.2.2, by simp [h1], by simp [h2], by simp [h3]⟩
  · obtain ⟨T, x, y, z, h1, h2, h3, h4, h5, h6⟩ := y
    exact ⟨T, x, y, z, h1, h2, h3, h4 xs q.1, h5 ys q.2.1, h6 zs q.2.2⟩
section
variable (N : Net) (kvs : List (List L2.Key × V)) (run : List Int)
def costW (m : Nat) : List (Option Int) := (List.range m).map fun j => wA N run (j + 1)
def costX (m : Nat) : List (Option Int) := (List.range m).map fun j => xA kvs run (j + 2)
theorem costW_succ (m : Nat) : costW N run (m + 1) = costW N run m ++ [wA N run (m + 1)] := by
  unfold costW
  rw [List.range_succ, List.map_append]
  rfl
theorem costX_succ (m : Nat) : costX kvs run (m + 1) = costX kvs run m ++ [xA kvs run (m + 2)] := by
  unfold costX
  rw [List.range_succ, List.map_append]
  rfl
def valsO (l : List (Option Int)) : List Int := l.map fun o => o.getD 0
theorem sum_snoc (l : List Int) (x : Int) : (l ++ [x]).sum = l.sum + x := by
  rw [List.sum_append, List.sum_cons, List.sum_nil, Int.add_zero]
theorem sum_costs : ∀ n : Nat, (valsO (costW N run n)).sum + (valsO (costX kvs run (n - 1))).sum = sumTo N kvs run n
  | 0 => rfl
  | 1 => by
    simp [valsO, costW, costX, sumTo, xA]
  | n + 2 => by
    have ih := sum_costs (n + 1)
    rw [show n + 2 - 1 = n + 1 by omega, show n + 1 - 1 = n by omega] at *
    rw [costW_succ, costX_succ]
    unfold valsO at *
    rw [List.map_append, List.map_append, List.map_cons, List.map_nil, List.map_cons, List.map_nil, sum_snoc, sum_snoc]
    show _ = sumTo N kvs run (n + 1) + (wA N run (n + 1 + 1)).getD 0 + (xA kvs run (n + 1 + 1)).getD 0
    rw [show n + 1 + 1 = n + 2 from rfl]
    omega
theorem mem_costW {m j : Nat} (h1 : 1 ≤ j) (h2 : j < m + 1) : wA N run j ∈ costW N run m := by
  unfold costW
  exact List.mem_map.mpr ⟨j - 1, List.mem_range.mpr (by omega), by rw [show j - 1 + 1 = j by omega]⟩
theorem mem_costX {m j : Nat} (h1 : 2 ≤ j) (h2 : j < m + 2) : xA kvs run j ∈ costX kvs run m := by
  unfold costX
  exact List.mem_map.mpr ⟨j - 2, List.mem_range.mpr (by omega), by rw [show j - 2 + 2 = j by omega]⟩
variable {N kvs run}
theorem good_of {x : Int} {r : List Int} (ok : NetOk N) (hr : run = x :: r) (hx : 0 ≤ x ∧ x < N.n) (h : none ∉ costW N run (run.length - 1) ++ costX kvs run (run.length - 2)) : GoodR N kvs run := by
  have hw : ∀ j, 1 ≤ j → j < run.length → (wA N run j).isSome = true := fun j h1 h2 => by
    cases e : wA N run j with
    | some p => rfl
    | none => exact absurd (List.mem_append.mpr (.inl (e ▸ mem_costW N run h1 (by omega)))) h
  refine ⟨fun e => (by rw [hr] at e; cases e), fun p hp => ?_, hw, fun j h1 h2 => ?_⟩
  · obtain ⟨i, hi⟩ := List.mem_iff_getElem?.mp hp
    have il := (List.getElem?_eq_some_iff.mp hi).1
    cases i with
    | zero =>
      rw [hr] at hi
      cases Option.some.inj hi
      exact hx
    | succ i =>
      have hs := hw (i + 1) (by omega) il
      obtain ⟨pr, e⟩ := Option.isSome_iff_exists.mp hs
      have ep : run.getD (i + 1) 0 = p := by rw [List.getD_eq_getElem?_getD, hi]; rfl
      unfold wA at e
      rw [ep] at e
      exact (wyP_in ok e).2.1
  · by_cases c : j = 1
    · subst c
      rfl
    · cases e : xA kvs run j with
      | some p => rfl
      | none => exact absurd (List.mem_append.mpr (.inr (e ▸ mem_costX kvs run (by omega) (by omega)))) h
theorem bad_of (h : none ∈ costW N run (run.length - 1) ++ costX kvs run (run.length - 2)) : ¬ GoodR N kvs run := fun g => by
  rcases List.mem_append.mp h with h | h
  · unfold costW at h
    obtain ⟨j, hj, e⟩ := List.mem_map.mp h
    have := List.mem_range.mp hj
    have hs := g.w (j + 1) (by omega) (by omega)
    rw [e] at hs
    cases hs
  · unfold costX at h
    obtain ⟨j, hj, e⟩ := List.mem_map.mp h
    have := List.mem_range.mp hj
    have hs := g.x (j + 2) (by omega) (by omega)
    rw [e] at hs
    cases hs
end
theorem inV_non : ∀ l : List (Option Int), inV .non (l.map oV) = decide (none ∈ l)
  | [] => rfl
  | o :: l => by
    have ih := inV_non l
    unfold inV at ih ⊢
    rw [List.map_cons, List.any_cons, ih]
    cases o with
    | none => rw [decide_eq_true (List.mem_cons_self : none ∈ none :: l)]; rfl
    | some x =>
      show (false || decide (none ∈ l)) = _
      rw [Bool.false_or, Bool.eq_iff_iff, decide_eq_true_eq, decide_eq_true_eq, List.mem_cons]
      exact ⟨.inr, fun h => h.elim (fun e => nomatch e) id⟩
theorem flat_oV : ∀ l : List (Option Int), (l.map oV).all flatV = true
  | [] => rfl
  | none :: l => flat_oV l
  | some _ :: l => flat_oV l
theorem vals_oV : ∀ l : List (Option Int), none ∉ l → l.map oV = (valsO l).map V.int
  | [], _ => rfl
  | none :: l, h => absurd List.mem_cons_self h
  | some x :: l, h => by
    show V.int x :: l.map oV = V.int x :: (valsO l).map V.int
    rw [vals_oV l fun z => h (List.mem_cons_of_mem _ z)]
theorem cut_fromAny (xs : List V) (k : Nat) : cutV xs (some (k : Nat)) none = xs.drop k := by
  unfold cutV
  rw [show HT.sIx xs.length 0 (some (k : Nat)) = min k xs.length from HT.sIx_nat _ 0 k, HT.sIx_none]
  by_cases c : k ≤ xs.length
  · rw [Nat.min_eq_left c]
    exact List.take_of_length_le (by rw [List.length_drop]; exact Nat.le_refl _)
  · rw [Nat.min_eq_right (by omega), List.drop_of_length_le (Nat.le_refl _), List.drop_of_length_le (by omega), List.take_nil]
section
variable {K : PySem.W.Frag} {σ : L2.St} {H : Hp} {ta : TE} {a : Addr} {xs : List V} {Q : VK}
/-- xs[k:] -/
theorem mk_cutFrom {k : Nat} (ha : Vl ta σ H (.ref a)) (hx : SqL K H a xs) (q : ∀ p, H p = none → Q (.ref p) (upd H p (.lst (xs.drop k)))) : tSl (rSlL K) ta (tPart (tC (.int (k : Nat)))) tNoPart σ H Q := ha _ ⟨(k : Nat), rfl, a, xs, rfl, hx, fun p np => by
  rw [cut_fromAny]
  exact q p np⟩
end
def spRunSum (K : PySem.W.Frag) : Sp := fun vs H Q _ => ∃ (v : V) (N : Net) (td b : Addr) (kvs : List (List L2.Key × V)) (run : List Int), vs = [v, .ref td, .ref b] ∧ Dp K H v (netD N) ∧ NetOk N ∧ H td = some (.dT kvs) ∧ TrnOk kvs ∧ SqL K H b (run.map V.int) ∧ run.length ≤ 1000 ∧ ∀ H', Same H H' → Q (oV (resR N kvs run)) H'
section
variable {P : Program} {w : World} {K : PySem.W.Frag} {mg : Str → Option Value} {base : Heap}
end
/-! ### the law's sum of a run -/
section
variable {K : PySem.W.Frag} {σ : L2.St} {H : Hp} {tl te : TE} {tt : TT} {Q : VK}
/-- [f (u, v) for u, v in pairs if ..] -/
theorem lc_pairs9 {j1 j2 : Nat} {pb : Int × Int → Bool} {f : Int × Int → Int} {G : List (Int × Int) → Prop} (hs : ∀ v1 v2 : V, wipe (((wipe σ [j1, j2]).set j1 (some v1)).set j2 (some v2)) [j1, j2] = wipe σ [j1, j2])
    (hl : ∀ Q' : VK, (∀ a H1 ts L, Same H H1 → H1 a = some (.lst ts) → TupsAt H1 ts L → G L → Q' (.ref a) H1) → tl σ H Q') (hG : ∀ L, G L → L.length ≤ 10000)
    (ht : ∀ (u v : Int) H', Same H H' → An tt (((wipe σ [j1, j2]).set j1 (some (.int u))).set j2 (some (.int v))) H' (pb (u, v))) (he : ∀ (u v : Int) H', Vl te (((wipe σ [j1, j2]).set j1 (some (.int u))).set j2 (some (.int v))) H' (.int (f (u, v))))
    (q : ∀ D H2 L, Same H H2 → G L → H2 D = some (.lst (((L.filter pb).map f).map V.int)) → Q (.ref D) H2) :
    tLc (iList K tl) (gTup K 2 (gCons (gName j1) (gCons (gName j2) gNil))) tt te [j1, j2] σ H Q := by
  refine hl _ fun a H1 ts L s1 ea hT g => ⟨a, rfl, ⟨ts, .of ea⟩, fun D nD => lc_list (K := K) (a := a) (xs := ts) (fun i H' => H' D = some (.lst ((((L.take i).filter pb).map f).map V.int)) ∧ Same H1 H') ⟨upd_same, same_upd nD⟩ (fun i H' _ hP => .of (hP.2 _ _ ea)) (fun i x H2 hi hP => ?_) (fun H2 hP => ?_)⟩
  · have hl := hG L g
    obtain ⟨hD, s2⟩ := hP
    have hlt := (List.getElem?_eq_some_iff.mp hi).1
    have hg : L[i]? = some (L[i]'(by rw [← hT.len]; exact hlt)) := List.getElem?_eq_getElem _
    generalize L[i]'(by rw [← hT.len]; exact hlt) = p at hg
    obtain ⟨u, v⟩ := p
    obtain ⟨t, t1, t2⟩ := hT.at_ i u v hg
    cases hi.symm.trans t1
    refine ⟨t, _, rfl, .of (s2 _ _ t2), rfl, _, _, rfl, _, _, rfl, rfl, hs _ _, ht u v H2 (s1.trans s2) _ ?_⟩
    rw [take_snoc hg, List.filter_append]
    cases e2 : pb (u, v) with
    | true =>
      refine iteT (he u v H2 _ ⟨_, hD, ?_, ?_, same_upd' s2 nD⟩)
      · rw [List.length_map, List.length_map]
        have h1 := List.length_filter_le pb (L.take i)
        rw [List.length_take] at h1
        exact Nat.lt_of_le_of_lt (m := 10000) (by omega) (by decide)
      · rw [upd_same, List.filter_cons_of_pos e2, List.map_append, List.map_append]
        rfl
    | false =>
      refine iteF ⟨?_, s2⟩
      rw [List.filter_cons_of_neg (by rw [e2]; exact Bool.false_ne_true), List.filter_nil, List.append_nil]
      exact hD
  · obtain ⟨hD, s2⟩ := hP
    rw [hT.len, List.take_length] at hD
    exact q D H2 L (s1.trans s2) g hD
theorem shaped_ints9 (r : List Int) : SeqAt.shaped (.list (r.map PyData.int)) = true := by
  have h := lay_ints r
  show (PyData.canLayAll0 (r.map PyData.int) && decide (PyData.depthAll (r.map PyData.int) + 1 ≤ 64)) = true
  rw [h.1, h.2]
  rfl
theorem dp_ints9 : ∀ r : List Int, DpAll K H (r.map V.int) (r.map PyData.int)
  | [] => .nil
  | x :: r => .cons (.int x) (dp_ints9 r)
end
section
variable {P : Program} {w : World} {K : PySem.W.Frag} {mg : Str → Option Value} {base : Heap}
end
/-! ### how long a text of data is -/
theorem textFrom_le : ∀ (ts : List Str) (k : Nat) (acc : Str), (textFrom k acc ts).length ≤ acc.length + piled ts
  | [], k, acc => Nat.le_add_right _ _
  | t :: r, k, acc => by
    have h := textFrom_le r (k + 1) (acc ++ (if k > 0 then ", " else "" : String) ++ t)
    have e : (acc ++ (if k > 0 then ", " else "" : String) ++ t).length ≤ acc.length + 2 + t.length := by
      rw [strLen_append, strLen_append]
      split
      · have : (Str.ofString ", ").length = 2 := by decide +kernel
        omega
      · have : (Str.ofString "").length = 0 := by decide +kernel
        omega
    show (textFrom (k + 1) _ r).length ≤ acc.length + piled (t :: r)
    rw [piled_cons]
    omega
theorem listText_le (ts : List Str) : (listText ts).length ≤ piled ts + 2 := by
  unfold listText
  rw [strLen_append]
  have h := textFrom_le ts 0 "["
  have e1 : ("[" : Str).length = 1 := by decide +kernel
  have e2 : ("]" : Str).length = 1 := by decide +kernel
  omega
theorem tupleText_le (ts : List Str) : (tupleText ts).length ≤ piled ts + 4 := by
  unfold tupleText
  rw [strLen_append, strLen_append]
  have e1 : ("(" : Str).length = 1 := by decide +kernel
  have e2 : ((if ts.length == 1 then ",)" else ")" : String) : Str).length ≤ 2 := by
    split
    · exact Nat.le_of_eq (by decide +kernel)
    · exact Nat.le_trans (Nat.le_of_eq (by decide +kernel)) (show 1 ≤ 2 by decide)
  by_cases h : ts = []
  · subst h
    have e3 : (Str.join ", " []).length = 0 := by decide +kernel
    omega
  · have := join_length_add ts h
    omega
theorem piled_le {ds : List PyData} {m : Nat} (h : ∀ d ∈ ds, d.shown.length ≤ m) : piled (PyData.shownAll ds) ≤ ds.length * (m + 2) := by
  induction ds with
  | nil => exact Nat.zero_le _
  | cons d r ih =>
    show piled (d.shown :: PyData.shownAll r) ≤ _
    rw [piled_cons, List.length_cons, Nat.succ_mul]
    have h1 := h d List.mem_cons_self
    have h2 := ih fun x hx => h x (List.mem_cons_of_mem _ hx)
    omega
theorem shown_int {i : Int} (h0 : 0 ≤ i) (h1 : i ≤ 10000000) : (PyData.int i).shown.length ≤ 10 := PySem.W.KT.len_num h0 (by omega)
theorem shown_o {o : Option Int} (h : PriceOk o) : (oD o).shown.length ≤ 10 := by
  cases o with
  | none =>
    show ("None" : Str).length ≤ 10
    decide +kernel
  | some x =>
    have := h x rfl
    exact shown_int (by omega) (by omega)
theorem showable_int {i : Int} (h0 : 0 ≤ i) (h1 : i ≤ 10000000) : (PyData.int i).showable = true := by
  refine decide_eq_true ?_
  by_cases hz : i.natAbs = 0
  · rw [hz]
    decide
  · rw [Nat.log2_lt hz]
    have h : i.natAbs < 2 ^ 24 := by omega
    exact Nat.lt_of_lt_of_le h (Nat.pow_le_pow_right (by decide : 2 > 0) (show 24 ≤ 1920 by decide))
theorem showable_o {o : Option Int} (h : PriceOk o) : (oD o).showable = true := by
  cases o with
  | none => rfl
  | some x =>
    have := h x rfl
    exact showable_int (by omega) (by omega)
theorem showable_all {ds : List PyData} (h : ∀ d ∈ ds, d.showable = true) : PyData.showableAll ds = true := by
  induction ds with
  | nil => rfl
  | cons d r ih =>
    show (d.showable && PyData.showableAll r) = true
    rw [h d List.mem_cons_self, ih fun x hx => h x (List.mem_cons_of_mem _ hx)]
    rfl
/-- what repr asks of data -/
structure ShowOk (d : PyData) (m : Nat) : Prop where
  sh : d.showable = true
  nd : d.hasDict = false
  dep : d.depth ≤ 10
  len : d.shown.length ≤ m
theorem showOk_net {N : Net} (ok : NetOk N) : ShowOk (netD N) 200000 := by
  have n1 := ok.n1
  have n40 := ok.n40
  have l16 := ok.len
  have hl : ∀ d ∈ N.ls.map lnkD, d.shown.length ≤ 60 ∧ d.showable = true := fun d hd => by
    obtain ⟨l, hl, rfl⟩ := List.mem_map.mp hd
    have h := ok.ok l hl
    have a0 := h.a0
    have ab := h.ab
    have bn := h.bn
    have s1 := shown_int (i := l.a) (by omega) (by omega)
    have s2 := shown_int (i := l.b) (by omega) (by omega)
    have s3 := shown_o h.t
    have s4 := shown_o h.k
    constructor
    · show (tupleText (PyData.shownAll [.int l.a, .int l.b, oD l.t, oD l.k])).length ≤ 60
      have := tupleText_le (PyData.shownAll [.int l.a, .int l.b, oD l.t, oD l.k])
      have p := piled_le (ds := [.int l.a, .int l.b, oD l.t, oD l.k]) (m := 10) (fun d hd => by
        simp only [List.mem_cons, List.not_mem_nil, or_false] at hd
        rcases hd with rfl | rfl | rfl | rfl <;> assumption)
      have e : ([.int l.a, .int l.b, oD l.t, oD l.k] : List PyData).length = 4 := rfl
      rw [e] at p
      omega
    · show (PyData.showableAll [.int l.a, .int l.b, oD l.t, oD l.k]) = true
      refine showable_all fun d hd => ?_
      simp only [List.mem_cons, List.not_mem_nil, or_false] at hd
      rcases hd with rfl | rfl | rfl | rfl
      · exact showable_int (by omega) (by omega)
      · exact showable_int (by omega) (by omega)
      · exact showable_o h.t
      · exact showable_o h.k
  have p := piled_le (ds := N.ls.map lnkD) (m := 60) fun d hd => (hl d hd).1
  rw [List.length_map] at p
  have q := listText_le (PyData.shownAll (N.ls.map lnkD))
  have s1 := shown_int (i := N.n) (by omega) (by omega)
  refine ⟨?_, PyData.hasDict_of_canLay _ (lay_net N).1, Nat.le_trans (lay_net N).2 (by decide), ?_⟩
  · show (PyData.showableAll [.int N.n, .list (N.ls.map lnkD)]) = true
    refine showable_all fun d hd => ?_
    simp only [List.mem_cons, List.not_mem_nil, or_false] at hd
    rcases hd with rfl | rfl
    · exact showable_int (by omega) (by omega)
    · exact showable_all fun d hd => (hl d hd).2
  · show (tupleText (PyData.shownAll [.int N.n, .list (N.ls.map lnkD)])).length ≤ 200000
    have := tupleText_le (PyData.shownAll [.int N.n, .list (N.ls.map lnkD)])
    have p2 := piled_le (ds := [.int N.n, .list (N.ls.map lnkD)]) (m := 99902) (fun d hd => by
      simp only [List.mem_cons, List.not_mem_nil, or_false] at hd
      rcases hd with rfl | rfl
      · omega
      · show (listText (PyData.shownAll (N.ls.map lnkD))).length ≤ 99902
        omega)
    have e : ([.int N.n, .list (N.ls.map lnkD)] : List PyData).length = 2 := rfl
    rw [e] at p2
    omega
theorem dictText_le (ts : List Str) : (dictText ts).length ≤ piled ts + 2 := by
  unfold dictText
  rw [strLen_append, strLen_append]
  have e1 : ("{" : Str).length = 1 := by decide +kernel
  have e2 : ("}" : Str).length = 1 := by decide +kernel
  by_cases h : ts = []
  · subst h
    have e3 : (Str.join ", " []).length = 0 := by decide +kernel
    omega
  · have := join_length_add ts h
    omega
/-- what is asked of a dict of turns that is shown -/
structure TdOk (kvs : List (List L2.Key × V)) : Prop where
  sh : (PyData.dict (tdD kvs)).showable = true
  dep : (PyData.dict (tdD kvs)).depth ≤ 50
  len : (PyData.dict (tdD kvs)).shown.length ≤ 50000
  fl : ∀ p ∈ kvs, flatO p.2
theorem TrnOk.shows {kvs : List (List L2.Key × V)} (h : TrnOk kvs) : TdOk kvs := by
  have key : ∀ ks : List (List L2.Key × V), (∀ p ∈ ks, ∃ (a b c : Int) (o : Option Int), p = ([Sum.inl a, Sum.inl b, Sum.inl c], oV o) ∧ ((0 ≤ a ∧ a ≤ 40) ∧ (0 ≤ b ∧ b ≤ 40) ∧ (0 ≤ c ∧ c ≤ 40)) ∧ ∀ x, o = some x → 0 ≤ x ∧ x ≤ 1000000) →
      PyData.showableKv (tdD ks) = true ∧ PyData.depthKv (tdD ks) ≤ 1 ∧ piled (PyData.shownKv (tdD ks)) ≤ ks.length * 100 ∧ ∀ p ∈ ks, flatO p.2 := fun ks => by
    induction ks with
    | nil => exact fun _ => ⟨rfl, Nat.zero_le _, Nat.le_refl _, fun p hp => (nomatch hp)⟩
    | cons p ks ih =>
      intro hk
      obtain ⟨i1, i2, i3, i4⟩ := ih fun z hz => hk z (List.mem_cons_of_mem _ hz)
      obtain ⟨a, b, c, o, rfl, ⟨ha, hb, hc⟩, ho⟩ := hk p List.mem_cons_self
      have sa := shown_int (i := a) (by omega) (by omega)
      have sb := shown_int (i := b) (by omega) (by omega)
      have sc := shown_int (i := c) (by omega) (by omega)
      have ev : valD (oV o) = oD o := by cases o <;> rfl
      have so : (oD o).shown.length ≤ 10 ∧ (oD o).showable = true ∧ (oD o).depth = 0 := by
        cases o with
        | none => exact ⟨by show ("None" : Str).length ≤ 10; decide +kernel, rfl, rfl⟩
        | some x =>
          have := ho x rfl
          exact ⟨shown_int (by omega) (by omega), showable_int (by omega) (by omega), rfl⟩
      have each : ∀ d ∈ [PyData.int a, PyData.int b, PyData.int c], d.shown.length ≤ 10 ∧ d.showable = true := fun d hd => by
        simp only [List.mem_cons, List.not_mem_nil, or_false] at hd
        rcases hd with rfl | rfl | rfl
        · exact ⟨sa, showable_int (by omega) (by omega)⟩
        · exact ⟨sb, showable_int (by omega) (by omega)⟩
        · exact ⟨sc, showable_int (by omega) (by omega)⟩
      have tt := tupleText_le (PyData.shownAll [.int a, .int b, .int c])
      have tp := piled_le (ds := [.int a, .int b, .int c]) (m := 10) fun d hd => (each d hd).1
      have e3 : ([.int a, .int b, .int c] : List PyData).length = 3 := rfl
      rw [e3] at tp
      refine ⟨?_, ?_, ?_, fun z hz => ?_⟩
      · show (PyData.showableAll [.int a, .int b, .int c] && (valD (oV o)).showable && PyData.showableKv (tdD ks)) = true
        rw [showable_all fun d hd => (each d hd).2, ev, so.2.1, i1]
        rfl
      · show max (max (PyData.tuple [.int a, .int b, .int c]).depth (valD (oV o)).depth) (PyData.depthKv (tdD ks)) ≤ 1
        rw [ev, so.2.2]
        have : (PyData.tuple [.int a, .int b, .int c]).depth = 1 := rfl
        omega
      · show piled (((PyData.tuple [.int a, .int b, .int c]).shown ++ ": " ++ (valD (oV o)).shown) :: PyData.shownKv (tdD ks)) ≤ _
        rw [piled_cons, ev, strLen_append, strLen_append, List.length_cons, Nat.succ_mul]
        have ec : (": " : Str).length = 2 := by decide +kernel
        have et : (PyData.tuple [.int a, .int b, .int c]).shown.length ≤ 40 := by
          show (tupleText (PyData.shownAll [.int a, .int b, .int c])).length ≤ 40
          omega
        have := so.1
        omega
      · rcases List.mem_cons.mp hz with rfl | hz
        · cases o with
          | none => exact .inl rfl
          | some x => exact .inr ⟨x, rfl⟩
        · exact i4 z hz
  obtain ⟨k1, k2, k3, k4⟩ := key kvs h.at_
  have hl := h.len
  refine ⟨k1, ?_, ?_, k4⟩
  · show PyData.depthKv (tdD kvs) + 1 ≤ 50
    omega
  · show (dictText (PyData.shownKv (tdD kvs))).length ≤ 50000
    have := dictText_le (PyData.shownKv (tdD kvs))
    omega
section
variable {K : PySem.W.Frag} {σ : L2.St} {H : Hp}
/-- repr((net, turns)) -/
theorem ve_reprTD {ta tb : TE} {p td : Addr} {N : Net} {kvs : List (List L2.Key × V)} (h1 : Vl ta σ H (.ref p)) (h2 : Vl tb σ H (.ref td)) (ok : NetOk N) (hN : Dp K H (.ref p) (netD N)) (ht : H td = some (.dT kvs)) (hk : TdOk kvs) :
    Ve (tCB (rReprTD K) (tCons (tTup (tCons ta (tCons tb tNil))) tNil)) σ H (.str (PyData.tuple [netD N, .dict (tdD kvs)]).shown) := fun Q q => h1 _ (h2 _ ⟨by show 2 ≤ sizeLine; decide, fun T nT => by
  have sN := showOk_net ok
  have l1 := sN.len
  have l2 := hk.len
  refine ⟨T, .ref p, td, netD N, kvs, rfl, upd_same, Dp.to hN (same_upd nT), sN.sh, sN.nd, Nat.le_trans sN.dep (by decide), same_upd nT _ _ ht, hk.fl, hk.sh, hk.dep, ?_, Nat.le_trans l1 (by decide), Nat.le_trans l2 (by decide), q _ (same_upd nT)⟩
  have tt := tupleText_le (PyData.shownAll [netD N, .dict (tdD kvs)])
  have tp := piled_le (ds := [netD N, .dict (tdD kvs)]) (m := 200000) fun d hd => by
    simp only [List.mem_cons, List.not_mem_nil, or_false] at hd
    rcases hd with rfl | rfl
    · exact l1
    · exact Nat.le_trans l2 (by decide)
  have e2 : ([netD N, .dict (tdD kvs)] : List PyData).length = 2 := rfl
  rw [e2] at tp
  show (tupleText (PyData.shownAll [netD N, .dict (tdD kvs)])).length ≤ sizeLine
  exact Nat.le_trans (m := 500000) (by omega) (by decide)⟩)
end
theorem last_at9 {xs : List V} {x : V} (h : xs[xs.length - 1]? = some x) (hl : 1 ≤ xs.length) : atI xs (-1) = some x := by
  have e : ixN xs.length (-1) = some (xs.length - 1) := by
    unfold ixN
    rw [if_neg (by omega), if_pos (by omega)]
    congr 1
    omega
  unfold atI
  rw [e]
  exact h
/-! ### k37: the law -/
abbrev sLaw : Stmt := topS 32
theorem scLaw : FnScope ["script", "draws", "net", "kept", "turn", "start", "goal", "count", "due"] ["script"] (defScope sLaw) := ⟨rfl, rfl, rfl, by decide +kernel, rfl, by decide +kernel, by decide +kernel⟩
def spLaw (K : PySem.W.Frag) : Sp := fun vs H Q _ => ∃ (a : Addr) (ns : List Int), vs = [.ref a] ∧ SqL K H a (ns.map V.int) ∧ ns.length ≤ 63 ∧ ∀ H', Q (.bl true) H'
theorem t37s {n s g c : Int} {b : Bool} (h : ¬ (0 ≤ s ∧ s < n)) : told37 n s g c b = (("place", s) : Str × Int) := if_pos h
theorem t37g {n s g c : Int} {b : Bool} (h : 0 ≤ s ∧ s < n) (h2 : ¬ (0 ≤ g ∧ g < n)) : told37 n s g c b = (("place", g) : Str × Int) := by
  unfold told37
  rw [if_neg (fun z => z h), if_pos h2]
theorem t37t {n s g c : Int} {b : Bool} (h : 0 ≤ s ∧ s < n) (h2 : 0 ≤ g ∧ g < n) (h3 : ¬ (b = false ∧ ¬ (1 ≤ c ∧ c ≤ 8))) : told37 n s g c b = (("told", 0) : Str × Int) := by
  unfold told37
  rw [if_neg (fun z => z h), if_neg (fun z => z h2), if_neg h3]
theorem told37_true {n s g c : Int} : told37 n s g c true = told37 n s g 1 true := by
  unfold told37
  rw [if_neg (fun h : true = false ∧ ¬ (1 ≤ c ∧ c ≤ 8) => Bool.false_ne_true h.1.symm), if_neg (fun h : true = false ∧ ¬ ((1 : Int) ≤ 1 ∧ (1 : Int) ≤ 8) => Bool.false_ne_true h.1.symm)]
def toldD (z : Str × Int) : PyData := .tuple [.str z.1, .int z.2]
theorem shaped_told {x : Str} {z : Int} (hx : PyData.canLay0 (.str x) = true) : SeqAt.shaped (.tuple [.str x, .int z]) = true := by
  show ((PyData.canLay0 (.str x) && true) && _) = true
  rw [hx]
  rfl
theorem shaped37 {n s g c : Int} {b : Bool} : SeqAt.shaped (toldD (told37 n s g c b)) = true := by
  have h : ∃ (x : Str) (z : Int), told37 n s g c b = (x, z) ∧ PyData.canLay0 (.str x) = true := by
    unfold told37
    by_cases h1 : 0 ≤ s ∧ s < n
    · rw [if_neg (fun z => z h1)]
      by_cases h2 : 0 ≤ g ∧ g < n
      · rw [if_neg (fun z => z h2)]
        by_cases h3 : b = false ∧ ¬ (1 ≤ c ∧ c ≤ 8)
        · rw [if_pos h3]
          exact ⟨_, _, rfl, by decide +kernel⟩
        · rw [if_neg h3]
          exact ⟨_, _, rfl, by decide +kernel⟩
      · rw [if_pos h2]
        exact ⟨_, _, rfl, by decide +kernel⟩
    · rw [if_pos h1]
      exact ⟨_, _, rfl, by decide +kernel⟩
  obtain ⟨x, z, e, hx⟩ := h
  rw [e]
  exact shaped_told hx
theorem eqv37 {n s g c : Int} : PyData.eqv (.tuple [.str (told37 n s g c true).1, .int (told37 n s g c true).2]) (.tuple [.str "told", .int 0]) = decide (0 ≤ s ∧ s < n ∧ 0 ≤ g ∧ g < n) := by
  have e1 : PyData.eqv (.str "place") (.str "told") = false := by decide +kernel
  have e2 : PyData.eqv (.str "told") (.str "told") = true := by decide +kernel
  by_cases h1 : 0 ≤ s ∧ s < n
  · by_cases h2 : 0 ≤ g ∧ g < n
    · rw [t37t h1 h2 (fun z => by cases z.1), decide_eq_true ⟨h1.1, h1.2, h2.1, h2.2⟩]
      show (PyData.eqv (.str "told") (.str "told") && (((0 : Int) == 0) && true)) = _
      rw [e2]
      rfl
    · rw [t37g h1 h2, decide_eq_false (fun z => h2 ⟨z.2.2.1, z.2.2.2⟩)]
      show (PyData.eqv (.str "place") (.str "told") && ((g == 0) && true)) = _
      rw [e1]
      rfl
  · rw [t37s h1, decide_eq_false (fun z => h1 ⟨z.1, z.2.1⟩)]
    show (PyData.eqv (.str "place") (.str "told") && ((s == 0) && true)) = _
    rw [e1]
    rfl
section
variable {P : Program} {w : World} {K : PySem.W.Frag} {mg : Str → Option Value} {base : Heap}
theorem ok_law {f : Addr} {fd : FuncData} {k1 k2 k3 : Nat} (l1 : k1 ≤ 60) (l2 : k2 ≤ 60) (l3 : k3 ≤ 60) (F : Fun K "law" "law" sLaw f fd) (c_law_draws : Kal P w K mg base 1 "_law_draws" ["script"] (spDraws K)) (c_law_net : Kal P w K mg base k1 "_law_net" ["draws", "first", "most"] (spNet K)) (c_law_at : Kal P w K mg base k2 "_law_at" ["draws", "k", "many"] (spAt K)) (c_law_told : Kal P w K mg base k3 "_law_told" ["net", "start", "goal", "count", "is_turns"] (spTold37 K))
    (mr : mg "range" = none) (mi : mg "int" = none) (mrepr : mg "repr" = none) : FnG P w K mg base f fd ["script"] (spLaw K) := by
  refine okG (k := 60) F scLaw ⟨rfl, by decide, by decide⟩ (fun vs H Q E h => ?_) (fun cdv s H vs Q E hr h => ?_)
  · obtain ⟨a, ns, rfl, _⟩ := h
    rfl
  · obtain ⟨a, ns, rfl, hS, hlen, q⟩ := h
    have hu := hu_of hr
    refine ⟨_, pss_cons (ps_set (i := 1) scLaw.nd rfl (.inl rfl) (pe_k c_law_draws hr (by first | decide | omega) (by rfl) (pa_cons (pv 0) pa_nil)))
      (pss_cons (ps_set (i := 2) scLaw.nd rfl (.inl rfl) (pe_k c_law_net hr (by first | decide | omega) (by rfl) (pa_cons (pv 1) (pa_cons pe_int (pa_cons pe_int pa_nil)))))
      (pss_cons (ps_set (i := 3) scLaw.nd rfl (.inl rfl) (pe_callB (call_reprD rfl hr.units) (by rfl) mrepr (by decide +kernel) (pa_cons (pv 2) pa_nil)))
      (pss_cons (ps_for PassesOwn.never rfl (pi_range1 (by rfl) mr (pa_cons pe_int pa_nil)) (pg_name (i := 4) scLaw.nd rfl (.inl rfl))
      (pss_cons (ps_set (i := 5) scLaw.nd rfl (.inl rfl) (pe_op op_sub (pe_k c_law_at hr (by first | decide | omega) (by rfl) (pa_cons (pv 1) (pa_cons (pe_op op_add pe_int (pv 4)) (pa_cons (pe_op op_add (pe_ix ix_tup (pv 2) pe_int (fun _ _ => rfl)) pe_int) pa_nil)))) pe_int))
        (pss_cons (ps_set (i := 6) scLaw.nd rfl (.inl rfl) (pe_op op_sub (pe_k c_law_at hr (by first | decide | omega) (by rfl) (pa_cons (pv 1) (pa_cons (pe_op op_add pe_int (pv 4)) (pa_cons (pe_op op_add (pe_ix ix_tup (pv 2) pe_int (fun _ _ => rfl)) pe_int) pa_nil)))) pe_int))
        (Evl.pss_cut (ps_if (pt_cmpR op_eq (pe_k c_law_at hr (by first | decide | omega) (by rfl) (pa_cons (pv 1) (pa_cons (pe_op op_add pe_int (pv 4)) (pa_cons pe_int pa_nil)))) pe_int (nomark _))
        (pss_one (ps_set (i := 6) scLaw.nd rfl (.inl rfl) (pe_op op_add (pe_ix ix_tup (pv 2) pe_int (fun _ _ => rfl)) (pe_k c_law_at hr (by first | decide | omega) (by rfl) (pa_cons (pv 1) (pa_cons (pe_op op_add pe_int (pv 4)) (pa_cons pe_int pa_nil)))))))
        pss_nil)
        (pss_cons (ps_set (i := 7) scLaw.nd rfl (.inl rfl) (pe_ix ix_list (pe_lst (pa_cons (pe_op op_sub (pe_k c_law_at hr (by first | decide | omega) (by rfl) (pa_cons (pv 1) (pa_cons (pe_op op_add pe_int (pv 4)) (pa_cons pe_int pa_nil)))) pe_int) (pa_cons (pe_op op_add pe_int (pe_k c_law_at hr (by first | decide | omega) (by rfl) (pa_cons (pv 1) (pa_cons (pe_op op_add pe_int (pv 4)) (pa_cons pe_int pa_nil))))) pa_nil))) (pe_callTy call_int1 (by rfl) mi (by decide +kernel) (pa_cons (pe_cmpR op_eq (pe_k c_law_at hr (by first | decide | omega) (by rfl) (pa_cons (pv 1) (pa_cons (pe_op op_add pe_int (pv 4)) (pa_cons pe_int pa_nil)))) pe_int (nomark _)) pa_nil)) (fun _ _ => rfl)))
        (pss_cons (ps_set (i := 8) scLaw.nd rfl (.inl rfl) (pe_tup (pa_cons pe_str (pa_cons pe_int pa_nil))))
        (Evl.pss_cut (ps_if (pt_not (pt_chain op_le op_lt pe_int (pv 5) (pe_ix ix_tup (pv 2) pe_int (fun _ _ => rfl))))
        (pss_one (ps_set (i := 8) scLaw.nd rfl (.inl rfl) (pe_tup (pa_cons pe_str (pa_cons (pv 5) pa_nil)))))
        (pss_one (ps_if (pt_not (pt_chain op_le op_lt pe_int (pv 6) (pe_ix ix_tup (pv 2) pe_int (fun _ _ => rfl))))
          (pss_one (ps_set (i := 8) scLaw.nd rfl (.inl rfl) (pe_tup (pa_cons pe_str (pa_cons (pv 6) pa_nil)))))
          pss_nil)))
        (pss_cons (ps_if (pt_cmpR (op_neD hr.units) (pe_k c_law_told hr (by first | decide | omega) (by rfl) (pa_cons (pv 2) (pa_cons (pv 5) (pa_cons (pv 6) (pa_cons (pv 7) (pa_cons pe_bl pa_nil)))))) (pv 8) (nomark _))
        (pss_one (ps_ret pe_bl))
        pss_nil)
        (Evl.pss_cut (ps_if (PW.pt (pw_and (pt_cmpR (op_eqD hr.units) (pv 8) (pe_tup (pa_cons pe_str (pa_cons pe_int pa_nil))) (nomark _)) (pw_and1 (pt_not (pt_chain op_le op_le pe_int (pv 7) pe_int)))))
        (pss_one (ps_set (i := 8) scLaw.nd rfl (.inl rfl) (pe_tup (pa_cons pe_str (pa_cons (pv 7) pa_nil)))))
        pss_nil)
        (pss_one (ps_if (PW.pt (pw_or (pt_cmpR (op_neD hr.units) (pe_k c_law_told hr (by first | decide | omega) (by rfl) (pa_cons (pv 2) (pa_cons (pv 5) (pa_cons (pv 6) (pa_cons (pv 7) (pa_cons pe_bl pa_nil)))))) (pv 8) (nomark _)) (pw_or1 (pt_cmpR op_ne (pe_callB (call_reprD rfl hr.units) (by rfl) mrepr (by decide +kernel) (pa_cons (pv 2) pa_nil)) (pv 3) (nomark _)))))
        (pss_one (ps_ret pe_bl))
        pss_nil)))))))))))
      (pss_one (ps_ret pe_bl))))), ?_⟩
    refine q_asgE ⟨.ref a, rfl, a, ns, rfl, hS, hlen, fun H1 d ds s1 nd hd hok => ?_⟩
    have hD1 : SqL K H1 d (ds.map V.int) := .of hd
    refine q_asgE ⟨.ref d, rfl, d, ds, 0, 7, rfl, hD1, by decide, by decide, by decide, fun H2 v N s2 hN ok hn => ?_⟩
    obtain ⟨p, c0, xs, rfl, hp, hc, hx⟩ := id hN
    have n1 := ok.n1
    have n40 := ok.n40
    have sh := showOk_net ok
    have rp : ∀ (σ : L2.St) H', Same H2 H' → σ[2]? = some (some (.ref p)) → Ve (tCB (rRepr K) (tCons (tVar 2) tNil)) σ H' (.str (netD N).shown) := fun σ H' s' e => ve_repr1 (vl_var e) (hN.to s').dp sh.sh sh.nd (Nat.le_trans sh.dep (by decide)) (Nat.le_trans sh.len (by decide))
    refine q_asgV (rp _ H2 (Same.refl _) rfl) fun H3 s3 => ?_
    generalize (netD N).shown = ks at rp ⊢
    have hN3 := hN.to s3
    have hD3 := (s2.trans s3).seq hD1
    refine q_forR (n := 5) (va_cons vl_c va_nil) ⟨by decide, by decide⟩
      (fun i σ H' => ∃ y4 y5 y6 y7 y8, σ = [some (.ref a), some (.ref d), some (.ref p), some (.str ks), y4, y5, y6, y7, y8] ∧ Same H3 H')
      ⟨_, _, _, _, _, rfl, Same.refl _⟩ (fun i σ H4 hi hP => ?_) (fun σ H4 hP => g_ret vl_c (q _))
    obtain ⟨y4, y5, y6, y7, y8, rfl, s4⟩ := hP
    have pn : ∀ {H'}, Same H3 H' → SqT K H' p [.int N.n, .ref c0] := fun s' => .of ((s3.trans s') _ _ hp)
    -- start, goal
    refine q_asgE ⟨.ref d, rfl, (vl_I0 (g := fun i j => .int (i + j)) vl_c (vl_var rfl)) _ ((vl_I0 (g := fun i j => .int (i + j)) (vl_ixT (K := K) (vl_var rfl) vl_c (pn s4) (atI_nat (j := 0) rfl)) vl_c) _ ⟨d, ds, 30 + (i : Int), N.n + 4, rfl, s4.seq hD3, by omega, by omega, fun r1 hr1 => ⟨_, _, rfl, rfl, ?_⟩⟩)⟩
    refine q_asgE ⟨.ref d, rfl, (vl_I0 (g := fun i j => .int (i + j)) vl_c (vl_var rfl)) _ ((vl_I0 (g := fun i j => .int (i + j)) (vl_ixT (K := K) (vl_var rfl) vl_c (pn s4) (atI_nat (j := 0) rfl)) vl_c) _ ⟨d, ds, 36 + (i : Int), N.n + 4, rfl, s4.seq hD3, by omega, by omega, fun r2 hr2 => ⟨_, _, rfl, rfl, ?_⟩⟩)⟩
    refine q_cut (M := fun σ' H' => ∃ g : Int, σ' = [some (.ref a), some (.ref d), some (.ref p), some (.str ks), some (.int (i : Int)), some (.int (r1 - 2)), some (.int g), y7, y8] ∧ H' = H4) ?_ (fun σ' H5 hM => ?_)
    · refine ⟨.ref d, rfl, (vl_I0 (g := fun i j => .int (i + j)) vl_c (vl_var rfl)) _ ⟨d, ds, 42 + (i : Int), 3, rfl, s4.seq hD3, by omega, by decide, fun r hr => ⟨rfl, _, rfl, ?_⟩⟩⟩
      show if decide (V.int r = V.int 1) = true then _ else _
      by_cases c : decide (V.int r = V.int 1) = true
      · rw [if_pos c]
        refine g_asgE ((vl_ixT (K := K) (vl_var rfl) vl_c (pn s4) (atI_nat (j := 0) rfl)) _ ⟨.ref d, rfl, (vl_I0 (g := fun i j => .int (i + j)) vl_c (vl_var rfl)) _ ⟨d, ds, 36 + (i : Int), 60000, rfl, s4.seq hD3, by omega, by decide, fun r' hr' => ⟨_, _, rfl, rfl, _, rfl, rfl⟩⟩⟩)
      · rw [if_neg c]
        exact ⟨_, rfl, rfl⟩
    obtain ⟨g, rfl, rfl⟩ := hM
    generalize r1 - 2 = st
    refine q_asgE ⟨.ref d, rfl, (vl_I0 (g := fun i j => .int (i + j)) vl_c (vl_var rfl)) _ ⟨d, ds, 48 + (i : Int), 12, rfl, s4.seq hD3, by omega, by decide, fun r3 hr3 => ⟨_, _, rfl, rfl, .ref d, rfl, (vl_I0 (g := fun i j => .int (i + j)) vl_c (vl_var rfl)) _ ⟨d, ds, 48 + (i : Int), 60000, rfl, s4.seq hD3, by omega, by decide, fun r4 hr4 => ⟨_, _, rfl, rfl, by show 2 ≤ sizeLine; decide, fun Z nZ => ?_⟩⟩⟩⟩⟩
    have sZ := same_upd (o := .lst [.int (r3 - 2), .int (9 + r4)]) nZ
    have eZ := upd_same (H := H5) (a := Z) (o := .lst [.int (r3 - 2), .int (9 + r4)])
    generalize upd H5 Z (.lst [.int (r3 - 2), .int (9 + r4)]) = H6 at sZ eZ
    have s6 := s4.trans sZ
    refine ⟨.ref d, rfl, (vl_I0 (g := fun i j => .int (i + j)) vl_c (vl_var rfl)) _ ⟨d, ds, 42 + (i : Int), 5, rfl, s6.seq hD3, by omega, by decide, fun r5 hr5 => ⟨rfl, .inr ⟨_, rfl, ?_⟩⟩⟩⟩
    have hcount : ∃ c : Int, atI ([.int (r3 - 2), .int (9 + r4)] : List V) (if decide (V.int r5 = V.int 2) = true then 1 else 0) = some (.int c) := by
      by_cases h : decide (V.int r5 = V.int 2) = true
      · rw [if_pos h]
        exact ⟨_, rfl⟩
      · rw [if_neg h]
        exact ⟨_, rfl⟩
    obtain ⟨c, hc9⟩ := hcount
    refine ⟨Z, _, _, _, rfl, rfl, .of eZ, hc9, ?_⟩
    -- due
    refine q_asgTup (va_cons vl_c (va_cons vl_c va_nil)) (by show 2 ≤ sizeLine; decide) fun T0 nT0 => ?_
    have sT0 := same_upd (o := .tup [.str "told", .int 0]) nT0
    have eT0 := upd_same (H := H6) (a := T0) (o := .tup [.str "told", .int 0])
    generalize upd H6 T0 (.tup [.str "told", .int 0]) = H7 at sT0 eT0
    have s7 := s6.trans sT0
    refine q_cut (M := fun σ' H' => ∃ T, σ' = [some (.ref a), some (.ref d), some (.ref p), some (.str ks), some (.int (i : Int)), some (.int st), some (.int g), some (.int c), some (.ref T)] ∧ Same H3 H' ∧ H' T = some (.tup [.str (told37 N.n st g c true).1, .int (told37 N.n st g c true).2])) ?_ (fun σ' H8 hM => ?_)
    · refine g_if (b := !(decide (0 ≤ st) && decide (st < N.n))) (an_not (an_test (vl_chainI vl_c (vl_var rfl) (vl_ixT (K := K) (vl_var rfl) vl_c (pn s7) (atI_nat (j := 0) rfl))))) (fun hb => ?_) (fun hb => ?_)
      · have hs : ¬ (0 ≤ st ∧ st < N.n) := fun z => by
          rw [decide_eq_true z.1, decide_eq_true z.2] at hb
          cases hb
        refine g_asgTup (va_cons vl_c (va_cons (vl_var rfl) va_nil)) (by show 2 ≤ sizeLine; decide) fun T nT => ⟨T, rfl, s7.trans (same_upd nT), ?_⟩
        have e : told37 N.n st g c true = (("place", st) : Str × Int) := if_pos hs
        rw [e]
        exact upd_same
      · have hs : 0 ≤ st ∧ st < N.n := by
          rw [Bool.not_eq_false', Bool.and_eq_true, decide_eq_true_eq, decide_eq_true_eq] at hb
          exact hb
        refine g_if (b := !(decide (0 ≤ g) && decide (g < N.n))) (an_not (an_test (vl_chainI vl_c (vl_var rfl) (vl_ixT (K := K) (vl_var rfl) vl_c (pn s7) (atI_nat (j := 0) rfl))))) (fun hb => ?_) (fun hb => ?_)
        · have hg : ¬ (0 ≤ g ∧ g < N.n) := fun z => by
            rw [decide_eq_true z.1, decide_eq_true z.2] at hb
            cases hb
          refine g_asgTup (va_cons vl_c (va_cons (vl_var rfl) va_nil)) (by show 2 ≤ sizeLine; decide) fun T nT => ⟨T, rfl, s7.trans (same_upd nT), ?_⟩
          have e : told37 N.n st g c true = (("place", g) : Str × Int) := by
            unfold told37
            rw [if_neg (fun z => z hs), if_pos hg]
          rw [e]
          exact upd_same
        · have hg : 0 ≤ g ∧ g < N.n := by
            rw [Bool.not_eq_false', Bool.and_eq_true, decide_eq_true_eq, decide_eq_true_eq] at hb
            exact hb
          have e : told37 N.n st g c true = (("told", 0) : Str × Int) := by
            unfold told37
            rw [if_neg (fun z => z hs), if_neg (fun z => z hg), if_neg (fun z => by cases z.1)]
          refine ⟨T0, rfl, s7, ?_⟩
          rw [e]
          exact eT0
    obtain ⟨T, rfl, s8, eT⟩ := hM
    -- answer_with_turns
    refine q_whenx (b := false) (ax_ne (K := K) (d := toldD (told37 N.n st g c true)) shaped37 (fun Q k => ⟨.ref p, rfl, .int st, rfl, .int g, rfl, .int c, rfl, .ref p, N, st, g, c, true, rfl, (hN3.to s8).dp, ok, fun H' q1 s' n' e' => k _ H' s' (.tup (.of e') (.cons (.str _) (.cons (.int _) .nil)))⟩) (fun H' s' Q k => (vl_var rfl) _ (k _ H' (Same.refl _) (.tup (.of (s' _ _ eT)) (.cons (.str _) (.cons (.int _) .nil)))))) (fun z => nomatch z) (fun _ H9 s9 => ?_)
    have s39 := s8.trans s9
    have eT9 := s9 _ _ eT
    -- due, once more
    refine q_cut (M := fun σ' H' => ∃ T, σ' = [some (.ref a), some (.ref d), some (.ref p), some (.str ks), some (.int (i : Int)), some (.int st), some (.int g), some (.int c), some (.ref T)] ∧ Same H3 H' ∧ H' T = some (.tup [.str (told37 N.n st g c false).1, .int (told37 N.n st g c false).2])) ?_ (fun σ' H10 hM => ?_)
    · refine g_whenx (ax_and (k := decide (0 ≤ st ∧ st < N.n ∧ 0 ≤ g ∧ g < N.n)) (m := !(decide (1 ≤ c) && decide (c ≤ 8))) (fun Q k => (vl_var rfl) _ ⟨by show 2 ≤ sizeLine; decide, fun T1 nT1 => ⟨_, _, .tup (.of (same_upd nT1 _ _ eT9)) (.cons (.str _) (.cons (.int _) .nil)), .tup (.of upd_same) (.cons (.str _) (.cons (.int _) .nil)), shaped37, shaped_told (by decide +kernel), _, rfl, ?_⟩⟩) fun _ H' s' => ax_of (an_not (an_test (vl_chainI vl_c (vl_var rfl) vl_c)))) (fun hb H' s' => ?_) (fun hb H' s' => ?_)
      · rw [eqv37]
        exact k _ (same_upd nT1)
      · rw [Bool.and_eq_true, decide_eq_true_eq] at hb
        obtain ⟨⟨a1, a2, a3, a4⟩, hb⟩ := hb
        have hc9 : ¬ (1 ≤ c ∧ c ≤ 8) := fun z => by
          rw [decide_eq_true z.1, decide_eq_true z.2] at hb
          cases hb
        refine g_asgTup (va_cons vl_c (va_cons (vl_var rfl) va_nil)) (by show 2 ≤ sizeLine; decide) fun T1 nT1 => ⟨T1, rfl, (s39.trans s').trans (same_upd nT1), ?_⟩
        have e : told37 N.n st g c false = (("range", c) : Str × Int) := by
          unfold told37
          rw [if_neg (fun z => z ⟨a1, a2⟩), if_neg (fun z => z ⟨a3, a4⟩), if_pos ⟨rfl, hc9⟩]
        rw [e]
        exact upd_same
      · refine nx_of ⟨T, rfl, s39.trans s', ?_⟩
        have e : told37 N.n st g c false = told37 N.n st g c true := by
          by_cases h1 : 0 ≤ st ∧ st < N.n
          · by_cases h2 : 0 ≤ g ∧ g < N.n
            · have hc8 : 1 ≤ c ∧ c ≤ 8 := by
                rw [decide_eq_true ⟨h1.1, h1.2, h2.1, h2.2⟩, Bool.true_and, Bool.not_eq_false', Bool.and_eq_true, decide_eq_true_eq, decide_eq_true_eq] at hb
                exact hb
              rw [t37t h1 h2 (fun z => z.2 hc8), t37t h1 h2 (fun z => by cases z.1)]
            · rw [t37g h1 h2, t37g h1 h2]
          · rw [t37s h1, t37s h1]
        rw [e]
        exact s' _ _ eT9
    obtain ⟨T', rfl, s10, eT10⟩ := hM
    -- best_roads
    refine g_whenx (b := false) (Ax.is (ax_or (k := false) (ax_ne (K := K) (d := toldD (told37 N.n st g c false)) shaped37 (fun Q k => ⟨.ref p, rfl, .int st, rfl, .int g, rfl, .int c, rfl, .ref p, N, st, g, c, false, rfl, (hN3.to s10).dp, ok, fun H' q1 s' n' e' => k _ H' s' (.tup (.of e') (.cons (.str _) (.cons (.int _) .nil)))⟩) (fun H' s' Q k => (vl_var rfl) _ (k _ H' (Same.refl _) (.tup (.of (s' _ _ eT10)) (.cons (.str _) (.cons (.int _) .nil))))))
      fun _ H11 s11 => ax_neV2 (rp _ H11 ((s3.trans s10).trans s11) rfl) (fun _ _ => vl_var rfl) rfl) (by rw [decide_eq_true rfl]; rfl)) (fun z => nomatch z) (fun _ H12 s12 => ⟨_, _, _, _, _, rfl, s10.trans s12⟩)
end
/-! ### what the top has written; the law's own head -/
theorem df_mk {K : PySem.W.Frag} {h : Heap} {mg : Str → Option Value} {x : Str} {st : Stmt} {ps : List Str} {f : Addr} {oc : Value} {od an : Option Addr} {osl : Array (Option Value)} {kV doc pm cdv ct : Value} (X : K.In h) (G : h.Ns mainGlobals mg)
    (a : PySem.W.nsIn K mainGlobals x = some (some (.ref f))) (l : K.lookup f = some ⟨oc, od, .func (PySem.W.fnOf x x (defArgs st) (defBody st) (defScope st) .none kV doc pm an cdv ct), osl⟩) (c : PySem.W.codeIn K cdv x = true) (k : PySem.W.keepIn K (.ref f) = true)
    (hb : ∀ (kV doc pm : Value) (an : Option Addr) (cdv ct : Value) (us : List Value), us.length = ps.length → bindArgs (PySem.W.fnOf x x (defArgs st) (defBody st) (defScope st) .none kV doc pm an cdv ct) ⟨us, []⟩ = pure (ps.zip us)) : Df K mg x st ps :=
  ⟨f, _, fun_mk l c k, PySem.W.mg_of X G a, (fun_mk l c k).binds hb⟩
theorem exm_two {K : PySem.W.Frag} {S : Addr} {c : Value} {b : Bool} (h1 : PySem.W.subIn K (.ref S) (.type "BaseException") = some true) (h2 : PySem.W.isClsIn K S = true) (h3 : PySem.W.typeIn K (.ref S) = some (.type "type")) (h4 : PySem.W.subIn K c (.ref S) = some b) : PySem.W.exmOne K c (.ref S) = some b := by
  have e1 : (PySem.W.subIn K (.ref S) (.type "BaseException") == some true) = true := by rw [h1] <;> rfl
  have e2 : ((PySem.W.clsIn K S).isSome && PySem.W.typeIn K (.ref S) == some (.type "type")) = true := by
    have h2' : (PySem.W.clsIn K S).isSome = true := h2
    rw [h2', h3] <;> rfl
  show (if (PySem.W.subIn K (.ref S) (.type "BaseException") == some true) = true then (if ((PySem.W.clsIn K S).isSome && PySem.W.typeIn K (.ref S) == some (.type "type")) = true then PySem.W.subIn K c (.ref S) else none) else none) = some b
  rw [if_pos e1, if_pos e2]
  exact h4
/-- what is asked of an error's class -/
structure ErrAt (K : PySem.W.Frag) (x : Str) (C CO fI : Addr) : Prop where
  a : PySem.W.nsIn K mainGlobals x = some (some (.ref C))
  xL : ∃ nm q N bs sn sub ab col dd m0 m1 m2 m3 m5, K.lookup C = some (excClassObj nm q C N bs [.ref CO, .type "ValueError", .type "Exception", .type "BaseException", .type "object"] true sn sub ab col dd m0 m1 m2 m3 m5 "ValueError.__new__")
  sa : PySem.W.findIn K (.ref C) "__setattr__" = some (some (.builtin "object.__setattr__"))
  ga : PySem.W.findIn K (.ref C) "__getattribute__" = some (some (.builtin "BaseException.__getattribute__"))
  gg : PySem.W.findIn K (.ref C) "__getattr__" = some none
  nb : PySem.W.findIn K (.ref C) "at" = some none
  ii : PySem.W.findIn K (.ref C) "__init__" = some (some (.ref fI))
  kC : PySem.W.keepIn K (.ref C) = true
  eC : PySem.W.subIn K (.ref C) (.type "BaseException") = some true
  tC : PySem.W.typeIn K (.ref C) = some (.type "type")
  hC : PySem.W.hasDictIn K C = true
  iC : PySem.W.isClsIn K C = true
  sC : PySem.W.subIn K (.ref C) (.ref C) = some true
structure InitAt (K : PySem.W.Frag) (fI : Addr) : Prop where
  t : PySem.W.typeIn K (.ref fI) = some (.type "function")
  l : ∃ oc od dc pm an cd ct sl, K.lookup fI = some ⟨oc, od, .func (PySem.W.fnOf "__init__" "OverpassesError.__init__" (PySem.LowX.iA ⟨5, 17, 5, 21⟩ ⟨5, 23, 5, 25⟩) (PySem.LowX.iB ⟨6, 8, 6, 12⟩ ⟨6, 8, 6, 15⟩ ⟨6, 18, 6, 20⟩ ⟨6, 8, 6, 20⟩) PySem.LowX.iS .none .none dc pm an cd ct), sl⟩ ∧ PySem.W.codeIn K cd "OverpassesError.__init__" = true
theorem low_mk {K : PySem.W.Frag} {h : Heap} {mg : Str → Option Value} {x : Str} {C CO fI : Addr} (X : K.In h) (G : h.Ns mainGlobals mg) (E : ErrAt K x C CO fI) (I : InitAt K fI) : PySem.LowX.LowTxt K mg x C fI := by
  obtain ⟨nm, q, N, bs, sn, sub, ab, col, dd, m0, m1, m2, m3, m5, xL⟩ := E.xL
  obtain ⟨oc, od, dc, pm, an, cd, ct, sl, l1, c1⟩ := I.l
  exact { gC := PySem.W.mg_of X G E.a, cls := ⟨nm, q, N, bs, _, sn, sub, ab, col, dd, m0, m1, m2, m3, m5, xL, rfl⟩, sa := E.sa, ga := E.ga, gg := E.gg, noN := E.nb, iC := E.ii, tC := I.t, kC := E.kC, exC := E.eC, tyC := E.tC, hdC := E.hC, te := exm_two E.eC E.iC E.tC E.sC, fn := ⟨_, _, _, _, _, _, _, _, _, _, _, _, _, _, l1, c1⟩ }
theorem all_mk {l : PySem.W.OpenLaw} {w : World} {K : PySem.W.Frag} {h : Heap} {mg : Str → Option Value} {fa f0 f1 f2 f3 f4 f5 f6 f7 f8 f9 f10 f11 f12 f13 f14 f15 f16 : Addr} (X : K.In h) (G : h.Ns mainGlobals mg) (hfa : mg "law" = some (.ref fa))
    {od0 an0 od1 an1 od2 an2 od3 an3 od4 an4 od5 an5 od6 an6 od7 an7 od8 an8 od9 an9 od10 an10 od11 an11 od12 an12 od13 an13 od14 an14 od15 an15 od16 an16 : Option Addr} {sl0 sl1 sl2 sl3 sl4 sl5 sl6 sl7 sl8 sl9 sl10 sl11 sl12 sl13 sl14 sl15 sl16 : Array (Option Value)} {oc0 kV0 dc0 pm0 cd0 ct0 oc1 kV1 dc1 pm1 cd1 ct1 oc2 kV2 dc2 pm2 cd2 ct2 oc3 kV3 dc3 pm3 cd3 ct3 oc4 kV4 dc4 pm4 cd4 ct4 oc5 kV5 dc5 pm5 cd5 ct5 oc6 kV6 dc6 pm6 cd6 ct6 oc7 kV7 dc7 pm7 cd7 ct7 oc8 kV8 dc8 pm8 cd8 ct8 oc9 kV9 dc9 pm9 cd9 ct9 oc10 kV10 dc10 pm10 cd10 ct10 oc11 kV11 dc11 pm11 cd11 ct11 oc12 kV12 dc12 pm12 cd12 ct12 oc13 kV13 dc13 pm13 cd13 ct13 oc14 kV14 dc14 pm14 cd14 ct14 oc15 kV15 dc15 pm15 cd15 ct15 oc16 kV16 dc16 pm16 cd16 ct16 : Value}
    (a0 : PySem.W.nsIn K mainGlobals "road_sum" = some (some (.ref f0))) (l0 : K.lookup f0 = some ⟨oc0, od0, .func (PySem.W.fnOf "road_sum" "road_sum" (defArgs sRSumG) (defBody sRSumG) (defScope sRSumG) .none kV0 dc0 pm0 an0 cd0 ct0), sl0⟩) (c0 : PySem.W.codeIn K cd0 "road_sum" = true) (k0 : PySem.W.keepIn K (.ref f0) = true)
    (a1 : PySem.W.nsIn K mainGlobals "link_ways" = some (some (.ref f1))) (l1 : K.lookup f1 = some ⟨oc1, od1, .func (PySem.W.fnOf "link_ways" "link_ways" (defArgs sLinkWays) (defBody sLinkWays) (defScope sLinkWays) .none kV1 dc1 pm1 an1 cd1 ct1), sl1⟩) (c1 : PySem.W.codeIn K cd1 "link_ways" = true) (k1 : PySem.W.keepIn K (.ref f1) = true)
    (a2 : PySem.W.nsIn K mainGlobals "open_ways" = some (some (.ref f2))) (l2 : K.lookup f2 = some ⟨oc2, od2, .func (PySem.W.fnOf "open_ways" "open_ways" (defArgs sOpenWays) (defBody sOpenWays) (defScope sOpenWays) .none kV2 dc2 pm2 an2 cd2 ct2), sl2⟩) (c2 : PySem.W.codeIn K cd2 "open_ways" = true) (k2 : PySem.W.keepIn K (.ref f2) = true)
    (a3 : PySem.W.nsIn K mainGlobals "ways_from" = some (some (.ref f3))) (l3 : K.lookup f3 = some ⟨oc3, od3, .func (PySem.W.fnOf "ways_from" "ways_from" (defArgs sWaysFrom) (defBody sWaysFrom) (defScope sWaysFrom) .none kV3 dc3 pm3 an3 cd3 ct3), sl3⟩) (c3 : PySem.W.codeIn K cd3 "ways_from" = true) (k3 : PySem.W.keepIn K (.ref f3) = true)
    (a4 : PySem.W.nsIn K mainGlobals "check_places" = some (some (.ref f4))) (l4 : K.lookup f4 = some ⟨oc4, od4, .func (PySem.W.fnOf "check_places" "check_places" (defArgs sChkPl) (defBody sChkPl) (defScope sChkPl) .none kV4 dc4 pm4 an4 cd4 ct4), sl4⟩) (c4 : PySem.W.codeIn K cd4 "check_places" = true) (k4 : PySem.W.keepIn K (.ref f4) = true)
    (a5 : PySem.W.nsIn K mainGlobals "least_paths" = some (some (.ref f5))) (l5 : K.lookup f5 = some ⟨oc5, od5, .func (PySem.W.fnOf "least_paths" "least_paths" (defArgs sLeastT) (defBody sLeastT) (defScope sLeastT) .none kV5 dc5 pm5 an5 cd5 ct5), sl5⟩) (c5 : PySem.W.codeIn K cd5 "least_paths" = true) (k5 : PySem.W.keepIn K (.ref f5) = true)
    (a6 : PySem.W.nsIn K mainGlobals "best_roads" = some (some (.ref f6))) (l6 : K.lookup f6 = some ⟨oc6, od6, .func (PySem.W.fnOf "best_roads" "best_roads" (defArgs sBestRoads) (defBody sBestRoads) (defScope sBestRoads) .none kV6 dc6 pm6 an6 cd6 ct6), sl6⟩) (c6 : PySem.W.codeIn K cd6 "best_roads" = true) (k6 : PySem.W.keepIn K (.ref f6) = true)
    (a7 : PySem.W.nsIn K mainGlobals "_candidates" = some (some (.ref f7))) (l7 : K.lookup f7 = some ⟨oc7, od7, .func (PySem.W.fnOf "_candidates" "_candidates" (defArgs sCandidates) (defBody sCandidates) (defScope sCandidates) .none kV7 dc7 pm7 an7 cd7 ct7), sl7⟩) (c7 : PySem.W.codeIn K cd7 "_candidates" = true) (k7 : PySem.W.keepIn K (.ref f7) = true)
    (a8 : PySem.W.nsIn K mainGlobals "turn_net" = some (some (.ref f8))) (l8 : K.lookup f8 = some ⟨oc8, od8, .func (PySem.W.fnOf "turn_net" "turn_net" (defArgs sTurnNet) (defBody sTurnNet) (defScope sTurnNet) .none kV8 dc8 pm8 an8 cd8 ct8), sl8⟩) (c8 : PySem.W.codeIn K cd8 "turn_net" = true) (k8 : PySem.W.keepIn K (.ref f8) = true)
    (a9 : PySem.W.nsIn K mainGlobals "answer_with_turns" = some (some (.ref f9))) (l9 : K.lookup f9 = some ⟨oc9, od9, .func (PySem.W.fnOf "answer_with_turns" "answer_with_turns" (defArgs sAnsTurns) (defBody sAnsTurns) (defScope sAnsTurns) .none kV9 dc9 pm9 an9 cd9 ct9), sl9⟩) (c9 : PySem.W.codeIn K cd9 "answer_with_turns" = true) (k9 : PySem.W.keepIn K (.ref f9) = true)
    (a10 : PySem.W.nsIn K mainGlobals "_check_keys" = some (some (.ref f10))) (l10 : K.lookup f10 = some ⟨oc10, od10, .func (PySem.W.fnOf "_check_keys" "_check_keys" (defArgs sChkKeys) (defBody sChkKeys) (defScope sChkKeys) .none kV10 dc10 pm10 an10 cd10 ct10), sl10⟩) (c10 : PySem.W.codeIn K cd10 "_check_keys" = true) (k10 : PySem.W.keepIn K (.ref f10) = true)
    (a11 : PySem.W.nsIn K mainGlobals "_law_draws" = some (some (.ref f11))) (l11 : K.lookup f11 = some ⟨oc11, od11, .func (PySem.W.fnOf "_law_draws" "_law_draws" (defArgs sDraws) (defBody sDraws) (defScope sDraws) .none kV11 dc11 pm11 an11 cd11 ct11), sl11⟩) (c11 : PySem.W.codeIn K cd11 "_law_draws" = true) (k11 : PySem.W.keepIn K (.ref f11) = true)
    (a12 : PySem.W.nsIn K mainGlobals "_law_at" = some (some (.ref f12))) (l12 : K.lookup f12 = some ⟨oc12, od12, .func (PySem.W.fnOf "_law_at" "_law_at" (defArgs sAt) (defBody sAt) (defScope sAt) .none kV12 dc12 pm12 an12 cd12 ct12), sl12⟩) (c12 : PySem.W.codeIn K cd12 "_law_at" = true) (k12 : PySem.W.keepIn K (.ref f12) = true)
    (a13 : PySem.W.nsIn K mainGlobals "_law_price" = some (some (.ref f13))) (l13 : K.lookup f13 = some ⟨oc13, od13, .func (PySem.W.fnOf "_law_price" "_law_price" (defArgs sPrice2) (defBody sPrice2) (defScope sPrice2) .none kV13 dc13 pm13 an13 cd13 ct13), sl13⟩) (c13 : PySem.W.codeIn K cd13 "_law_price" = true) (k13 : PySem.W.keepIn K (.ref f13) = true)
    (a14 : PySem.W.nsIn K mainGlobals "_law_net" = some (some (.ref f14))) (l14 : K.lookup f14 = some ⟨oc14, od14, .func (PySem.W.fnOf "_law_net" "_law_net" (defArgs sNet2) (defBody sNet2) (defScope sNet2) .none kV14 dc14 pm14 an14 cd14 ct14), sl14⟩) (c14 : PySem.W.codeIn K cd14 "_law_net" = true) (k14 : PySem.W.keepIn K (.ref f14) = true)
    (a15 : PySem.W.nsIn K mainGlobals "_law_told" = some (some (.ref f15))) (l15 : K.lookup f15 = some ⟨oc15, od15, .func (PySem.W.fnOf "_law_told" "_law_told" (defArgs sTold37) (defBody sTold37) (defScope sTold37) .none kV15 dc15 pm15 an15 cd15 ct15), sl15⟩) (c15 : PySem.W.codeIn K cd15 "_law_told" = true) (k15 : PySem.W.keepIn K (.ref f15) = true)
    (a16 : PySem.W.nsIn K mainGlobals "law" = some (some (.ref f16))) (l16 : K.lookup f16 = some ⟨oc16, od16, .func (PySem.W.fnOf "law" "law" (defArgs sLaw) (defBody sLaw) (defScope sLaw) .none kV16 dc16 pm16 an16 cd16 ct16), sl16⟩) (c16 : PySem.W.codeIn K cd16 "law" = true) (k16 : PySem.W.keepIn K (.ref f16) = true)
    {CO fI : Addr} {C0 C1 C2 C3 : Addr} {ocI : Value} {odI anI : Option Addr} {slI : Array (Option Value)} {dcI pmI cdI ctI : Value}
    (tI : PySem.W.typeIn K (.ref fI) = some (.type "function")) (lI : K.lookup fI = some ⟨ocI, odI, .func (PySem.W.fnOf "__init__" "OverpassesError.__init__" (PySem.LowX.iA ⟨5, 17, 5, 21⟩ ⟨5, 23, 5, 25⟩) (PySem.LowX.iB ⟨6, 8, 6, 12⟩ ⟨6, 8, 6, 15⟩ ⟨6, 18, 6, 20⟩ ⟨6, 8, 6, 20⟩) PySem.LowX.iS .none .none dcI pmI anI cdI ctI), slI⟩) (cI : PySem.W.codeIn K cdI "OverpassesError.__init__" = true)
    {nm100 : Str} {q100 : Str} {N100 : Addr} {bs100 : List Value} {sn100 : List Str} {sub100 : List Value} {ab100 : Bool} {col100 : Option Bool} {dd100 : Option Addr} {m0100 : Option Value} {m1100 : Option Value} {m2100 : Option Value} {m3100 : Option Value} {m5100 : Option Value}
    (ea0 : PySem.W.nsIn K mainGlobals "NoTurn" = some (some (.ref C0))) (ex0 : K.lookup C0 = some (excClassObj nm100 q100 C0 N100 bs100 [.ref CO, .type "ValueError", .type "Exception", .type "BaseException", .type "object"] true sn100 sub100 ab100 col100 dd100 m0100 m1100 m2100 m3100 m5100 "ValueError.__new__"))
    (es0 : PySem.W.findIn K (.ref C0) "__setattr__" = some (some (.builtin "object.__setattr__"))) (eg0 : PySem.W.findIn K (.ref C0) "__getattribute__" = some (some (.builtin "BaseException.__getattribute__"))) (eh0 : PySem.W.findIn K (.ref C0) "__getattr__" = some none) (en0 : PySem.W.findIn K (.ref C0) "at" = some none) (ei0 : PySem.W.findIn K (.ref C0) "__init__" = some (some (.ref fI)))
    (ek0 : PySem.W.keepIn K (.ref C0) = true) (eb0 : PySem.W.subIn K (.ref C0) (.type "BaseException") = some true) (et0 : PySem.W.typeIn K (.ref C0) = some (.type "type")) (ed0 : PySem.W.hasDictIn K C0 = true) (ec0 : PySem.W.isClsIn K C0 = true) (ef0 : PySem.W.subIn K (.ref C0) (.ref C0) = some true)
    {nm101 : Str} {q101 : Str} {N101 : Addr} {bs101 : List Value} {sn101 : List Str} {sub101 : List Value} {ab101 : Bool} {col101 : Option Bool} {dd101 : Option Addr} {m0101 : Option Value} {m1101 : Option Value} {m2101 : Option Value} {m3101 : Option Value} {m5101 : Option Value}
    (ea1 : PySem.W.nsIn K mainGlobals "BadPrice" = some (some (.ref C1))) (ex1 : K.lookup C1 = some (excClassObj nm101 q101 C1 N101 bs101 [.ref CO, .type "ValueError", .type "Exception", .type "BaseException", .type "object"] true sn101 sub101 ab101 col101 dd101 m0101 m1101 m2101 m3101 m5101 "ValueError.__new__"))
    (es1 : PySem.W.findIn K (.ref C1) "__setattr__" = some (some (.builtin "object.__setattr__"))) (eg1 : PySem.W.findIn K (.ref C1) "__getattribute__" = some (some (.builtin "BaseException.__getattribute__"))) (eh1 : PySem.W.findIn K (.ref C1) "__getattr__" = some none) (en1 : PySem.W.findIn K (.ref C1) "at" = some none) (ei1 : PySem.W.findIn K (.ref C1) "__init__" = some (some (.ref fI)))
    (ek1 : PySem.W.keepIn K (.ref C1) = true) (eb1 : PySem.W.subIn K (.ref C1) (.type "BaseException") = some true) (et1 : PySem.W.typeIn K (.ref C1) = some (.type "type")) (ed1 : PySem.W.hasDictIn K C1 = true) (ec1 : PySem.W.isClsIn K C1 = true) (ef1 : PySem.W.subIn K (.ref C1) (.ref C1) = some true)
    {nm102 : Str} {q102 : Str} {N102 : Addr} {bs102 : List Value} {sn102 : List Str} {sub102 : List Value} {ab102 : Bool} {col102 : Option Bool} {dd102 : Option Addr} {m0102 : Option Value} {m1102 : Option Value} {m2102 : Option Value} {m3102 : Option Value} {m5102 : Option Value}
    (ea2 : PySem.W.nsIn K mainGlobals "NoPlace" = some (some (.ref C2))) (ex2 : K.lookup C2 = some (excClassObj nm102 q102 C2 N102 bs102 [.ref CO, .type "ValueError", .type "Exception", .type "BaseException", .type "object"] true sn102 sub102 ab102 col102 dd102 m0102 m1102 m2102 m3102 m5102 "ValueError.__new__"))
    (es2 : PySem.W.findIn K (.ref C2) "__setattr__" = some (some (.builtin "object.__setattr__"))) (eg2 : PySem.W.findIn K (.ref C2) "__getattribute__" = some (some (.builtin "BaseException.__getattribute__"))) (eh2 : PySem.W.findIn K (.ref C2) "__getattr__" = some none) (en2 : PySem.W.findIn K (.ref C2) "at" = some none) (ei2 : PySem.W.findIn K (.ref C2) "__init__" = some (some (.ref fI)))
    (ek2 : PySem.W.keepIn K (.ref C2) = true) (eb2 : PySem.W.subIn K (.ref C2) (.type "BaseException") = some true) (et2 : PySem.W.typeIn K (.ref C2) = some (.type "type")) (ed2 : PySem.W.hasDictIn K C2 = true) (ec2 : PySem.W.isClsIn K C2 = true) (ef2 : PySem.W.subIn K (.ref C2) (.ref C2) = some true)
    {nm103 : Str} {q103 : Str} {N103 : Addr} {bs103 : List Value} {sn103 : List Str} {sub103 : List Value} {ab103 : Bool} {col103 : Option Bool} {dd103 : Option Addr} {m0103 : Option Value} {m1103 : Option Value} {m2103 : Option Value} {m3103 : Option Value} {m5103 : Option Value}
    (ea3 : PySem.W.nsIn K mainGlobals "OutOfRange" = some (some (.ref C3))) (ex3 : K.lookup C3 = some (excClassObj nm103 q103 C3 N103 bs103 [.ref CO, .type "ValueError", .type "Exception", .type "BaseException", .type "object"] true sn103 sub103 ab103 col103 dd103 m0103 m1103 m2103 m3103 m5103 "ValueError.__new__"))
    (es3 : PySem.W.findIn K (.ref C3) "__setattr__" = some (some (.builtin "object.__setattr__"))) (eg3 : PySem.W.findIn K (.ref C3) "__getattribute__" = some (some (.builtin "BaseException.__getattribute__"))) (eh3 : PySem.W.findIn K (.ref C3) "__getattr__" = some none) (en3 : PySem.W.findIn K (.ref C3) "at" = some none) (ei3 : PySem.W.findIn K (.ref C3) "__init__" = some (some (.ref fI)))
    (ek3 : PySem.W.keepIn K (.ref C3) = true) (eb3 : PySem.W.subIn K (.ref C3) (.type "BaseException") = some true) (et3 : PySem.W.typeIn K (.ref C3) = some (.type "type")) (ed3 : PySem.W.hasDictIn K C3 = true) (ec3 : PySem.W.isClsIn K C3 = true) (ef3 : PySem.W.subIn K (.ref C3) (.ref C3) = some true)
    (ao : PySem.W.nsIn K mainGlobals "OverpassesError" = some (some (.ref CO)))
    (ap3_2 : PySem.W.subIn K (.ref C3) (.ref C2) = some false)
    {tk0 : Tok} (q0 : PySem.W.nsIn K mainGlobals "HIGHEST_PRICE" = some (some (.int 1000000 tk0)))
    {tk1 : Tok} (q1 : PySem.W.nsIn K mainGlobals "MOST_ROADS" = some (some (.int 8 tk1)))
    (v0 : PySem.W.nsIn K mainGlobals "heapify" = some (some (.builtin "_heapq.heapify")))
    (v1 : PySem.W.nsIn K mainGlobals "heappop" = some (some (.builtin "_heapq.heappop")))
    (v2 : PySem.W.nsIn K mainGlobals "heappush" = some (some (.builtin "_heapq.heappush")))
    (z0 : PySem.W.nsIn K mainGlobals "range" = some none) (z1 : PySem.W.nsIn K mainGlobals "min" = some none) (z2 : PySem.W.nsIn K mainGlobals "len" = some none) (z3 : PySem.W.nsIn K mainGlobals "abs" = some none) (z4 : PySem.W.nsIn K mainGlobals "int" = some none) (z5 : PySem.W.nsIn K mainGlobals "list" = some none) (z6 : PySem.W.nsIn K mainGlobals "sorted" = some none) (z7 : PySem.W.nsIn K mainGlobals "repr" = some none) (z8 : PySem.W.nsIn K mainGlobals "enumerate" = some none) (z9 : PySem.W.nsIn K mainGlobals "zip" = some none) :
    ∃ fd : FuncData, (∀ (s : Shared) (v : Value), BindsTo s fd ⟨[v], []⟩ [("script", v)]) ∧ ∀ base : Heap, K.In base → base.Ns mainGlobals mg → FnG l.prog w K mg base fa fd ["script"] (spLaw K) := by
  have e := hfa.symm.trans (PySem.W.mg_of X G a16)
  cases e
  have D_road_sum : Df K mg "road_sum" sRSumG ["net", "road"] := df_mk X G a0 l0 c0 k0 (fun _ _ _ _ _ _ us hl => match us, hl with | [_, _], _ => rfl)
  have D_link_ways : Df K mg "link_ways" sLinkWays ["net"] := df_mk X G a1 l1 c1 k1 (fun _ _ _ _ _ _ us hl => match us, hl with | [_], _ => rfl)
  have D_open_ways : Df K mg "open_ways" sOpenWays ["net"] := df_mk X G a2 l2 c2 k2 (fun _ _ _ _ _ _ us hl => match us, hl with | [_], _ => rfl)
  have D_ways_from : Df K mg "ways_from" sWaysFrom ["net"] := df_mk X G a3 l3 c3 k3 (fun _ _ _ _ _ _ us hl => match us, hl with | [_], _ => rfl)
  have D_check_places : Df K mg "check_places" sChkPl ["n", "places"] := df_mk X G a4 l4 c4 k4 (fun _ _ _ _ _ _ us hl => match us, hl with | [_, _], _ => rfl)
  have D_least_paths : Df K mg "least_paths" sLeastT ["arcs", "starts"] := df_mk X G a5 l5 c5 k5 (fun _ _ _ _ _ _ us hl => match us, hl with | [_, _], _ => rfl)
  have D_best_roads : Df K mg "best_roads" sBestRoads ["net", "start", "goal", "count"] := df_mk X G a6 l6 c6 k6 (fun _ _ _ _ _ _ us hl => match us, hl with | [_, _, _, _], _ => rfl)
  have D__candidates : Df K mg "_candidates" sCandidates ["net", "near", "goal", "prefix", "taken"] := df_mk X G a7 l7 c7 k7 (fun _ _ _ _ _ _ us hl => match us, hl with | [_, _, _, _, _], _ => rfl)
  have D_turn_net : Df K mg "turn_net" sTurnNet ["net", "turns"] := df_mk X G a8 l8 c8 k8 (fun _ _ _ _ _ _ us hl => match us, hl with | [_, _], _ => rfl)
  have D_answer_with_turns : Df K mg "answer_with_turns" sAnsTurns ["net", "turns", "start", "goal"] := df_mk X G a9 l9 c9 k9 (fun _ _ _ _ _ _ us hl => match us, hl with | [_, _, _, _], _ => rfl)
  have D__check_keys : Df K mg "_check_keys" sChkKeys ["net", "turns"] := df_mk X G a10 l10 c10 k10 (fun _ _ _ _ _ _ us hl => match us, hl with | [_, _], _ => rfl)
  have D__law_draws : Df K mg "_law_draws" sDraws ["script"] := df_mk X G a11 l11 c11 k11 (fun _ _ _ _ _ _ us hl => match us, hl with | [_], _ => rfl)
  have D__law_at : Df K mg "_law_at" sAt ["draws", "k", "many"] := df_mk X G a12 l12 c12 k12 (fun _ _ _ _ _ _ us hl => match us, hl with | [_, _, _], _ => rfl)
  have D__law_price : Df K mg "_law_price" sPrice2 ["cell"] := df_mk X G a13 l13 c13 k13 (fun _ _ _ _ _ _ us hl => match us, hl with | [_], _ => rfl)
  have D__law_net : Df K mg "_law_net" sNet2 ["draws", "first", "most"] := df_mk X G a14 l14 c14 k14 (fun _ _ _ _ _ _ us hl => match us, hl with | [_, _, _], _ => rfl)
  have D__law_told : Df K mg "_law_told" sTold37 ["net", "start", "goal", "count", "is_turns"] := df_mk X G a15 l15 c15 k15 (fun _ _ _ _ _ _ us hl => match us, hl with | [_, _, _, _, _], _ => rfl)
  have b_range := PySem.W.mg_none_of X G z0
  have b_min := PySem.W.mg_none_of X G z1
  have b_len := PySem.W.mg_none_of X G z2
  have b_abs := PySem.W.mg_none_of X G z3
  have b_int := PySem.W.mg_none_of X G z4
  have b_list := PySem.W.mg_none_of X G z5
  have b_sorted := PySem.W.mg_none_of X G z6
  have b_repr := PySem.W.mg_none_of X G z7
  have b_enumerate := PySem.W.mg_none_of X G z8
  have b_zip := PySem.W.mg_none_of X G z9
  have g_HIGHEST_PRICE := PySem.W.mg_of X G q0
  have g_MOST_ROADS := PySem.W.mg_of X G q1
  have g_heapify := PySem.W.mg_of X G v0
  have g_heappop := PySem.W.mg_of X G v1
  have g_heappush := PySem.W.mg_of X G v2
  have E_NoTurn : PySem.LowX.LowTxt K mg "NoTurn" C0 fI := low_mk X G ⟨ea0, ⟨_, _, _, _, _, _, _, _, _, _, _, _, _, _, ex0⟩, es0, eg0, eh0, en0, ei0, ek0, eb0, et0, ed0, ec0, ef0⟩ ⟨tI, _, _, _, _, _, _, _, _, lI, cI⟩
  have E_BadPrice : PySem.LowX.LowTxt K mg "BadPrice" C1 fI := low_mk X G ⟨ea1, ⟨_, _, _, _, _, _, _, _, _, _, _, _, _, _, ex1⟩, es1, eg1, eh1, en1, ei1, ek1, eb1, et1, ed1, ec1, ef1⟩ ⟨tI, _, _, _, _, _, _, _, _, lI, cI⟩
  have E_NoPlace : PySem.LowX.LowTxt K mg "NoPlace" C2 fI := low_mk X G ⟨ea2, ⟨_, _, _, _, _, _, _, _, _, _, _, _, _, _, ex2⟩, es2, eg2, eh2, en2, ei2, ek2, eb2, et2, ed2, ec2, ef2⟩ ⟨tI, _, _, _, _, _, _, _, _, lI, cI⟩
  have E_OutOfRange : PySem.LowX.LowTxt K mg "OutOfRange" C3 fI := low_mk X G ⟨ea3, ⟨_, _, _, _, _, _, _, _, _, _, _, _, _, _, ex3⟩, es3, eg3, eh3, en3, ei3, ek3, eb3, et3, ed3, ec3, ef3⟩ ⟨tI, _, _, _, _, _, _, _, _, lI, cI⟩
  have E_OverpassesError : NmAt mg "OverpassesError" CO := ⟨PySem.W.mg_of X G ao⟩
  have A_OutOfRange_NoPlace : Apart K C3 C2 := ⟨exm_two eb2 ec2 et2 ap3_2⟩
  have F_law := fun_mk (st := sLaw) l16 c16 k16
  refine ⟨PySem.W.fnOf "law" "law" (defArgs sLaw) (defBody sLaw) (defScope sLaw) .none kV16 dc16 pm16 an16 cd16 ct16, fun s v => .of_eq rfl, fun base _ _ => ?_⟩
  have cD := kal_of D__law_draws (fun f fd F => ok_draws (P := l.prog) (w := w) (base := base) (k := 0) F b_range b_min b_len b_abs b_int)
  have cA := kal_of D__law_at (fun f fd F => ok_at (P := l.prog) (w := w) (base := base) (k := 0) F b_len b_int)
  have cPr := kal_of D__law_price (fun f fd F => ok_price2 (P := l.prog) (w := w) (base := base) (K := K) (k := 0) F b_int)
  have cN := kal_of D__law_net (fun f fd F => ok_net2 F cA cPr b_range b_int)
  have cLw := kal_of D_link_ways (fun f fd F => ok_linkWaysK (P := l.prog) (w := w) (base := base) (K := K) (mg := mg) (k := 0) F)
  have cLk := kal_of D_link_ways (fun f fd F => ok_linkWays (P := l.prog) (w := w) (base := base) (K := K) (mg := mg) (k := 0) F)
  have cOw := kal_of D_open_ways (fun f fd F => ok_openWays F cLw b_sorted)
  have cWf := kal_of D_ways_from (fun f fd F => ok_waysFrom F cOw b_range)
  have cCk := kalx_of D__check_keys (fun f fd F => ok_chkKeys F E_NoTurn E_BadPrice cLw b_sorted b_enumerate g_HIGHEST_PRICE)
  have cTn := kalx_of D_turn_net (fun f fd F => ok_turnNet (k := 3) (by decide) (by decide) (by decide) F cCk cWf cOw b_list)
  have cCp := kalx_of D_check_places (fun f fd F => ok_chkPl (P := l.prog) (w := w) (base := base) F E_NoPlace)
  have cLe := kal_of D_least_paths (fun f fd F => ok_leastT (P := l.prog) (w := w) (base := base) (K := K) (k := 0) F g_heapify g_heappop g_heappush)
  have cLi := kal_of D_least_paths (fun f fd F => ok_leastI (P := l.prog) (w := w) (base := base) (K := K) (k := 0) F g_heapify g_heappop g_heappush)
  have cAt := kalx_of D_answer_with_turns (fun f fd F => ok_ansT (k := 6) (by decide) (by decide) (by decide) (by decide) F cCp cTn cOw cLe b_min)
  have cRs := kal_of D_road_sum (fun f fd F => ok_rsumG F b_zip cLk)
  have cCa := kal_of D__candidates (fun f fd F => ok_cand (by decide) F cRs cLi b_len)
  have cBe := kalx_of D_best_roads (fun f fd F => ok_best (k := 6) (by decide) (by decide) (by decide) (by decide) F E_OutOfRange cCp cWf cCa b_len b_range g_heappop g_heappush g_MOST_ROADS)
  have cTo := kal_of D__law_told (fun f fd F => ok_told37 (k := 8) (by decide) (by decide) F E_NoPlace E_OutOfRange E_OverpassesError A_OutOfRange_NoPlace cAt cBe)
  exact ok_law (by decide) (by decide) (by decide) F_law cD cN cA cTo b_range b_int b_repr
end Ovc
open PySem PySem.W PyProof.Rows
set_option maxHeartbeats 0 in
theorem PySem.Challenge.cw_overpasses_k37_bad_questions_for_roads_holds : PySem.Challenge.rw_overpasses_k37_bad_questions_for_roads.Holds := by
  w_on; o_law; k_head; (case hw => w_witness2)
  k_fill
  refine Ovc.walkG (l := PySem.Challenge.rw_overpasses_k37_bad_questions_for_roads) (n := 63) (x := "script") (sp := fun w => Ovc.spLaw _) rfl (by decide) rfl (fun w h Y => PySem.W.kIn_of Y) ?F (fun _ _ a ns hl _ hS => ⟨a, ns, rfl, hS, hl, fun _ => rfl⟩)
  case F =>
    intro w mg fa h KX G hmg
    refine' Ovc.all_mk KX G hmg ?a0 ?l0 ?c0 ?k0 ?a1 ?l1 ?c1 ?k1 ?a2 ?l2 ?c2 ?k2 ?a3 ?l3 ?c3 ?k3 ?a4 ?l4 ?c4 ?k4 ?a5 ?l5 ?c5 ?k5 ?a6 ?l6 ?c6 ?k6 ?a7 ?l7 ?c7 ?k7 ?a8 ?l8 ?c8 ?k8 ?a9 ?l9 ?c9 ?k9 ?a10 ?l10 ?c10 ?k10 ?a11 ?l11 ?c11 ?k11 ?a12 ?l12 ?c12 ?k12 ?a13 ?l13 ?c13 ?k13 ?a14 ?l14 ?c14 ?k14 ?a15 ?l15 ?c15 ?k15 ?a16 ?l16 ?c16 ?k16 ?tI ?lI ?cI ?ea0 ?ex0 ?es0 ?eg0 ?eh0 ?en0 ?ei0 ?ek0 ?eb0 ?et0 ?ed0 ?ec0 ?ef0 ?ea1 ?ex1 ?es1 ?eg1 ?eh1 ?en1 ?ei1 ?ek1 ?eb1 ?et1 ?ed1 ?ec1 ?ef1 ?ea2 ?ex2 ?es2 ?eg2 ?eh2 ?en2 ?ei2 ?ek2 ?eb2 ?et2 ?ed2 ?ec2 ?ef2 ?ea3 ?ex3 ?es3 ?eg3 ?eh3 ?en3 ?ei3 ?ek3 ?eb3 ?et3 ?ed3 ?ec3 ?ef3 ?ao ?ap3_2 ?q0 ?q1 ?v0 ?v1 ?v2 ?z0 ?z1 ?z2 ?z3 ?z4 ?z5 ?z6 ?z7 ?z8 ?z9
    (case a0 => k_is)
    (case l0 => k_is)
    (case c0 => k_is)
    (case k0 => k_is)
    (case a1 => k_is)
    (case l1 => k_is)
    (case c1 => k_is)
    (case k1 => k_is)
    (case a2 => k_is)
    (case l2 => k_is)
    (case c2 => k_is)
    (case k2 => k_is)
    (case a3 => k_is)
    (case l3 => k_is)
    (case c3 => k_is)
    (case k3 => k_is)
    (case a4 => k_is)
    (case l4 => k_is)
    (case c4 => k_is)
    (case k4 => k_is)
    (case a5 => k_is)
    (case l5 => k_is)
    (case c5 => k_is)
    (case k5 => k_is)
    (case a6 => k_is)
    (case l6 => k_is)
    (case c6 => k_is)
    (case k6 => k_is)
    (case a7 => k_is)
    (case l7 => k_is)
    (case c7 => k_is)
    (case k7 => k_is)
    (case a8 => k_is)
    (case l8 => k_is)
    (case c8 => k_is)
    (case k8 => k_is)
    (case a9 => k_is)
    (case l9 => k_is)
    (case c9 => k_is)
    (case k9 => k_is)
    (case a10 => k_is)
    (case l10 => k_is)
    (case c10 => k_is)
    (case k10 => k_is)
    (case a11 => k_is)
    (case l11 => k_is)
    (case c11 => k_is)
    (case k11 => k_is)
    (case a12 => k_is)
    (case l12 => k_is)
    (case c12 => k_is)
    (case k12 => k_is)
    (case a13 => k_is)
    (case l13 => k_is)
    (case c13 => k_is)
    (case k13 => k_is)
    (case a14 => k_is)
    (case l14 => k_is)
    (case c14 => k_is)
    (case k14 => k_is)
    (case a15 => k_is)
    (case l15 => k_is)
    (case c15 => k_is)
    (case k15 => k_is)
    (case a16 => k_is)
    (case l16 => k_is)
    (case c16 => k_is)
    (case k16 => k_is)
    (case ea0 => k_is)
    (case ex0 => k_is)
    (case es0 => k_is)
    (case eg0 => k_is)
    (case eh0 => k_is)
    (case en0 => k_is)
    (case ei0 => k_is)
    (case ek0 => k_is)
    (case eb0 => k_is)
    (case et0 => k_is)
    (case ed0 => k_is)
    (case ec0 => k_is)
    (case ef0 => first | rfl | k_is)
    (case ea1 => k_is)
    (case ex1 => k_is)
    (case es1 => k_is)
    (case eg1 => k_is)
    (case eh1 => k_is)
    (case en1 => k_is)
    (case ei1 => k_is)
    (case ek1 => k_is)
    (case eb1 => k_is)
    (case et1 => k_is)
    (case ed1 => k_is)
    (case ec1 => k_is)
    (case ef1 => first | rfl | k_is)
    (case ea2 => k_is)
    (case ex2 => k_is)
    (case es2 => k_is)
    (case eg2 => k_is)
    (case eh2 => k_is)
    (case en2 => k_is)
    (case ei2 => k_is)
    (case ek2 => k_is)
    (case eb2 => k_is)
    (case et2 => k_is)
    (case ed2 => k_is)
    (case ec2 => k_is)
    (case ef2 => first | rfl | k_is)
    (case ea3 => k_is)
    (case ex3 => k_is)
    (case es3 => k_is)
    (case eg3 => k_is)
    (case eh3 => k_is)
    (case en3 => k_is)
    (case ei3 => k_is)
    (case ek3 => k_is)
    (case eb3 => k_is)
    (case et3 => k_is)
    (case ed3 => k_is)
    (case ec3 => k_is)
    (case ef3 => first | rfl | k_is)
    (case ao => k_is)
    (case ap3_2 => first | rfl | k_is)
    (case q0 => k_is)
    (case q1 => k_is)
    (case v0 => k_is)
    (case v1 => k_is)
    (case v2 => k_is)
    (case z0 => k_is)
    (case z1 => k_is)
    (case z2 => k_is)
    (case z3 => k_is)
    (case z4 => k_is)
    (case z5 => k_is)
    (case z6 => k_is)
    (case z7 => k_is)
    (case z8 => k_is)
    (case z9 => k_is)
    (case tI => k_is)
    (case lI => k_is)
    (case cI => k_is)
