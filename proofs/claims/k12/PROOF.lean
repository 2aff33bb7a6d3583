import PyProof.Rows.All
import Wide.All
import OpenK.AllK
import Wide.FinOn
import PySem.Challenge.RW_overpasses_k12_filled_in_prices
import HandS.Base
import HandS.Call
import HandS.List
import HandS.Comp
import HandS.Dict
import HandS.Ends
import HandS.Iter
import HandS.Text
import HandS.Words
import HandS.Evl
import HandS.IsInst
import HandS.Style
import HandS.Exc
import HandS.TryOnly
import HandS.TryMany
import HandS.ExcOwn
import HandS.WordsExc
import HandS.TupLe
import HandS.Conv
import HandS.Walk
import HandS.WordsDict
import HandS.More
import HandS.Sort
import HandS.Deep
import HandS.DictComp
import HandS.DeepEq
import PyProof.ZipIter
import PyProof.CallType
import PyProof.Walk
import PyProof.WalkLemmas
import PyProof.RangeIter
import PyProof.RulesTry
import PyProof.EqAt
import PyProof.EqKinds
import PyProof.TupleCall
import PyProof.Rows.SortShell
import KE.KSortTup
import HandS.SortOrd
import HandS.SortRule
set_option Elab.async false
set_option linter.all false
set_option maxRecDepth 100000
set_option maxHeartbeats 2000000
namespace Ovc
open PySem PySem.Spec PyProof.Rows L2
def topS (i : Nat) : Stmt := PySem.Challenge.pw_overpasses_k12_filled_in_prices.main.body.getD i (.Pass ⟨0, 0, 0, 0⟩)
/-! ### heaps -/
theorem same_upd {H : Hp} {p : Addr} {o : HO} (h : H p = none) : Same H (upd H p o) := fun b x e => by
  rw [upd_ne (ne_of_none e h)]
  exact e
theorem same_upd' {G H : Hp} {p : Addr} {o : HO} (s : Same G H) (h : G p = none) : Same G (upd H p o) := fun b x e => by
  rw [upd_ne (ne_of_none e h)]
  exact s b x e
/-- all of H but what stands at o -/
def but (H : Hp) (o : Addr) : Hp := fun b => if b = o then none else H b
theorem but_at {H : Hp} {o : Addr} : but H o o = none := if_pos rfl
theorem but_ne {H : Hp} {o b : Addr} (h : b ≠ o) : but H o b = H b := if_neg h
theorem but_same {H : Hp} {o : Addr} : Same (but H o) H := fun b x e => by
  by_cases h : b = o
  · rw [h, but_at] at e
    cases e
  · rw [but_ne h] at e
    exact e
theorem same_but {G H : Hp} {o : Addr} (s : Same G H) (n : G o = none) : Same G (but H o) := fun b x e => by
  rw [but_ne (ne_of_none e n)]
  exact s b x e
theorem but_mono {H H' : Hp} {o : Addr} (s : Same H H') : Same (but H o) (but H' o) := fun b x e => by
  by_cases h : b = o
  · rw [h, but_at] at e
    cases e
  · rw [but_ne h] at e ⊢
    exact s b x e
theorem but_upd {H : Hp} {o : Addr} {u : HO} : but (upd H o u) o = but H o := by
  funext b
  by_cases h : b = o
  · rw [h, but_at, but_at]
  · rw [but_ne h, but_ne h, upd_ne h]
/-- a store at o, seen from what stands beside it -/
theorem but_upd_same {H : Hp} {o : Addr} {u : HO} : Same (but H o) (upd H o u) := fun b x e => by
  by_cases h : b = o
  · rw [h, but_at] at e
    cases e
  · rw [but_ne h] at e
    rw [upd_ne h]
    exact e
theorem seqT {K : PySem.W.Frag} {H H' : Hp} {a : Addr} {xs : List V} (e : Same H H') (h : SqT K H a xs) : SqT K H' a xs := by
  rcases h with (h | ⟨o, h⟩) | h
  · exact .inl (.inl (e _ _ h))
  · exact .inl (.inr ⟨o, e _ _ h⟩)
  · exact .inr h
mutual
theorem dpS {K : PySem.W.Frag} {H H' : Hp} (s : Same H H') : ∀ (d : PyData) (v : V), Dp K H v d → Dp K H' v d
  | .none, _, h => by
    cases h
    exact .non
  | .bool b, _, h => by
    cases h
    exact .bl b
  | .int i, _, h => by
    cases h
    exact .int i
  | .str x, _, h => by
    cases h
    exact .str x
  | .list ds, _, h => by
    cases h with
    | lst hs ha => exact .lst (s.seq hs) (dpSAll s ds _ ha)
  | .tuple ds, _, h => by
    cases h with
    | tup hs ha => exact .tup (seqT s hs) (dpSAll s ds _ ha)
  | .dict _, _, h => by cases h
theorem dpSAll {K : PySem.W.Frag} {H H' : Hp} (s : Same H H') : ∀ (ds : List PyData) (vs : List V), DpAll K H vs ds → DpAll K H' vs ds
  | [], _, h => by
    cases h
    exact .nil
  | d :: ds, _, h => by
    cases h with
    | cons h1 h2 => exact .cons (dpS s d _ h1) (dpSAll s ds _ h2)
end
theorem Dp.to {K : PySem.W.Frag} {H H' : Hp} {v : V} {d : PyData} (h : Dp K H v d) (s : Same H H') : Dp K H' v d := dpS s d v h
theorem DpAll.to {K : PySem.W.Frag} {H H' : Hp} {vs : List V} {ds : List PyData} (h : DpAll K H vs ds) (s : Same H H') : DpAll K H' vs ds := dpSAll s ds vs h
theorem DpAll.len {K : PySem.W.Frag} {H : Hp} : ∀ {vs : List V} {ds : List PyData}, DpAll K H vs ds → vs.length = ds.length
  | _, _, .nil => rfl
  | _, _, .cons _ t => by
    rw [List.length_cons, List.length_cons, DpAll.len t]
theorem DpAll.get {K : PySem.W.Frag} {H : Hp} : ∀ {vs : List V} {ds : List PyData} {i : Nat} {d : PyData}, DpAll K H vs ds → ds[i]? = some d → ∃ v, vs[i]? = some v ∧ Dp K H v d
  | _, _, i, d, .nil, e => by simp at e
  | _, _, 0, d, .cons h _, e => by
    have e' := Option.some.inj e
    subst e'
    exact ⟨_, rfl, h⟩
  | _, _, i + 1, d, .cons _ t, e => DpAll.get (i := i) t e
theorem DpAll.app {K : PySem.W.Frag} {H : Hp} : ∀ {vs ws : List V} {ds es : List PyData}, DpAll K H vs ds → DpAll K H ws es → DpAll K H (vs ++ ws) (ds ++ es)
  | _, _, _, _, .nil, t => t
  | _, _, _, _, .cons h r, t => .cons h (DpAll.app r t)
theorem DpAll.take {K : PySem.W.Frag} {H : Hp} : ∀ {vs : List V} {ds : List PyData} (n : Nat), DpAll K H vs ds → DpAll K H (vs.take n) (ds.take n)
  | _, _, 0, _ => .nil
  | _, _, _ + 1, .nil => .nil
  | _, _, n + 1, .cons h t => .cons h (DpAll.take n t)
theorem DpAll.drop {K : PySem.W.Frag} {H : Hp} : ∀ {vs : List V} {ds : List PyData} (n : Nat), DpAll K H vs ds → DpAll K H (vs.drop n) (ds.drop n)
  | _, _, 0, h => h
  | _, _, _ + 1, .nil => .nil
  | _, _, n + 1, .cons _ t => DpAll.drop n t
theorem DpAll.one {K : PySem.W.Frag} {H : Hp} {v : V} {d : PyData} (h : Dp K H v d) : DpAll K H [v] [d] := .cons h .nil
theorem Dp.int_inv {K : PySem.W.Frag} {H : Hp} {v : V} {i : Int} (h : Dp K H v (.int i)) : v = .int i := by
  cases h
  rfl
theorem DpAll.ints {K : PySem.W.Frag} {H : Hp} : ∀ ns : List Int, DpAll K H (ns.map V.int) (ns.map PyData.int)
  | [] => .nil
  | n :: ns => .cons (.int n) (DpAll.ints ns)
theorem DpAll.ints_inv {K : PySem.W.Frag} {H : Hp} : ∀ {ns : List Int} {vs : List V}, DpAll K H vs (ns.map PyData.int) → vs = ns.map V.int
  | [], _, h => by
    cases h
    rfl
  | n :: ns, _, h => by
    cases h with
    | cons h1 h2 =>
      rw [Dp.int_inv h1, DpAll.ints_inv h2]
      rfl
theorem Dp.lst_inv {K : PySem.W.Frag} {H : Hp} {v : V} {ds : List PyData} (h : Dp K H v (.list ds)) : ∃ a xs, v = .ref a ∧ SqL K H a xs ∧ DpAll K H xs ds := by
  cases h with
  | lst hs ha => exact ⟨_, _, rfl, hs, ha⟩
theorem Dp.tup_inv {K : PySem.W.Frag} {H : Hp} {v : V} {ds : List PyData} (h : Dp K H v (.tuple ds)) : ∃ a xs, v = .ref a ∧ SqT K H a xs ∧ DpAll K H xs ds := by
  cases h with
  | tup hs ha => exact ⟨_, _, rfl, hs, ha⟩
/-! ### an int or None -/
def oV : Option Int → V
  | none => .non
  | some i => .int i
def oD : Option Int → PyData
  | none => .none
  | some i => .int i
theorem Dp.o {K : PySem.W.Frag} {H : Hp} : ∀ o : Option Int, Dp K H (oV o) (oD o)
  | none => .non
  | some i => .int i
theorem Dp.o_inv {K : PySem.W.Frag} {H : Hp} {v : V} : ∀ {o : Option Int}, Dp K H v (oD o) → v = oV o
  | none, h => by
    cases h
    rfl
  | some i, h => by
    cases h
    rfl
theorem oV_non {o : Option Int} : decide (oV o = .non) = o.isNone := by
  cases o <;> rfl
theorem eqv_o : ∀ a b : Option Int, PyData.eqv (oD a) (oD b) = decide (a = b)
  | none, none => by rfl
  | none, some _ => by rfl
  | some _, none => by rfl
  | some a, some b => by
    show (a == b) = _
    by_cases h : a = b
    · subst h
      rw [decide_eq_true rfl]
      exact beq_self_eq_true a
    · rw [decide_eq_false (fun e => h (Option.some.inj e))]
      exact beq_eq_false_iff_ne.mpr h
theorem shaped_o (a : Option Int) : SeqAt.shaped (oD a) = true := by
  cases a <;> rfl
/-! ### links and nets -/
structure Lnk where
  a : Int
  b : Int
  t : Option Int
  k : Option Int
structure Net where
  n : Int
  ls : List Lnk
def lnkV (l : Lnk) : List V := [.int l.a, .int l.b, oV l.t, oV l.k]
def lnkD (l : Lnk) : PyData := .tuple [.int l.a, .int l.b, oD l.t, oD l.k]
def netD (N : Net) : PyData := .tuple [.int N.n, .list (N.ls.map lnkD)]
theorem Dp.lnk_inv {K : PySem.W.Frag} {H : Hp} {v : V} {l : Lnk} (h : Dp K H v (lnkD l)) : ∃ a, v = .ref a ∧ SqT K H a (lnkV l) := by
  obtain ⟨a, xs, rfl, hs, ha⟩ := Dp.tup_inv h
  cases ha with
  | cons h1 r1 =>
    cases r1 with
    | cons h2 r2 =>
      cases r2 with
      | cons h3 r3 =>
        cases r3 with
        | cons h4 r4 =>
          cases r4
          rw [Dp.int_inv h1, Dp.int_inv h2, Dp.o_inv h3, Dp.o_inv h4] at hs
          exact ⟨a, rfl, hs⟩
theorem Dp.lnk {K : PySem.W.Frag} {H : Hp} {a : Addr} {l : Lnk} (h : SqT K H a (lnkV l)) : Dp K H (.ref a) (lnkD l) :=
  .tup h (.cons (.int _) (.cons (.int _) (.cons (Dp.o _) (.cons (Dp.o _) .nil))))
theorem Dp.net_inv {K : PySem.W.Frag} {H : Hp} {v : V} {N : Net} (h : Dp K H v (netD N)) : ∃ p q xs, v = .ref p ∧ SqT K H p [.int N.n, .ref q] ∧ SqL K H q xs ∧ DpAll K H xs (N.ls.map lnkD) := by
  obtain ⟨a, xs, rfl, hs, ha⟩ := Dp.tup_inv h
  cases ha with
  | cons h1 r1 =>
    cases r1 with
    | cons h2 r2 =>
      cases r2
      obtain ⟨q, ys, rfl, hl, hy⟩ := Dp.lst_inv h2
      rw [Dp.int_inv h1] at hs
      exact ⟨a, q, ys, rfl, hs, hl, hy⟩
theorem Dp.net {K : PySem.W.Frag} {H : Hp} {p q : Addr} {xs : List V} {N : Net} (h : SqT K H p [.int N.n, .ref q]) (hq : SqL K H q xs) (hx : DpAll K H xs (N.ls.map lnkD)) : Dp K H (.ref p) (netD N) :=
  .tup h (.cons (.int _) (.cons (.lst hq hx) .nil))
/-! ### pure expressions: what they evaluate to, the heap as it is -/
def Vl (te : TE) (σ : L2.St) (H : Hp) (v : V) : Prop := ∀ Q : VK, Q v H → te σ H Q
def An (t : TT) (σ : L2.St) (H : Hp) (b : Bool) : Prop := ∀ Q : Bool → Hp → Prop, Q b H → t σ H Q
def Va (ta : TA) (σ : L2.St) (H : Hp) (vs : List V) : Prop := ∀ Q : List V → Hp → Prop, Q vs H → ta σ H Q
section
variable {K : PySem.W.Frag} {σ : L2.St} {H : Hp} {i : Nat} {v x y z : V} {ta tb te tv : TE} {b : Bool} {a : Addr} {t u c : TT} {tr : TA} {D : Ends} {tz tw : TS}
theorem va_nil : Va tNil σ H [] := fun _ q => q
theorem va_cons {vs : List V} (h : Vl ta σ H x) (hr : Va tr σ H vs) : Va (tCons ta tr) σ H (x :: vs) := fun Q q => h _ (hr _ q)
theorem vl_var (h : σ[i]? = some (some v)) : Vl (tVar i) σ H v := fun _ q => ⟨v, h, q⟩
theorem vl_c : Vl (tC v) σ H v := fun _ q => q
theorem vl_op {r : R2} (ha : Vl ta σ H x) (hb : Vl tb σ H y) (hr : ∀ Q : VK, Q z H → r x y H Q) : Vl (tOp r ta tb) σ H z := fun Q q => ha _ (hb _ (hr _ q))
theorem vl_I0 {g : Int → Int → V} {p q : Int} (ha : Vl ta σ H (.int p)) (hb : Vl tb σ H (.int q)) : Vl (tOp (rI0 g) ta tb) σ H (g p q) := vl_op ha hb fun _ k => ⟨p, q, rfl, rfl, k⟩
theorem vl_I {C : Int → Int → Prop} {g : Int → Int → V} {p q : Int} (ha : Vl ta σ H (.int p)) (hb : Vl tb σ H (.int q)) (hc : C p q) : Vl (tOp (rI C g) ta tb) σ H (g p q) := vl_op ha hb fun _ k => ⟨p, q, rfl, rfl, hc, k⟩
theorem vl_un {r : V → Hp → VK → Prop} (ha : Vl ta σ H x) (hr : ∀ Q : VK, Q z H → r x H Q) : Vl (tUn r ta) σ H z := fun Q q => ha _ (hr _ q)
theorem vl_neg {p : Int} (ha : Vl ta σ H (.int p)) : Vl (tUn (rU fun i => .int (-i)) ta) σ H (.int (-p)) := vl_un ha fun _ k => ⟨p, rfl, k⟩
theorem vl_cb {r : List V → Hp → VK → Prop} {vs : List V} (h : Va tr σ H vs) (hr : ∀ Q : VK, Q z H → r vs H Q) : Vl (tCB r tr) σ H z := fun Q q => h _ (hr _ q)
theorem vl_int1 {p : Int} (ha : Vl ta σ H (.int p)) : Vl (tCB (fun xs H Q => (∃ i, xs = [V.int i] ∧ Q (V.int i) H) ∨ ∃ k, xs = [V.bl k] ∧ Q (V.int (if k then 1 else 0)) H) (tCons ta tNil)) σ H (.int p) :=
  vl_cb (va_cons ha va_nil) fun _ k => .inl ⟨p, rfl, k⟩
theorem vl_int1b {k : Bool} (ha : Vl ta σ H (.bl k)) : Vl (tCB (fun xs H Q => (∃ i, xs = [V.int i] ∧ Q (V.int i) H) ∨ ∃ k, xs = [V.bl k] ∧ Q (V.int (if k then 1 else 0)) H) (tCons ta tNil)) σ H (.int (if k then 1 else 0)) :=
  vl_cb (va_cons ha va_nil) fun _ q => .inr ⟨k, rfl, q⟩
theorem vl_abs {p : Int} (ha : Vl ta σ H (.int p)) : Vl (tCB (fun xs H Q => ∃ i, xs = [V.int i] ∧ Q (V.int (if i < 0 then -i else i)) H) (tCons ta tNil)) σ H (.int (if p < 0 then -p else p)) :=
  vl_cb (va_cons ha va_nil) fun _ k => ⟨p, rfl, k⟩
theorem vl_min2 {p q : Int} (ha : Vl ta σ H (.int p)) (hb : Vl tb σ H (.int q)) : Vl (tCB (fun xs H Q => ∃ i j, xs = [V.int i, V.int j] ∧ Q (V.int (if j < i then j else i)) H) (tCons ta (tCons tb tNil))) σ H (.int (if q < p then q else p)) :=
  vl_cb (va_cons ha (va_cons hb va_nil)) fun _ k => ⟨p, q, rfl, k⟩
theorem vl_max2 {p q : Int} (ha : Vl ta σ H (.int p)) (hb : Vl tb σ H (.int q)) : Vl (tCB (fun xs H Q => ∃ i j, xs = [V.int i, V.int j] ∧ Q (V.int (if j > i then j else i)) H) (tCons ta (tCons tb tNil))) σ H (.int (if q > p then q else p)) :=
  vl_cb (va_cons ha (va_cons hb va_nil)) fun _ k => ⟨p, q, rfl, k⟩
theorem vl_lenL {xs : List V} (ha : Vl ta σ H (.ref a)) (h : SqL K H a xs) : Vl (tCB (fun xs H Q => ∃ p ys, xs = [V.ref p] ∧ (SqL K H p ys ∨ SqT K H p ys) ∧ Q (V.int ys.length) H) (tCons ta tNil)) σ H (.int xs.length) :=
  vl_cb (va_cons ha va_nil) fun _ k => ⟨a, xs, rfl, .inl h, k⟩
theorem vl_ixL {xs : List V} {p : Int} (ha : Vl ta σ H (.ref a)) (hb : Vl tb σ H (.int p)) (h : SqL K H a xs) (hg : atI xs p = some z) : Vl (tOp (rIxL K) ta tb) σ H z :=
  vl_op ha hb fun _ k => ⟨a, xs, p, z, rfl, rfl, h, hg, k⟩
theorem vl_ixT {xs : List V} {p : Int} (ha : Vl ta σ H (.ref a)) (hb : Vl tb σ H (.int p)) (h : SqT K H a xs) (hg : atI xs p = some z) : Vl (tOp (rIxT K) ta tb) σ H z :=
  vl_op ha hb fun _ k => ⟨a, xs, p, z, rfl, rfl, h, hg, k⟩
theorem vl_eq (ha : Vl ta σ H x) (hb : Vl tb σ H y) (hs : scal x y = true) : Vl (tOp rEq ta tb) σ H (.bl (decide (x = y))) := vl_op ha hb fun _ k => ⟨hs, k⟩
theorem vl_ne (ha : Vl ta σ H x) (hb : Vl tb σ H y) (hs : scal x y = true) : Vl (tOp rNe ta tb) σ H (.bl (!decide (x = y))) := vl_op ha hb fun _ k => ⟨hs, k⟩
theorem vl_isN (ha : Vl ta σ H x) : Vl (tOp (fun x y H Q => y = V.non ∧ Q (V.bl (decide (x = V.non))) H) ta (tC .non)) σ H (.bl (decide (x = .non))) := vl_op ha vl_c fun _ k => ⟨rfl, k⟩
theorem vl_notN (ha : Vl ta σ H x) : Vl (tOp (fun x y H Q => y = V.non ∧ Q (V.bl (!decide (x = V.non))) H) ta (tC .non)) σ H (.bl (!decide (x = .non))) := vl_op ha vl_c fun _ k => ⟨rfl, k⟩
theorem vl_chain {r r' : R2} {tc : TE} {w : V} {k m : Bool} (ha : Vl ta σ H x) (hb : Vl tb σ H y) (hr : ∀ Q : VK, Q (.bl k) H → r x y H Q) (hc : Vl tc σ H w) (hr' : ∀ Q : VK, Q (.bl m) H → r' y w H Q) : Vl (tChain r r' ta tb tc) σ H (.bl (k && m)) := fun Q q =>
  ha _ (hb _ (hr _ ⟨k, rfl, by
    cases k with
    | true => exact iteT (hc _ (hr' _ q))
    | false => exact iteF q⟩))
theorem vl_chainI {g g' : Int → Int → Bool} {tc : TE} {p q s : Int} (ha : Vl ta σ H (.int p)) (hb : Vl tb σ H (.int q)) (hc : Vl tc σ H (.int s)) :
    Vl (tChain (rI0 fun i j => .bl (g i j)) (rI0 fun i j => .bl (g' i j)) ta tb tc) σ H (.bl (g p q && g' q s)) :=
  vl_chain ha hb (fun _ k => ⟨p, q, rfl, rfl, k⟩) hc (fun _ k => ⟨q, s, rfl, rfl, k⟩)
theorem vl_if {b : Bool} (h : An t σ H b) (h1 : b = true → Vl ta σ H v) (h2 : b = false → Vl tb σ H v) : Vl (tIf t ta tb) σ H v := fun Q q => h _ (by
  cases b with
  | true => exact iteT (h1 rfl _ q)
  | false => exact iteF (h2 rfl _ q))
theorem an_test {b : Bool} (h : Vl te σ H (.bl b)) : An (tTest te) σ H b := fun Q q => h _ ⟨b, rfl, q⟩
theorem an_B {b : Bool} (h : Vl te σ H (.bl b)) : An (tB te) σ H b := fun Q q => h _ ⟨b, rfl, q⟩
theorem an_not (h : An t σ H b) : An (tNot t) σ H (!b) := fun Q q => h _ q
theorem an_and {k m : Bool} (h1 : An t σ H k) (h2 : k = true → An u σ H m) : An (tAnd t u) σ H (k && m) := fun Q q => h1 _ (by
  cases k with
  | true => exact iteT (h2 rfl _ q)
  | false => exact iteF q)
theorem an_or {k m : Bool} (h1 : An t σ H k) (h2 : k = false → An u σ H m) : An (tOr t u) σ H (k || m) := fun Q q => h1 _ (by
  cases k with
  | true => exact iteT q
  | false => exact iteF (h2 rfl _ q))
theorem An.is {k m : Bool} (h : An t σ H k) (e : k = m) : An t σ H m := e ▸ h
theorem Vl.is {v w : V} (h : Vl te σ H v) (e : v = w) : Vl te σ H w := e ▸ h
/-! ### statements over them -/
theorem g_seq (h : tz { D with nx := tw D } σ H) : tSeq tz tw D σ H := h
theorem g_asg {i : Nat} (h : Vl te σ H v) (k : D.nx (σ.set i (some v)) H) : tAsg te (gName i) D σ H := h _ k
theorem g_ret (h : Vl te σ H v) (k : D.rt v H) : tRet te D σ H := h _ k
theorem g_if {b : Bool} (h : An t σ H b) (h1 : b = true → tz D σ H) (h2 : b = false → tw D σ H) : tIfS t tz tw D σ H := h _ (by
  cases b with
  | true => exact iteT (h1 rfl)
  | false => exact iteF (h2 rfl))
theorem g_app {l : Addr} {xs : List V} (ho : Vl ta σ H (.ref l)) (hl : H l = some (.lst xs)) (h : Vl te σ H v) (hz : xs.length < sizeLine) (k : D.nx σ (upd H l (.lst (xs ++ [v])))) :
    tDrop (tBM K "list" rAppend ta (tCons te tNil)) D σ H := ho _ ⟨.inl ⟨rfl, _, .inl (.inl hl)⟩, h _ ⟨l, xs, v, rfl, rfl, hl, hz, k⟩⟩
theorem at_int {ds : List Int} {k : Int} (h0 : 0 ≤ k) (h1 : k < (ds.length : Int)) : ∃ d, atI (ds.map V.int) k = some (.int d) ∧ ds[k.toNat]? = some d := by
  have hj : k.toNat < ds.length := by omega
  have g : (ds.map V.int)[k.toNat]? = some (.int ds[k.toNat]) := by
    rw [List.getElem?_map, List.getElem?_eq_getElem hj]
    rfl
  have g2 := atI_nat g
  rw [show ((k.toNat : Nat) : Int) = k by omega] at g2
  exact ⟨ds[k.toNat], g2, List.getElem?_eq_getElem hj⟩
/-! ### loops -/
theorem g_forR {j : Nat} {n : Int} (h : Va tr σ H [.int n]) (hn : -(2 ^ 62) ≤ n ∧ n < 2 ^ 62) (Pv : Nat → L2.St → Hp → Prop) (h0 : Pv 0 σ H)
    (hs : ∀ (i : Nat) σ H, (i : Int) < n → Pv i σ H → tz { D with nx := Pv (i + 1), ct := Pv (i + 1), bk := D.nx } (σ.set j (some (.int i))) H) (hd : ∀ σ H, Pv n.toNat σ H → D.nx σ H) :
    tFor (iRng1 tr) (gName j) tz D σ H := h _ ⟨n, rfl, hn.1, hn.2, for_range (lo := 0) (n := n.toNat) Pv h0 (fun i σ H hi p => by
      show tz _ (σ.set j (some (.int (0 + i)))) H
      rw [Int.zero_add]
      exact hs i σ H (by omega) p) hd⟩
theorem g_forR2 {j : Nat} {lo n : Int} (h : Va tr σ H [.int lo, .int n]) (hn : -(2 ^ 62) ≤ lo ∧ lo < 2 ^ 62 ∧ -(2 ^ 62) ≤ n ∧ n < 2 ^ 62) (Pv : Nat → L2.St → Hp → Prop) (h0 : Pv 0 σ H)
    (hs : ∀ (i : Nat) σ H, lo + (i : Int) < n → Pv i σ H → tz { D with nx := Pv (i + 1), ct := Pv (i + 1), bk := D.nx } (σ.set j (some (.int (lo + i)))) H) (hd : ∀ σ H, Pv (n - lo).toNat σ H → D.nx σ H) :
    tFor (iRng2 tr) (gName j) tz D σ H := h _ ⟨lo, n, rfl, hn, for_range (lo := lo) (n := (n - lo).toNat) Pv h0 (fun i σ H hi p => hs i σ H (by omega) p) hd⟩
theorem g_forL {j : Nat} {xs : List V} {tl : TE} (h : Vl tl σ H (.ref a)) (hx : SqL K H a xs) (Pv : Nat → L2.St → Hp → Prop) (h0 : Pv 0 σ H) (hl : ∀ i σ' H', Pv i σ' H' → SqL K H' a xs)
    (hs : ∀ (i : Nat) x σ H, xs[i]? = some x → Pv i σ H → tz { D with nx := Pv (i + 1), ct := Pv (i + 1), bk := D.nx } (σ.set j (some x)) H) (hd : ∀ σ H, Pv xs.length σ H → D.nx σ H) :
    tFor (iList K tl) (gName j) tz D σ H := h _ ⟨a, rfl, ⟨_, hx⟩, for_list (xs := xs) Pv h0 (fun i σ H _ p => hl i σ H p) hs hd⟩
/-- for a, b, there, back in links -/
theorem g_forLnk {j1 j2 j3 j4 : Nat} {Hb : Hp} {xs : List V} {ls : List Lnk} {tl : TE} (h : Vl tl σ H (.ref a)) (hx : SqL K Hb a xs) (hL : DpAll K Hb xs (ls.map lnkD)) (hb : Same Hb H) (Pv : Nat → L2.St → Hp → Prop) (h0 : Pv 0 σ H) (hl : ∀ i σ' H', Pv i σ' H' → Same Hb H')
    (hs : ∀ (i : Nat) l σ H, ls[i]? = some l → Pv i σ H → tz { D with nx := Pv (i + 1), ct := Pv (i + 1), bk := D.nx } ((((σ.set j1 (some (.int l.a))).set j2 (some (.int l.b))).set j3 (some (oV l.t))).set j4 (some (oV l.k))) H) (hd : ∀ σ H, Pv ls.length σ H → D.nx σ H) :
    tFor (iList K tl) (gTup K 4 (gCons (gName j1) (gCons (gName j2) (gCons (gName j3) (gCons (gName j4) gNil))))) tz D σ H := h _ ⟨a, rfl, ⟨_, hb.seq hx⟩, for_list (xs := xs) Pv h0 (fun i σ H _ p => (hl i σ H p).seq hx) (fun i x σ H hi p => by
      have e := DpAll.len hL
      rw [List.length_map] at e
      have hlt : i < xs.length := by
        by_cases hlt : i < xs.length
        · exact hlt
        · rw [List.getElem?_eq_none (by omega)] at hi
          cases hi
      have hg : ls[i]? = some ls[i] := List.getElem?_eq_getElem (by omega)
      obtain ⟨v, hv, dv⟩ := DpAll.get (i := i) (d := lnkD ls[i]) hL (by
        rw [List.getElem?_map, hg]
        rfl)
      cases hi.symm.trans hv
      obtain ⟨t, rfl, ht⟩ := Dp.lnk_inv dv
      exact ⟨t, _, rfl, seqT (hl i σ H p) ht, rfl, _, _, rfl, _, _, rfl, _, _, rfl, _, _, rfl, rfl, hs i _ σ H hg p⟩) (fun σ H p => by
      have e := DpAll.len hL
      rw [List.length_map] at e
      rw [e] at p
      exact hd σ H p)⟩
/-! ### the same with what follows -/
theorem q_asg {i : Nat} (h : Vl te σ H v) (k : tw D (σ.set i (some v)) H) : tSeq (tAsg te (gName i)) tw D σ H := h _ k
theorem q_if {b : Bool} {tu : TS} (h : An t σ H b) (h1 : b = true → tz { D with nx := tw D } σ H) (h2 : b = false → tu { D with nx := tw D } σ H) : tSeq (tIfS t tz tu) tw D σ H := g_if (D := { D with nx := tw D }) h h1 h2
/-- an if without else whose body leaves the def (or the turn) -/
theorem q_when {b : Bool} (h : An t σ H b) (h1 : b = true → tz { D with nx := tw D } σ H) (h2 : b = false → tw D σ H) : tSeq (tIfS t tz tNext) tw D σ H := g_if (D := { D with nx := tw D }) h h1 h2
theorem g_when {b : Bool} (h : An t σ H b) (h1 : b = true → tz D σ H) (h2 : b = false → D.nx σ H) : tIfS t tz tNext D σ H := g_if h h1 h2
theorem q_app {l : Addr} {xs : List V} (ho : Vl ta σ H (.ref l)) (hl : H l = some (.lst xs)) (h : Vl te σ H v) (hz : xs.length < sizeLine) (k : tw D σ (upd H l (.lst (xs ++ [v])))) :
    tSeq (tDrop (tBM K "list" rAppend ta (tCons te tNil))) tw D σ H := g_app (D := { D with nx := tw D }) ho hl h hz k
theorem q_forR {j : Nat} {n : Int} (h : Va tr σ H [.int n]) (hn : -(2 ^ 62) ≤ n ∧ n < 2 ^ 62) (Pv : Nat → L2.St → Hp → Prop) (h0 : Pv 0 σ H)
    (hs : ∀ (i : Nat) σ H, (i : Int) < n → Pv i σ H → tz { D with nx := Pv (i + 1), ct := Pv (i + 1), bk := tw D } (σ.set j (some (.int i))) H) (hd : ∀ σ H, Pv n.toNat σ H → tw D σ H) :
    tSeq (tFor (iRng1 tr) (gName j) tz) tw D σ H := g_forR (D := { D with nx := tw D }) h hn Pv h0 hs hd
theorem q_forR2 {j : Nat} {lo n : Int} (h : Va tr σ H [.int lo, .int n]) (hn : -(2 ^ 62) ≤ lo ∧ lo < 2 ^ 62 ∧ -(2 ^ 62) ≤ n ∧ n < 2 ^ 62) (Pv : Nat → L2.St → Hp → Prop) (h0 : Pv 0 σ H)
    (hs : ∀ (i : Nat) σ H, lo + (i : Int) < n → Pv i σ H → tz { D with nx := Pv (i + 1), ct := Pv (i + 1), bk := tw D } (σ.set j (some (.int (lo + i)))) H) (hd : ∀ σ H, Pv (n - lo).toNat σ H → tw D σ H) :
    tSeq (tFor (iRng2 tr) (gName j) tz) tw D σ H := g_forR2 (D := { D with nx := tw D }) h hn Pv h0 hs hd
theorem q_forL {j : Nat} {xs : List V} {tl : TE} (h : Vl tl σ H (.ref a)) (hx : SqL K H a xs) (Pv : Nat → L2.St → Hp → Prop) (h0 : Pv 0 σ H) (hl : ∀ i σ' H', Pv i σ' H' → SqL K H' a xs)
    (hs : ∀ (i : Nat) x σ H, xs[i]? = some x → Pv i σ H → tz { D with nx := Pv (i + 1), ct := Pv (i + 1), bk := tw D } (σ.set j (some x)) H) (hd : ∀ σ H, Pv xs.length σ H → tw D σ H) :
    tSeq (tFor (iList K tl) (gName j) tz) tw D σ H := g_forL (D := { D with nx := tw D }) h hx Pv h0 hl hs hd
theorem q_forLnk {j1 j2 j3 j4 : Nat} {Hb : Hp} {xs : List V} {ls : List Lnk} {tl : TE} (h : Vl tl σ H (.ref a)) (hx : SqL K Hb a xs) (hL : DpAll K Hb xs (ls.map lnkD)) (hb : Same Hb H) (Pv : Nat → L2.St → Hp → Prop) (h0 : Pv 0 σ H) (hl : ∀ i σ' H', Pv i σ' H' → Same Hb H')
    (hs : ∀ (i : Nat) l σ H, ls[i]? = some l → Pv i σ H → tz { D with nx := Pv (i + 1), ct := Pv (i + 1), bk := tw D } ((((σ.set j1 (some (.int l.a))).set j2 (some (.int l.b))).set j3 (some (oV l.t))).set j4 (some (oV l.k))) H) (hd : ∀ σ H, Pv ls.length σ H → tw D σ H) :
    tSeq (tFor (iList K tl) (gTup K 4 (gCons (gName j1) (gCons (gName j2) (gCons (gName j3) (gCons (gName j4) gNil))))) tz) tw D σ H := g_forLnk (D := { D with nx := tw D }) h hx hL hb Pv h0 hl hs hd
theorem q_asgT2 {i j : Nat} {p : Addr} (h : Vl te σ H (.ref p)) (hp : SqT K H p [x, y]) (k : tw D ((σ.set i (some x)).set j (some y)) H) : tSeq (tAsg te (gTup K 2 (gCons (gName i) (gCons (gName j) gNil)))) tw D σ H :=
  h _ ⟨p, _, rfl, hp, rfl, _, _, rfl, _, _, rfl, rfl, k⟩
theorem q_dnewT {i : Nat} (k : ∀ p, H p = none → tw D (σ.set i (some (.ref p))) (upd H p (.dT []))) : tSeq (tAsg tDNewT (gName i)) tw D σ H := k
theorem q_lnew {i : Nat} (k : ∀ p, H p = none → tw D (σ.set i (some (.ref p))) (upd H p (.lst []))) : tSeq (tAsg (tLst tNil) (gName i)) tw D σ H := ⟨Nat.zero_le _, k⟩
theorem q_dput {td ty : TE} {o : Addr} {kvs : List (List Key × V)} {y1 y2 : Int} (hv : Vl te σ H v) (ho : Vl td σ H (.ref o)) (h1 : Vl ta σ H (.int y1)) (h2 : Vl tb σ H (.int y2)) (hd : H o = some (.dT kvs)) (hl : kvs.length < sizeLine)
    (k : ∀ T, H T = none → o ≠ T → tw D σ (upd (upd H T (.tup [.int y1, .int y2])) o (.dT (putK kvs [.inl y1, .inl y2] v)))) : tSeq (sDPut td (tTup (tCons ta (tCons tb tNil))) te) tw D σ H :=
  hv _ (ho _ (h1 _ (h2 _ ⟨by show 2 ≤ sizeLine; decide, fun T nT => by
    have oT : o ≠ T := ne_of_none hd nT
    exact ⟨o, _, rfl, DPut.t (k := [.inl y1, .inl y2]) (by rw [upd_ne oT]; exact hd) upd_same hl, k T nT oT⟩⟩)))
theorem q_dgetT {i : Nat} {td : TE} {o : Addr} {kvs : List (List Key × V)} {y1 y2 : Int} (ho : Vl td σ H (.ref o)) (h1 : ∀ H, Vl ta σ H (.int y1)) (h2 : ∀ H, Vl tb σ H (.int y2)) (hd : H o = some (.dT kvs))
    (k : ∀ T, H T = none → tw D (σ.set i (some ((valV kvs [.inl y1, .inl y2]).getD .non))) (upd H T (.tup [.int y1, .int y2]))) : tSeq (tAsg (tDGet1 td (tTup (tCons ta (tCons tb tNil)))) (gName i)) tw D σ H :=
  ho _ ⟨o, rfl, .inr ⟨_, .inl hd⟩, h1 _ _ (h2 _ _ ⟨by show 2 ≤ sizeLine; decide, fun T nT => by
    have oT : o ≠ T := ne_of_none hd nT
    exact ⟨_, DGet.t (k := [.inl y1, .inl y2]) (by rw [upd_ne oT]; exact hd) upd_same, k T nT⟩⟩)⟩
theorem q_asgE {i : Nat} (h : te σ H fun v H' => tw D (σ.set i (some v)) H') : tSeq (tAsg te (gName i)) tw D σ H := h
theorem g_asgE {i : Nat} (h : te σ H fun v H' => D.nx (σ.set i (some v)) H') : tAsg te (gName i) D σ H := h
theorem q_cut {M : L2.St → Hp → Prop} (h : tz { D with nx := M } σ H) (k : ∀ σ' H', M σ' H' → tw D σ' H') : Evl.tCut tz tw D σ H := ⟨M, h, k⟩
end
/-! ### defs that may be called by their names -/
structure Df (K : PySem.W.Frag) (mg : Str → Option Value) (x : Str) (st : Stmt) (ps : List Str) : Prop where
  ex : ∃ (f : Addr) (fd : FuncData), Fun K x x st f fd ∧ mg x = some (.ref f) ∧ Binds K fd ps []
structure Kal (P : Program) (w : World) (K : PySem.W.Frag) (mg : Str → Option Value) (base : Heap) (k : Nat) (x : Str) (ps : List Str) (sp : Sp) : Prop where
  ex : ∃ (f : Addr) (fd : FuncData), FnOk P w K mg base CX0 k f fd ps sp ∧ mg x = some (.ref f) ∧ PySem.W.keepIn K (.ref f) = true ∧ Binds K fd ps []
theorem kal_of {P : Program} {w : World} {K : PySem.W.Frag} {mg : Str → Option Value} {base : Heap} {k : Nat} {x : Str} {st : Stmt} {ps : List Str} {sp : Sp} (A : Df K mg x st ps)
    (ok : ∀ f fd, Fun K x x st f fd → FnOk P w K mg base CX0 k f fd ps sp) : Kal P w K mg base k x ps sp := by
  obtain ⟨f, fd, F, g, b⟩ := A.ex
  exact ⟨f, fd, ok f fd F, g, F.kp, b⟩
theorem pe_k {X : Cx} {k j : Nat} {x : Str} {ps : List Str} {sp : Sp} {p pos : Pos} {e : Expr} {es : List Expr} {t : TA} (c : Kal X.prog X.w X.K X.mg X.base k x ps sp) (hr : Room j X.A) (hk : k ≤ j) (hg : Gl X x) (ha : PA X (e :: es) t)
    (hdb : (x == ("__debug__" : Str)) = false := by decide) (he : starEach (e :: es) X.env = (false, eval e X.env) :: starEach es X.env := by rfl) (hpl : (backTo pos (starEach es X.env)).any (·.1) = false := by rfl) :
    PE X (.Call (.Name x p) (e :: es) [] pos) (tCall sp [] E0 t) := by
  obtain ⟨f, fd, F, hm, kp, b⟩ := c.ex
  exact pe_call F (hr.mono hk) hg hm kp b .nil pass0 ha hdb he hpl
/-! ### values that are not told: ints of which P holds -/
def Vi (te : TE) (σ : L2.St) (H : Hp) (P : Int → Prop) : Prop := ∀ Q : VK, (∀ r, P r → Q (.int r) H) → te σ H Q
section
variable {K : PySem.W.Frag} {σ : L2.St} {H : Hp} {i : Nat} {ta tb te : TE} {tr : TA} {D : Ends} {tz tw tu : TS} {P P1 P2 : Int → Prop}
theorem vi_of {n : Int} (h : Vl te σ H (.int n)) : Vi te σ H (fun r => r = n) := fun _ q => h _ (q n rfl)
theorem vi_I0 {g : Int → Int → Int} (ha : Vi ta σ H P1) (hb : Vi tb σ H P2) (h : ∀ p q, P1 p → P2 q → P (g p q)) : Vi (tOp (rI0 fun i j => .int (g i j)) ta tb) σ H P := fun _ k =>
  ha _ fun p hp => hb _ fun q hq => ⟨p, q, rfl, rfl, k _ (h p q hp hq)⟩
theorem vi_call {sp : Sp} {vs : List V} (h : Va tr σ H vs) (hs : ∀ Q E, (∀ r, P r → Q (.int r) H) → sp vs H Q E) : Vi (tCall sp [] E0 tr) σ H P := fun Q q => h _ (by
  show sp (vs ++ []) H Q E0
  rw [List.append_nil]
  exact hs Q E0 q)
theorem vi_mono (h : Vi te σ H P1) (hh : ∀ r, P1 r → P r) : Vi te σ H P := fun Q q => h Q fun r hr => q r (hh r hr)
theorem g_asgI {i : Nat} (h : Vi te σ H P) (k : ∀ r, P r → D.nx (σ.set i (some (.int r))) H) : tAsg te (gName i) D σ H := h _ k
theorem q_asgI {i : Nat} (h : Vi te σ H P) (k : ∀ r, P r → tw D (σ.set i (some (.int r))) H) : tSeq (tAsg te (gName i)) tw D σ H := h _ k
theorem g_retI (h : Vi te σ H P) (k : ∀ r, P r → D.rt (.int r) H) : tRet te D σ H := h _ k
end
local macro_rules
  | `(tactic| walk_at "ev") => `(tactic| repeat' (first
    | exact vl_c | exact vl_var rfl | apply vl_I0 | apply vl_I | apply vl_int1 | apply vl_abs | apply vl_min2 | apply vl_max2 | apply vl_neg | apply vl_chainI
    | apply vl_lenL | apply vl_ixL | apply vl_ixT | apply vl_isN | apply vl_notN | apply vl_eq | apply vl_ne
    | apply an_test | apply an_B | apply an_not
    | exact (show (0 : Int) < _ by decide) | exact (show (0 : Int) < _ ∧ _ < (1073741824 : Int) from ⟨by decide, by decide⟩)))
abbrev sDraws : Stmt := topS 17
theorem scDraws : FnScope ["script", "draws", "k", "rest", "turn", "mixed"] ["script"] (defScope sDraws) := ⟨rfl, rfl, rfl, by decide +kernel, rfl, by decide +kernel, by decide +kernel⟩
structure DrawsOk (m : Nat) (ds : List Int) : Prop where
  len : ds.length ≤ m
  all : ∀ d ∈ ds, 0 ≤ d ∧ d < 65536
theorem DrawsOk.app {m : Nat} {ds : List Int} {d : Int} (h : DrawsOk m ds) (h0 : 0 ≤ d) (h1 : d < 65536) : DrawsOk (m + 1) (ds ++ [d]) where
  len := by
    rw [List.length_append]
    exact Nat.succ_le_succ h.len
  all := fun e he => by
    rcases List.mem_append.mp he with h' | h'
    · exact h.all e h'
    · rw [List.mem_singleton.mp h']
      exact ⟨h0, h1⟩
theorem DrawsOk.mono {m n : Nat} {ds : List Int} (h : DrawsOk m ds) (le : m ≤ n) : DrawsOk n ds := ⟨Nat.le_trans h.len le, h.all⟩
def spDraws (K : PySem.W.Frag) : Sp := fun vs H Q _ => ∃ (a : Addr) (ns : List Int), vs = [.ref a] ∧ SqL K H a (ns.map V.int) ∧ ns.length ≤ 63 ∧
  ∀ H' p ds, Same H H' → H p = none → H' p = some (.lst (ds.map V.int)) → DrawsOk 3780 ds → Q (.ref p) H'
section
variable {P : Program} {w : World} {K : PySem.W.Frag} {mg : Str → Option Value} {base : Heap}
theorem ok_draws {f : Addr} {fd : FuncData} {k : Nat} (F : Fun K "_law_draws" "_law_draws" sDraws f fd) (mr : mg "range" = none) (mm : mg "min" = none) (ml : mg "len" = none) (ma : mg "abs" = none) (mi : mg "int" = none) :
    FnOk P w K mg base CX0 (k + 1) f fd ["script"] (spDraws K) := by
  refine F.ok scDraws (fun vs H Q E h => ?_) (fun cdv A outer s H vs Q E hr h => ?_)
  · obtain ⟨a, ns, rfl, _⟩ := h
    rfl
  · obtain ⟨a, ns, rfl, hS, hlen, q⟩ := h
    refine ⟨_, pss_cons (ps_set (i := 1) scDraws.nd rfl (.inl rfl) (pe_lst pa_nil))
      (pss_cons (ps_for PassesOwn.never rfl (pi_range1 (by rfl) mr (pa_cons (pe_callB (call_min2 rfl) (by rfl) mm (by decide +kernel) (pa_cons pe_int (pa_cons (pe_callB call_len_seq (by rfl) ml PySem.boot_len (pa_cons (pv 0) pa_nil)) pa_nil))) pa_nil)) (pg_name (i := 2) scDraws.nd rfl (.inl rfl))
        (pss_cons (ps_set (i := 3) scDraws.nd rfl (.inl rfl) (pe_callB call_abs (by rfl) ma (by decide +kernel) (pa_cons (pe_ix ix_list (pv 0) (pv 2) (fun _ _ => rfl)) pa_nil)))
        (pss_one (ps_if (pt_cmpR op_ge (pv 3) (pe_op op_pow pe_int pe_int) (nomark _))
          (pss_one (ps_for PassesOwn.never rfl (pi_range1 (by rfl) mr (pa_cons pe_int pa_nil)) (pg_name (i := 4) scDraws.nd rfl (.inl rfl))
            (pss_one (ps_if (pt_cmpR op_gt (pv 3) pe_int (nomark _))
              (pss_cons (ps_expr (pe_bm PySem.F.plainAttrs_list PySem.F.slot_list_append PySem.F.type_list_append mt_append (pv 1) (pa_cons (pe_op op_mod (pe_callTy call_int1 (by rfl) mi (by decide +kernel) (pa_cons (pv 3) pa_nil)) pe_int) pa_nil)))
              (pss_one (ps_set (i := 3) scDraws.nd rfl (.inl rfl) (pe_op op_fdiv (pv 3) pe_int)))) pss_nil))))
          (pss_cons (ps_set (i := 5) scDraws.nd rfl (.inl rfl) (pe_op op_mod (pe_callTy call_int1 (by rfl) mi (by decide +kernel) (pa_cons (pe_op op_add (pe_op op_mul (pv 3) pe_int) (pe_op op_mul (pe_op op_add (pv 2) pe_int) pe_int)) pa_nil)) pe_int))
          (pss_cons (ps_set (i := 5) scDraws.nd rfl (.inl rfl) (pe_op op_mod (pe_callTy call_int1 (by rfl) mi (by decide +kernel) (pa_cons (pe_op op_add (pe_op op_add (pe_op op_mul (pv 5) pe_int) (pe_op op_mul pe_int (pv 2))) pe_int) pa_nil)) pe_int))
          (pss_cons (ps_expr (pe_bm PySem.F.plainAttrs_list PySem.F.slot_list_append PySem.F.type_list_append mt_append (pv 1) (pa_cons (pe_op op_mod (pe_callTy call_int1 (by rfl) mi (by decide +kernel) (pa_cons (pv 5) pa_nil)) pe_int) pa_nil)))
          (pss_one (ps_expr (pe_bm PySem.F.plainAttrs_list PySem.F.slot_list_append PySem.F.type_list_append mt_append (pv 1) (pa_cons (pe_op op_mod (pe_callTy call_int1 (by rfl) mi (by decide +kernel) (pa_cons (pe_op op_fdiv (pv 5) pe_int) pa_nil)) pe_int) pa_nil)))))))))))
      (pss_one (ps_ret (pv 1)))), ?_⟩
    -- draws = []
    refine ⟨Nat.zero_le _, fun o no => ?_⟩
    have s1 : Same H (upd H o (.lst [])) := same_upd no
    have hS1 := s1.seq hS
    refine (q_forR (n := if (ns.length : Int) < 63 then (ns.length : Int) else 63) (va_cons (vl_min2 vl_c ((vl_lenL (vl_var rfl) hS1).is (by rw [List.length_map]))) va_nil) ⟨by split <;> omega, by split <;> omega⟩
      (fun i σ H3 => ∃ y2 y3 y4 y5 ds, σ = [some (.ref a), some (.ref o), y2, y3, y4, y5] ∧ Same H H3 ∧ H3 o = some (.lst (ds.map V.int)) ∧ DrawsOk (60 * i) ds)
      ⟨none, none, none, none, [], rfl, s1, upd_same, Nat.zero_le _, fun _ h => by cases h⟩ (fun i σ H3 hi hP => ?_) (fun σ H3 hP => ?_))
    · obtain ⟨y2, y3, y4, y5, ds, rfl, sm, ho, hd⟩ := hP
      have hi2 : i < ns.length := by
        split at hi <;> omega
      have hA := sm.seq hS
      have g1 : (ns.map V.int)[i]? = some (.int ns[i]) := by
        rw [List.getElem?_map, List.getElem?_eq_getElem hi2]
        rfl
      -- rest = abs(script[k])
      refine (q_asg (v := .int (if ns[i] < 0 then -ns[i] else ns[i])) (vl_abs (vl_ixL (vl_var rfl) (vl_var rfl) hA (atI_nat g1))) ?_)
      generalize hr0 : (if ns[i] < 0 then -ns[i] else ns[i]) = r
      have hr1 : 0 ≤ r := by
        rw [← hr0]
        split <;> omega
      refine g_if (b := decide ((10 : Int) ^ (18 : Int).toNat ≤ r)) (by exact an_test (vl_I0 (vl_var rfl) (vl_I vl_c vl_c ⟨by decide, by decide, by decide⟩))) (fun _ => ?_) (fun hlt => ?_)
      · refine g_forR (n := 60) (va_cons vl_c va_nil) ⟨by decide, by decide⟩
          (fun j σ H4 => ∃ y4 r ds', σ = [some (.ref a), some (.ref o), some (.int i), some (.int r), y4, y5] ∧ Same H H4 ∧ H4 o = some (.lst (ds'.map V.int)) ∧ DrawsOk (60 * i + j) ds')
          ⟨y4, r, ds, rfl, sm, ho, hd⟩ (fun j σ H4 hj hP => ?_) (fun σ H4 hP => ?_)
        · obtain ⟨z4, r', ds', rfl, sm', ho', hd'⟩ := hP
          refine g_if (by walk_at "ev") (fun _ => ?_) (fun _ => ?_)
          · have h0 : 0 ≤ r' % 65536 := Int.emod_nonneg _ (by decide)
            have h1 : r' % 65536 < 65536 := Int.emod_lt_of_pos _ (by decide)
            refine (q_app (vl_var rfl) ho' (v := .int (r' % 65536)) (by walk_at "ev") ?_ ?_)
            · rw [List.length_map]
              have := hd'.len
              exact Nat.lt_of_le_of_lt this (Nat.lt_of_le_of_lt (show 60 * i + j ≤ 10000 by omega) (by decide))
            · refine g_asg (v := .int (r' / 65536)) (by walk_at "ev") ?_
              refine ⟨_, _, ds' ++ [r' % 65536], rfl, same_upd' sm' no, ?_, hd'.app h0 h1⟩
              rw [upd_same, List.map_append]
              rfl
          · exact ⟨_, _, ds', rfl, sm', ho', hd'.mono (Nat.le_succ _)⟩
        · obtain ⟨z4, r', ds', rfl, sm', ho', hd'⟩ := hP
          exact ⟨_, _, _, _, ds', rfl, sm', ho', hd'⟩
      · have hlt : r < 1000000000000000000 := by
          have := of_decide_eq_false hlt
          have e : (10 : Int) ^ (18 : Int).toNat = 1000000000000000000 := by decide
          omega
        refine (q_asg (v := .int ((r * 48271 + ((i : Int) + 1) * 69621) % 2147483647)) (by walk_at "ev"; exact .inl ⟨by omega, by omega⟩; exact .inl ⟨by omega, by omega⟩) ?_)
        generalize hm : (r * 48271 + ((i : Int) + 1) * 69621) % 2147483647 = m
        have hm0 : 0 ≤ m := by
          rw [← hm]
          exact Int.emod_nonneg _ (by decide)
        have hm1 : m < 2147483647 := by
          rw [← hm]
          exact Int.emod_lt_of_pos _ (by decide)
        refine (q_asg (v := .int ((m * 16807 + 11 * (i : Int) + 5) % 2147483629)) (by walk_at "ev"; exact .inl ⟨by omega, by omega⟩; exact .inl ⟨by decide, by decide⟩) ?_)
        generalize (m * 16807 + 11 * (i : Int) + 5) % 2147483629 = m2
        have h0 : 0 ≤ m2 % 65536 := Int.emod_nonneg _ (by decide)
        have h1 : m2 % 65536 < 65536 := Int.emod_lt_of_pos _ (by decide)
        have h2 : 0 ≤ (m2 / 65536) % 32768 := Int.emod_nonneg _ (by decide)
        have h3 : (m2 / 65536) % 32768 < 65536 := Int.lt_trans (Int.emod_lt_of_pos _ (by decide)) (by decide)
        have hl := hd.len
        refine (q_app (vl_var rfl) ho (v := .int (m2 % 65536)) (by walk_at "ev") ?_ ?_)
        · rw [List.length_map]
          exact Nat.lt_of_le_of_lt (show ds.length ≤ 10000 by omega) (by decide)
        · refine g_app (vl_var rfl) upd_same (v := .int ((m2 / 65536) % 32768)) (by walk_at "ev") ?_ ?_
          · rw [List.length_append, List.length_map]
            exact Nat.lt_of_le_of_lt (show ds.length + 1 ≤ 10000 by omega) (by decide)
          · refine ⟨_, _, _, _, (ds ++ [m2 % 65536]) ++ [(m2 / 65536) % 32768], rfl, same_upd' (same_upd' sm no) no, ?_, ((hd.app h0 h1).app h2 h3).mono (by omega)⟩
            rw [upd_same, List.map_append, List.map_append]
            rfl
    · obtain ⟨y2, y3, y4, y5, ds, rfl, sm, ho, hd⟩ := hP
      refine g_ret (vl_var rfl) (q H3 o ds sm no ho (hd.mono ?_))
      split <;> omega
end
abbrev sAt : Stmt := topS 18
abbrev sIsI : Stmt := topS 19
theorem scAt : FnScope ["draws", "k", "many"] ["draws", "k", "many"] (defScope sAt) := ⟨rfl, rfl, rfl, by decide +kernel, rfl, by decide +kernel, by decide +kernel⟩
theorem scIsI : FnScope ["actual"] ["actual"] (defScope sIsI) := ⟨rfl, rfl, rfl, by decide +kernel, rfl, by decide +kernel, by decide +kernel⟩
local macro_rules
  | `(tactic| walk_at "ev") => `(tactic| repeat' (first
    | exact vl_c | exact vl_var rfl | apply vl_I0 | apply vl_I | apply vl_int1 | apply vl_abs | apply vl_min2 | apply vl_max2 | apply vl_neg | apply vl_chainI
    | apply vl_lenL | apply vl_ixL | apply vl_ixT | apply vl_isN | apply vl_notN | apply vl_eq | apply vl_ne
    | apply an_test | apply an_B | apply an_not
    | exact (show (0 : Int) < _ by decide) | exact (show (0 : Int) < _ ∧ _ < (1073741824 : Int) from ⟨by decide, by decide⟩)))
/-- an int in [0, m) for draws, k, m -/
def spAt (K : PySem.W.Frag) : Sp := fun vs H Q _ => ∃ (a : Addr) (ds : List Int) (k m : Int), vs = [.ref a, .int k, .int m] ∧ SqL K H a (ds.map V.int) ∧ 0 ≤ k ∧ 0 < m ∧ ∀ r, 0 ≤ r ∧ r < m → Q (.int r) H
def spIsI : Sp := fun vs H Q _ => ∃ i : Int, vs = [.int i] ∧ Q (.bl true) H
section
variable {P : Program} {w : World} {K : PySem.W.Frag} {mg : Str → Option Value} {base : Heap}
theorem ok_isI {f : Addr} {fd : FuncData} {k : Nat} (F : Fun K "_law_is_integer" "_law_is_integer" sIsI f fd) (ms : mg "isinstance" = none) (mi : mg "int" = none) (mb : mg "bool" = none) :
    FnOk P w K mg base CX0 (k + 1) f fd ["actual"] spIsI := by
  refine F.ok scIsI (fun vs H Q E h => ?_) (fun cdv A outer s H vs Q E hr h => ?_)
  · obtain ⟨i, rfl, _⟩ := h
    rfl
  · obtain ⟨i, rfl, q⟩ := h
    refine ⟨_, pss_one (ps_ret (pe_and (pe_callB call_isi (by rfl) ms (by decide +kernel) (pa_cons (pv 0) (pa_cons (pe_bltn (v := .ty "int") (by rfl) mi (by decide +kernel) rfl) pa_nil)))
      (pe_one (pe_not (pe_callB call_isi (by rfl) ms (by decide +kernel) (pa_cons (pv 0) (pa_cons (pe_bltn (v := .ty "bool") (by rfl) mb (by decide +kernel) rfl) pa_nil))))))), ?_⟩
    refine ⟨.int i, rfl, .int i, .ty "int", .type "int", .type "int", true, rfl, .ty _, .base (.int _), kit_ty (by decide +kernel), true, rfl, iteT ?_⟩
    exact ⟨.int i, rfl, .int i, .ty "bool", .type "int", .type "bool", false, rfl, .ty _, .base (.int _), kit_ty (by decide +kernel), false, rfl, q⟩
theorem ok_at {f : Addr} {fd : FuncData} {k : Nat} (F : Fun K "_law_at" "_law_at" sAt f fd) (ml : mg "len" = none) (mi : mg "int" = none) :
    FnOk P w K mg base CX0 (k + 1) f fd ["draws", "k", "many"] (spAt K) := by
  refine F.ok scAt (fun vs H Q E h => ?_) (fun cdv A outer s H vs Q E hr h => ?_)
  · obtain ⟨a, ds, k, m, rfl, _⟩ := h
    rfl
  · obtain ⟨a, ds, k, m, rfl, hS, hk, hm, q⟩ := h
    refine ⟨_, pss_cons (ps_if (pt_cmpR op_lt (pv 1) (pe_callB call_len_seq (by rfl) ml PySem.boot_len (pa_cons (pv 0) pa_nil)) (nomark _))
        (pss_one (ps_ret (pe_op op_mod (pe_callTy call_int1 (by rfl) mi (by decide +kernel) (pa_cons (pe_ix ix_list (pv 0) (pv 1) (fun _ _ => rfl)) pa_nil)) (pv 2)))) pss_nil)
      (pss_one (ps_ret pe_int)), ?_⟩
    refine q_when (b := decide (k < (ds.length : Int))) (by exact an_test (vl_I0 (vl_var rfl) ((vl_lenL (vl_var rfl) hS).is (by rw [List.length_map])))) (fun hb => ?_) (fun _ => ?_)
    · have hb := of_decide_eq_true hb
      obtain ⟨d, g', _⟩ := at_int hk hb
      refine g_ret (v := .int (d % m)) ?_ (q _ ⟨Int.emod_nonneg _ (by omega), Int.emod_lt_of_pos _ hm⟩)
      exact vl_I (vl_int1 (vl_ixL (vl_var rfl) (vl_var rfl) hS g')) (vl_var rfl) hm
    · exact g_ret vl_c (q 0 ⟨by omega, by omega⟩)
end
def PriceOk (o : Option Int) : Prop := ∀ x, o = some x → 1 ≤ x ∧ x ≤ 1000000
structure LnkOk (n : Int) (l : Lnk) : Prop where
  a0 : 0 ≤ l.a
  ab : l.a < l.b
  bn : l.b < n
  t : PriceOk l.t
  k : PriceOk l.k
def LnkLt (x y : Lnk) : Prop := x.a < y.a ∨ (x.a = y.a ∧ x.b < y.b)
structure NetOk (N : Net) : Prop where
  n1 : 1 ≤ N.n
  n40 : N.n ≤ 40
  ok : ∀ l ∈ N.ls, LnkOk N.n l
  lt : N.ls.Pairwise LnkLt
  len : N.ls.length ≤ 1600
/-- a net that stands in H by itself -/
def NetAt (K : PySem.W.Frag) (H : Hp) (v : V) (N : Net) : Prop := ∃ p q xs, v = .ref p ∧ H p = some (.tup [.int N.n, .ref q]) ∧ H q = some (.lst xs) ∧ DpAll K H xs (N.ls.map lnkD)
theorem NetAt.dp {K : PySem.W.Frag} {H : Hp} {v : V} {N : Net} (h : NetAt K H v N) : Dp K H v (netD N) := by
  obtain ⟨p, q, xs, rfl, hp, hq, hx⟩ := h
  exact Dp.net (.of hp) (.of hq) hx
theorem NetAt.to {K : PySem.W.Frag} {H H' : Hp} {v : V} {N : Net} (h : NetAt K H v N) (s : Same H H') : NetAt K H' v N := by
  obtain ⟨p, q, xs, rfl, hp, hq, hx⟩ := h
  exact ⟨p, q, xs, rfl, s _ _ hp, s _ _ hq, DpAll.to hx s⟩
def spPrice (K : PySem.W.Frag) : Sp := fun vs H Q _ => ∃ (a : Addr) (ds : List Int) (k : Int), vs = [.ref a, .int k] ∧ SqL K H a (ds.map V.int) ∧ 0 ≤ k ∧ ∀ H' o, Same H H' → PriceOk o → Q (oV o) H'
def spNet (K : PySem.W.Frag) : Sp := fun vs H Q _ => ∃ (a : Addr) (ds : List Int) (k m : Int), vs = [.ref a, .int k, .int m] ∧ SqL K H a (ds.map V.int) ∧ 0 ≤ k ∧ 1 ≤ m ∧ m ≤ 40 ∧
  ∀ H' v N, Same H H' → NetAt K H' v N → NetOk N → N.n ≤ m → Q v H'
section
variable {P : Program} {w : World} {K : PySem.W.Frag} {mg : Str → Option Value} {base : Heap}
end
/-- the links made so far: all of them before (i, c) -/
structure LsAt (n i c : Int) (ls : List Lnk) : Prop where
  ok : ∀ l ∈ ls, LnkOk n l
  to : ∀ l ∈ ls, l.a < i ∨ (l.a = i ∧ l.b < c)
  lt : ls.Pairwise LnkLt
theorem LsAt.nil {n i c : Int} : LsAt n i c [] := ⟨fun _ h => (nomatch h), fun _ h => (nomatch h), .nil⟩
theorem LsAt.mono {n i c i' c' : Int} {ls : List Lnk} (h : LsAt n i c ls) (e : i < i' ∨ (i = i' ∧ c ≤ c')) : LsAt n i' c' ls :=
  ⟨h.ok, fun l hl => by
    have := h.to l hl
    omega, h.lt⟩
theorem LsAt.app {n i c : Int} {ls : List Lnk} {t k : Option Int} (h : LsAt n i c ls) (h0 : 0 ≤ i) (h1 : i < c) (h2 : c < n) (ht : PriceOk t) (hk : PriceOk k) : LsAt n i (c + 1) (ls ++ [⟨i, c, t, k⟩]) where
  ok := fun l hl => by
    rcases List.mem_append.mp hl with h' | h'
    · exact h.ok l h'
    · rw [List.mem_singleton.mp h']
      exact ⟨h0, h1, h2, ht, hk⟩
  to := fun l hl => by
    rcases List.mem_append.mp hl with h' | h'
    · have := h.to l h'
      omega
    · rw [List.mem_singleton.mp h']
      exact .inr ⟨rfl, Int.lt_succ c⟩
  lt := List.pairwise_append.mpr ⟨h.lt, List.pairwise_singleton _ _, fun x hx y hy => by
    rw [List.mem_singleton.mp hy]
    exact h.to x hx⟩
section
variable {P : Program} {w : World} {K : PySem.W.Frag} {mg : Str → Option Value} {base : Heap}
end
/-! ### data that is the same is equal -/
theorem lay_o : ∀ o : Option Int, (oD o).canLay0 = true ∧ (oD o).depth = 0
  | none => ⟨rfl, rfl⟩
  | some _ => ⟨rfl, rfl⟩
theorem lay_lnks : ∀ ls : List Lnk, PyData.canLayAll0 (ls.map lnkD) = true ∧ PyData.depthAll (ls.map lnkD) ≤ 1
  | [] => ⟨rfl, Nat.zero_le _⟩
  | l :: ls => by
    have h1 := lay_o l.t
    have h2 := lay_o l.k
    have ih := lay_lnks ls
    constructor
    · show (((true && (true && ((oD l.t).canLay0 && ((oD l.k).canLay0 && true)))) && PyData.canLayAll0 (ls.map lnkD)) = true)
      rw [h1.1, h2.1, ih.1]
      rfl
    · show max (max 0 (max 0 (max (oD l.t).depth (max (oD l.k).depth 0))) + 1) (PyData.depthAll (ls.map lnkD)) ≤ 1
      rw [h1.2, h2.2]
      have := ih.2
      simp only [Nat.max_self, Nat.zero_add]
      omega
theorem shaped_net (N : Net) : SeqAt.shaped (netD N) = true := by
  have h := lay_lnks N.ls
  show ((true && (PyData.canLayAll0 (N.ls.map lnkD) && true)) && decide (max 0 (max (PyData.depthAll (N.ls.map lnkD) + 1) 0) + 1 ≤ 64)) = true
  rw [h.1, decide_eq_true (show max 0 (max (PyData.depthAll (N.ls.map lnkD) + 1) 0) + 1 ≤ 64 by
    have := h.2
    omega)]
  rfl
theorem eqv_net (N : Net) : PyData.eqv (netD N) (netD N) = true := SeqAt.eqv_refl _ (Bool.and_eq_true_iff.mp (shaped_net N)).1
/-! ### new lists -/
def Vn (te : TE) (σ : L2.St) (H : Hp) (xs : List V) : Prop := ∀ Q : VK, (∀ p H', Same H H' → H p = none → H' p = some (.lst xs) → Q (.ref p) H') → te σ H Q
section
variable {K : PySem.W.Frag} {σ : L2.St} {H : Hp} {ta tb te : TE} {tr : TA} {xs ys : List V} {a : Addr} {D : Ends} {tw : TS}
theorem vn_lst (h : Va tr σ H xs) (hz : xs.length ≤ sizeLine) : Vn (tLst tr) σ H xs := fun Q q => h _ ⟨hz, fun p np => q p _ (same_upd np) np upd_same⟩
theorem vn_slice {tl th : TO} {lo hi : Option Int} (h : Vl te σ H (.ref a)) (hl : ∀ Q : Option Int → Hp → Prop, Q lo H → tl σ H Q) (hh : ∀ Q : Option Int → Hp → Prop, Q hi H → th σ H Q) (hx : SqL K H a xs) : Vn (tSl (rSlL K) te tl th) σ H (cutV xs lo hi) := fun Q q =>
  h _ (hl _ (hh _ ⟨a, xs, rfl, hx, fun p np => q p _ (same_upd np) np upd_same⟩))
theorem vn_rev (h : Vl te σ H (.ref a)) (hx : SqL K H a xs) : Vn (tRevL K te) σ H xs.reverse := fun Q q => h _ ⟨a, xs, rfl, hx, fun p np => q p _ (same_upd np) np upd_same⟩
theorem vn_cat (ha : Vn ta σ H xs) (hb : ∀ H', Same H H' → Vn tb σ H' ys) (hz : xs.length + ys.length ≤ sizeLine) : Vn (tOp rCat ta tb) σ H (xs ++ ys) := fun Q q => ha _ fun p H1 s1 np hp => hb H1 s1 _ fun r H2 s2 nr hr =>
  ⟨p, r, xs, ys, rfl, rfl, s2 _ _ hp, hr, hz, fun t nt => q t _ ((s1.trans s2).trans (same_upd nt)) (Same.free (s1.trans s2) nt) upd_same⟩
theorem vn_listOf (h : Vl te σ H (.ref a)) (hx : SqL K H a xs) : Vn (tCB (fun xs H Q => ∃ p ys, xs = [V.ref p] ∧ (SqL K H p ys ∨ SqT K H p ys) ∧ ∀ l, H l = none → Q (V.ref l) (upd H l (.lst ys))) (tCons te tNil)) σ H xs := fun Q q =>
  h _ ⟨a, xs, rfl, .inl hx, fun p np => q p _ (same_upd np) np upd_same⟩
theorem q_asgN {i : Nat} (h : Vn te σ H xs) (k : ∀ p H', Same H H' → H p = none → H' p = some (.lst xs) → tw D (σ.set i (some (.ref p))) H') : tSeq (tAsg te (gName i)) tw D σ H := h _ k
end
theorem cut_to {xs : List V} {n : Nat} (h : n ≤ xs.length) : cutV xs none (some (n : Int)) = xs.take n := by
  unfold cutV
  rw [HT.sIx_none, HT.sIx_nat, Nat.min_eq_left h, Nat.sub_zero, List.drop_zero]
theorem cut_from {xs : List V} {n : Nat} (h : n ≤ xs.length) : cutV xs (some (n : Int)) none = xs.drop n := by
  unfold cutV
  rw [HT.sIx_none, HT.sIx_nat, Nat.min_eq_left h]
  exact List.take_of_length_le (by rw [List.length_drop]; exact Nat.le_refl _)
/-- lists of lists of ints -/
theorem Dp.ints {K : PySem.W.Frag} {H : Hp} {p : Addr} {ns : List Int} (h : SqL K H p (ns.map V.int)) : Dp K H (.ref p) (.list (ns.map PyData.int)) := .lst h (DpAll.ints ns)
theorem Dp.ints_inv {K : PySem.W.Frag} {H : Hp} {v : V} {ns : List Int} (h : Dp K H v (.list (ns.map PyData.int))) : ∃ p, v = .ref p ∧ SqL K H p (ns.map V.int) := by
  obtain ⟨a, xs, rfl, hs, ha⟩ := Dp.lst_inv h
  rw [DpAll.ints_inv ha] at hs
  exact ⟨a, rfl, hs⟩
end Ovc
namespace PySem
namespace LowX
open PySem.W PySem.Calls PyProof.Rows PySem.HandSPX
/-! ### the text of __init__ -/
def iA (p1 p2 : Pos) : Arguments := { posonlyargs := [], args := [{ arg := "self", annotation := none, pos := p1 }, { arg := "at", annotation := none, pos := p2 }], vararg := none, kwonlyargs := [], kw_defaults := [], kwarg := none, defaults := [] }
def iB (q1 q2 q3 q4 : Pos) : List Stmt := [.Assign [.Attribute (.Name "self" q1) "at" q2] (.Name "at" q3) q4]
def iS : Scope := { kind := .function, names := [(PySem.Str.ofString "self", .local), (PySem.Str.ofString "at", .local)], isGenerator := false, isCoroutine := false, more := [] }
/-- what the written part says of Low, at C, and of its __init__, at fI -/
structure LowTxt (K : Frag) (mg : Str → Option Value) (xN : Str) (C fI : Addr) : Prop where
  gC : mg xN = some (.ref C)
  cls : ∃ nm q N bs bm sn sub ab col dd k0 k1 k2 k3 k5, K.lookup C = some (excClassObj nm q C N bs bm true sn sub ab col dd k0 k1 k2 k3 k5 "ValueError.__new__") ∧ refsVE bm = true
  sa : findIn K (.ref C) "__setattr__" = some (some (.builtin "object.__setattr__"))
  ga : findIn K (.ref C) "__getattribute__" = some (some (.builtin "BaseException.__getattribute__"))
  gg : findIn K (.ref C) "__getattr__" = some none
  noN : findIn K (.ref C) "at" = some none
  iC : findIn K (.ref C) "__init__" = some (some (.ref fI))
  tC : typeIn K (.ref fI) = some (.type "function")
  kC : keepIn K (.ref C) = true
  exC : subIn K (.ref C) (.type "BaseException") = some true
  tyC : typeIn K (.ref C) = some (.type "type")
  hdC : hasDictIn K C = true
  te : exmOne K (.ref C) (.ref C) = some true
  fn : ∃ (oc : Value) (od : Option Addr) (doc pm : Value) (an : Option Addr) (cdv ct : Value) (osl : Array (Option Value)) (p1 p2 q1 q2 q3 q4 : Pos),
    K.lookup fI = some ⟨oc, od, .func (fnOf "__init__" "OverpassesError.__init__" (iA p1 p2) (iB q1 q2 q3 q4) iS .none .none doc pm an cdv ct), osl⟩ ∧ codeIn K cdv "OverpassesError.__init__" = true
theorem one_size (v : Value) : [v].length ≤ sizeLine := by
  rw [sizeLine_eq]
  exact (by decide : 1 ≤ 16777216)
theorem kept_but {K : Frag} {h h' : Heap} {x : Addr} (X : K.In h) (hx : K.lookup x = none) (k : ∀ b o, b ≠ x → h.get? b = some o → h'.get? b = some o) : K.In h' := fun a o e =>
  k a o (fun z => by rw [z, hx] at e; cases e) (X a o e)
theorem ldC {M : Model} {s : Shared} {name : Str} {scope : Scope} {L a : Addr} {cd : Value} {m : Str → Option Value} {x : Str} {pos : Pos} {v : Value} {Q : Value → Shared → Prop} {A : Around} {E : Value → Shared → Prop} (hn : s.heap.Ns L m) (hv : m x = some v) (h : Q v s)
    (hk : scope.kind = .function := by rfl) (hl : (envOfC name scope L a cd).kindOf x = some .local := by rfl) (hd : (x == ("__debug__" : Str)) = false := by decide) :
    wpAny M A (eval (.Name x pos) (envOfC name scope L a cd)) Q E s := wpAny_Name (wpAny_loadName_local hk hl hn hv h) hd
/-- what __init__ leaves of a fresh exception at x -/
structure InitEnd (h h' : Heap) (x C dx t1 : Addr) (v : Value) : Prop where
  keep : ∀ b o, b ≠ x → h.get? b = some o → h'.get? b = some o
  obj : h'.get? x = some { cls := .ref C, dict := some dx, data := .fields #[.ref t1, .none, .none, .none, .bool false, .none] }
  dbig : h.objs.size ≤ dx
  dne : dx ≠ x
  ns : h'.Ns1 dx (fun y => if y = "at" then some v else none)
/-- a made Low -/
structure OwnMade (h h' : Heap) (e C d : Addr) (v : Value) : Prop where
  keep : ∀ b o, h.get? b = some o → h'.get? b = some o
  new : h.objs.size ≤ e
  obj : ∃ oe vs, h'.get? e = some oe ∧ oe.cls = .ref C ∧ oe.dict = some d ∧ oe.data = .fields vs ∧ vs[1]? = some .none
  dbig : h.objs.size ≤ d
  dne : d ≠ e
  ns : h'.Ns1 d (fun y => if y = "at" then some v else none)
section
variable {prog : Program} {w : World} {A : Around} {E : Value → Shared → Prop} {R : Result → Shared → Prop} {s : Shared} {K : Frag} {mg : Str → Option Value} {xN : Str} {C fI : Addr}
theorem low_init (T : LowTxt K mg xN C fI) {x t0 : Addr} {v : Value} (X : K.In s.heap) (hlim : s.heap.NoLimit) (hx : s.heap.get? x = some (excO C t0)) (hnx : K.lookup x = none) (hroom : A.depth < recursionLimit)
    (hq : ∀ h' tk dx, InitEnd s.heap h' x C dx t0 v → R (.ok (.ret .none)) { s with heap := h', toks := tk }) :
    codeAny (model prog w) A (.call (.ref fI) ⟨[.ref x, v], []⟩) R s := by
  obtain ⟨oc, od, doc, pm, an, cdv, ct, osl, p1, p2, q1, q2, q3, q4, ho, hcd⟩ := T.fn
  obtain ⟨nm, q, N, bs, bm, sn, sub, ab, col, dd, k0, k1, k2, k3, k5, hC, hbm⟩ := T.cls
  have hcl : clsIn K C = some { name := nm, bases := bs, mro := .ref C :: bm, ns := N, qualname := q, hasDict := true, slotNames := sn, subclasses := sub, abstract := ab, collection := col, hasDel := false } := by unfold clsIn; rw [hC] <;> rfl
  refine Att.call_fn (binds := [("self", .ref x), ("at", v)]) X hlim ho hcd hroom (BindsTo.of_eq (by first | rfl | with_unfolding_all rfl)) (by first | rfl | decide | with_unfolding_all rfl) (fun s₁ IC => ?_) rfl rfl rfl
  obtain ⟨h₁, tk₁, rfl⟩ := IC.toInCall.same
  have k : ∀ b o, s.heap.get? b = some o → h₁.get? b = some o := IC.toInCall.keep
  have hn := IC.toInCall.ns
  have hxL : s.heap.objs.size ≠ x := Nat.ne_of_gt (Heap.lt_size hx)
  have X₁ : K.In h₁ := X.keeps k
  have hx₁ := k _ _ hx
  -- self.by = by
  show wpAny _ _ (execs _ _) _ _ _
  refine wpAny_execs_cons (plainObj_wpAny_Assign_Attribute ?_)
  refine ldC (v := v) hn (by first | rfl | with_unfolding_all rfl | kernel_rfl) (ldC (v := .ref x) hn (by first | rfl | with_unfolding_all rfl | kernel_rfl) ?_)
  refine set_plain X₁ (ox := excO C t0) (od := none) ⟨hx₁, rfl, rfl, trivial⟩ T.sa ?_
  refine exc_osa X₁ hx₁ hcl (show refsVE (.ref C :: bm) = true from hbm) rfl T.noN (fun h₃ tk₃ dx k₃ dn dne hx₃ hn₃ => ?_)
  show wpAny _ _ (execs _ _) _ _ _
  have z : s.heap.objs.size < h₁.objs.size := hn.lt
  exact wpAny_execs_nil (hq h₃ tk₃ dx ⟨fun b o hb e => k₃ b o hb (k b o e), hx₃, Nat.le_of_lt (Nat.lt_of_lt_of_le z dn), dne, hn₃⟩)
theorem low_made (T : LowTxt K mg xN C fI) {v : Value} (X : K.In s.heap) (hlim : s.heap.NoLimit) (hroom : A.depth + 1 < recursionLimit)
    (hq : ∀ h' tk e d, OwnMade s.heap h' e C d v → R (.ok (.ret (.ref e))) { s with heap := h', toks := tk }) :
    codeAny (model prog w) A (.call (.ref C) ⟨[v], []⟩) R s := by
  obtain ⟨nm, q, N, bs, bm, sn, sub, ab, col, dd, k0, k1, k2, k3, k5, hC, hbm⟩ := T.cls
  obtain ⟨hp, g, dr, tk, os⟩ := s
  have k : ∀ b o, hp.get? b = some o → ((hp.push (kdv_tup [v])).push (excO C hp.objs.size)).get? b = some o := fun b o e => Heap.get?_push_of_some _ (Heap.get?_push_of_some _ e)
  have hget : ((hp.push (kdv_tup [v])).push (excO C hp.objs.size)).get? (hp.objs.size + 1) = some (excO C hp.objs.size) := by heap_get
  have hnx : K.lookup (hp.objs.size + 1) = none := by
    cases e : K.lookup (hp.objs.size + 1) with
    | none => rfl
    | some o =>
      have z : hp.get? (hp.objs.size + 1) = some o := X _ _ e
      exact absurd (Nat.lt_of_succ_lt (Heap.lt_size z)) (Nat.lt_irrefl _)
  refine call_own F.excBase_ValueError (fun X => refsVE_contains X bm hbm) (X _ _ hC) (looks_findIn X T.iC) (fun self => bind_fn X self T.tC) (one_size v) ?_
  refine low_init (s := ⟨(hp.push (kdv_tup [v])).push (excO C hp.objs.size), g, dr, tk, os⟩) T (X.keeps k) (hlim.keeps k) hget hnx ?_ fun h' tk' dx ⟨k', hx, dn, dne, hns⟩ => ?_
  · show A.depth + 1 < recursionLimit
    exact hroom
  · have old : ∀ b o, hp.get? b = some o → h'.get? b = some o := fun b o e => k' b o (Nat.ne_of_lt (Nat.lt_succ_of_lt (Heap.lt_size e))) (k b o e)
    have z : hp.objs.size + 1 + 1 ≤ dx := by
      first
        | (simpa only [Heap.size_push] using dn)
        | exact dn
        | (have q := dn; rw [Heap.size_push, Heap.size_push] at q; exact q)
    exact ⟨rfl, hq h' tk' (hp.objs.size + 1) dx ⟨old, Nat.le_succ _, ⟨_, _, hx, rfl, rfl, rfl, rfl⟩, Nat.le_trans (Nat.le_trans (Nat.le_succ _) (Nat.le_succ _)) z, dne, hns⟩⟩
end
end LowX
end PySem
namespace L2
open PySem PySem.Spec PyProof.Rows
theorem relO_low {v : V} {v' : Value} (r : RelV v v') (f : Str) : RelO (List.lookup f [(("at" : Str), v)]) (if f = "at" then some v' else none) := by
  by_cases hw : f = "at"
  · subst hw
    rw [if_pos rfl]
    have q : List.lookup ("at" : Str) [(("at" : Str), v)] = some v := by simp [List.lookup]
    rw [q]
    exact r
  · rw [if_neg hw]
    have qw : (f == ("at" : Str)) = false := by simpa using hw
    have q2 : List.lookup f [(("at" : Str), v)] = none := by simp [List.lookup, qw]
    rw [q2]
    trivial
section
variable {X : Cx} {xN : Str} {C fI : Addr}
/-- Low(e) -/
def tMkLow (C : Addr) (ta : TA) : St → Hp → XK → Prop := fun σ H Q => ta σ H fun vs H1 => ∃ v, vs = [v] ∧ ∀ d, H1 d = none → Q (.ref C) (some d) (upd H1 d (.xd [(("at" : Str), v)]))
theorem pmk_low {a : Expr} {ta : TA} {p pos : Pos} {k : Nat} (T : PySem.LowX.LowTxt X.K X.mg xN C fI) (hr : Room k X.A) (ha : PA X [a] ta) (hg : Gl X xN := by rfl) (hdb : (xN == ("__debug__" : Str)) = false := by decide)
    (he : starEach (a :: []) X.env = (false, eval a X.env) :: starEach [] X.env := by rfl) (hpl : (backTo pos (starEach [] X.env)).any (·.1) = false := by rfl) :
    PMk X (.Call (.Name xN p) [a] [] pos) (tMkLow C ta) := by
  intro pins s σ H Q I h
  refine wpAny_Call_Name_kw (ld_glob I hg T.gC ?_ hdb)
  refine PySem.W.callWith_K (h₀ := X.base) I.ok.mod.kin T.kC (thn (ha.run pos pins s σ H _ I h) fun us s1 hh => ?_) he hpl
  obtain ⟨vs, H1, I1, r1, v, ev, q1⟩ := hh
  subst ev
  refine ⟨I1.kIn, ?_⟩
  cases r1 with
  | cons rv rn =>
    rename_i v' us'
    cases rn
    show wpAny _ _ (call (.ref C) [v']) _ _ _
    have hlim := I1.nolimit
    obtain ⟨hp, g, dr, tk, os⟩ := s1
    refine wpAny_call (PySem.LowX.low_made T I1.kIn hlim (by have := hr.dp; omega) fun h' tk' e d M => ?_)
    show MkP X pins σ Q (.ref e) ⟨h', g, dr, tk', os⟩
    obtain ⟨oe, fv, hoe, hc, hd, hdat, h1⟩ := M.obj
    have hns := M.ns
    obtain ⟨G', g1, g2⟩ := restrict h' fun b => decide (b ≠ e)
    have gk : ∀ b, b ≠ e → G'.get? b = h'.get? b := fun b hb => g1 b (decide_eq_true hb)
    have ge : G'.get? e = none := g2 e (by simp)
    have old : ∀ b o, hp.get? b = some o → G'.get? b = some o := fun b o q => (gk b (Nat.ne_of_lt (Nat.lt_of_lt_of_le (Heap.lt_size q) M.new))).trans (M.keep b o q)
    have ob : ObjOk X.prog X.w (upd H1 d (.xd [(("at" : Str), v)])) G' d (.xd [(("at" : Str), v)]) :=
      ⟨_, hns.at (fun o q => (gk d M.dne).trans q), fun f => relO_low rv f⟩
    have J : Inv X pins σ (upd H1 d (.xd [(("at" : Str), v)])) ⟨G', g, dr, tk', os⟩ := I1.laid (t' := tk') old M.dbig ob
    refine ⟨e, oe, fv, ⟨G', g, dr, tk', os⟩, _, .ref C, some d, rfl, J, fun b o q => ?_, ge, hoe, ⟨hc, hd⟩, hdat, h1, ?_, rfl, I1.bare, raises_own T.exC T.tyC, q1 d (I1.hok.fresh M.dbig)⟩
    · by_cases hb : b = e
      · have q' : G'.get? b = some o := q
        rw [hb, ge] at q'; cases q'
      · exact (gk b hb).symm.trans q
    · rw [upd_ne (Ne.symm M.dne)]
      exact I1.hok.fresh M.new
/-- raise Low(e) -/
def tRaiseLow (C : Addr) (W : WX) (ta : TA) : TS := fun _ σ H => tMkLow C ta σ H fun cls d H' => W cls d σ H'
theorem ps_raiseLow {a : Expr} {ta : TA} {W : WX} {p pos pos2 : Pos} {k : Nat} (hc : X.calm = true) (T : PySem.LowX.LowTxt X.K X.mg xN C fI) (hr : Room k X.A) (tk : Takes X W) (ha : PA X [a] ta) (hg : Gl X xN := by rfl) (hdb : (xN == ("__debug__" : Str)) = false := by decide)
    (he : starEach (a :: []) X.env = (false, eval a X.env) :: starEach [] X.env := by rfl) (hpl : (backTo pos (starEach [] X.env)).any (·.1) = false := by rfl) :
    PS X (.Raise (some (.Call (.Name xN p) [a] [] pos)) none pos2) (tRaiseLow C W ta) := ps_raise hc tk (pmk_low T hr ha hg hdb he hpl)
/-- low.by, low the exception that the suite holds (at a; its class cls, its dict d) -/
def tByLow (C : Addr) (a : Addr) (cls : Value) (d : Option Addr) (te : TE) : TE := fun σ H Q => te σ H fun x H1 => x = .ref a ∧ cls = .ref C ∧ ∃ (dd : Addr) (v : V), d = some dd ∧ H1 dd = some (.xd [(("at" : Str), v)]) ∧ Q v H1
theorem pe_byLow {a : Addr} {oe : Obj} {cls : Value} {d : Option Addr} {pn : List (Addr × Obj)} {e : Expr} {te : TE} {pos : Pos} (T : PySem.LowX.LowTxt X.K X.mg xN C fI) (hz : Zc cls d oe) (hf : ∃ vs, oe.data = .fields vs) (he : PE (X.suite a ((a, oe) :: pn)) e te)
    (hb : attributeBase e "at" X.env (eval e X.env) = eval e X.env := by rfl) :
    PE (X.suite a ((a, oe) :: pn)) (.Attribute e "at" pos) (tByLow C a cls d te) := by
  refine ⟨fun pins s σ H Q I h => ?_⟩
  refine attr_of hb (thn (he.run pins s σ H _ I h) fun u s1 hh => ?_)
  obtain ⟨x, H1, I1, rx, ex, ec, dd, v, ed, ea, q⟩ := hh
  subst ex
  obtain rfl : u = Value.ref a := rx
  subst ec
  subst ed
  obtain ⟨ha, _⟩ := I1.pin (a, oe) (List.mem_append_left _ List.mem_cons_self)
  obtain ⟨vs, hd⟩ := hf
  have hx : ObjOk X.prog X.w H1 s1.heap dd (.xd [(("at" : Str), v)]) := I1.hok dd _ ea
  obtain ⟨mA, hns, hr⟩ := hx
  obtain ⟨od, ho, hl⟩ := lookIn_ns hns
  have l : List.lookup ("at" : Str) [(("at" : Str), v)] = some v := by simp [List.lookup]
  obtain ⟨u, hu, ru⟩ := RelO.some_of (v := v) (o := mA "at") (by rw [← l]; exact hr "at")
  have J : PySem.W.InstAt s1.heap a oe C (some od) := ⟨ha, hz.1, by unfold PySem.W.notCls; rw [hd] <;> rfl, by rw [hz.2]; exact ho⟩
  exact HandSPX.exc_get I1.kIn J T.ga T.gg T.exC (PySem.W.findObj_own T.hdC T.noN rfl (by rw [hl, hu])) (handed_of ru) ⟨v, H1, I1.tok _, ru, q⟩
end
end L2

namespace L2
open PySem PySem.Spec PyProof.Rows
/-- an if whose test is known -/
theorem if_true_of {c : Bool} {A B : Prop} (hc : c = true) (h : A) : if c = true then A else B := by
  rw [if_pos hc]
  exact h
theorem if_false_of {c : Bool} {A B : Prop} (hc : c = false) (h : B) : if c = true then A else B := by
  rw [hc, if_neg Bool.false_ne_true]
  exact h
end L2
namespace Ovc
open PySem PySem.Spec PyProof.Rows L2
/-! ### try with several clauses, each with a name or without one -/
/-- the ends of a suite whose name's slot is emptied behind it -/
def endsAs (i : Nat) (D : Ends) : Ends := { nx := fun σ H => D.nx (σ.set i none) H, rt := D.rt, bk := fun σ H => D.bk (σ.set i none) H, ct := fun σ H => D.ct (σ.set i none) H }
abbrev Clause := Value × Option Nat × (Addr → Value → Option Addr → TS)
def runClause (q : Clause) (a : Addr) (cls : Value) (d : Option Addr) (D : Ends) (σ : L2.St) (H : Hp) : Prop :=
  match q.2.1 with
  | none => q.2.2 a cls d D σ H
  | some i => q.2.2 a cls d (endsAs i D) (σ.set i (some (.ref a))) H
def wClauses (K : PySem.W.Frag) (Wout : WX) (D : Ends) : List Clause → WX
  | [] => Wout
  | q :: r => fun cls d σ H => ∃ b, PySem.W.exmOne K cls q.1 = some b ∧ (b = true → ∀ a, H a = none → runClause q a cls d D σ H) ∧ (b = false → wClauses K Wout D r cls d σ H)
inductive ClOk (X : Cx) : List ExceptHandler → List Clause → Prop
  | nil : ClOk X [] []
  | bare {x : Str} {c : Value} {ts : Addr → Value → Option Addr → TS} {st₀ : Stmt} {sts : List Stmt} {p1 p2 : Pos} {hds : List ExceptHandler} {l : List Clause} (hc : Names X x c)
      (suite : ∀ (a : Addr) (ob : Obj) (cls : Value) (d : Option Addr) (pn : List (Addr × Obj)), Zc cls d ob → (∃ fv, ob.data = .fields fv) → PSs (X.suite a ((a, ob) :: pn)) (st₀ :: sts) (ts a cls d)) (more : ClOk X hds l) :
      ClOk X (.ExceptHandler (some (.Name x p1)) none (st₀ :: sts) p2 :: hds) ((c, none, ts) :: l)
  | named {x n : Str} {c : Value} {i : Nat} {ts : Addr → Value → Option Addr → TS} {st₀ : Stmt} {sts : List Stmt} {p1 p2 : Pos} {hds : List ExceptHandler} {l : List Clause} (hN : X.N.Nodup) (hi : X.N[i]? = some n) (hln : X.env.kindOf n = some .local) (hc : Names X x c)
      (suite : ∀ (a : Addr) (ob : Obj) (cls : Value) (d : Option Addr) (pn : List (Addr × Obj)), Zc cls d ob → (∃ fv, ob.data = .fields fv) → PSs (X.suite a ((a, ob) :: pn)) (st₀ :: sts) (ts a cls d)) (more : ClOk X hds l) :
      ClOk X (.ExceptHandler (some (.Name x p1)) (some n) (st₀ :: sts) p2 :: hds) ((c, some i, ts) :: l)
section
variable {X : Cx} {body : List Stmt} {hd₀ : ExceptHandler} {hds : List ExceptHandler} {l : List Clause} {pos : Pos} {tb : WX → TS} {Wout : WX}
theorem ps_try_cl (hsk : X.stack = X.env :: X.outer) (hfm : X.env.frame = some X.env.locals) (tk : Takes X Wout)
    (hb : ∀ (W : WX) (pn : List (Addr × Obj)) (xe : Value → Shared → Prop), Takes (X.tr pn xe) W → PassesOwn (model X.prog X.w) X.A X.env xe → PSs (X.tr pn xe) body (tb W))
    (hcl : ClOk X (hd₀ :: hds) l) : PS X (.Try body (hd₀ :: hds) [] [] pos) (fun D σ H => tb (wClauses X.K Wout D l) D σ H) := by
  refine ⟨fun pins s σ H D I0 hr => ?_⟩
  have okX := I0.ok
  have frA : X.A.frames = some (X.env :: X.outer) := by rw [okX.frames, hsk]
  refine wpAny_Try_except (wpAny_mono ((hb (wClauses X.K Wout D l) (X.pn ++ pins) (fun e t₁ => wpAny (model X.prog X.w) X.A (noteFrame e X.env) (fun _ t₂ => wpAny (model X.prog X.w) X.A (setFlight e none) (fun _ t₃ =>
    wpAny (model X.prog X.w) X.A (handleBy e X.env (hd₀ :: hds)) (SP X pins D) X.xe t₃) X.xe t₂) X.xe t₁) (fun u t xx => ?caught) PassesOwn.looking).run [] s σ H D (I0.toTry _) hr) (fun fl t hsp => ?after) (fun e t he => he))
  case after =>
    cases fl with
    | next => exact let ⟨σ1, H1, I1, z⟩ := hsp; wpAny_execs_nil ⟨σ1, H1, I1.ofTry okX, z⟩
    | brk => exact let ⟨σ1, H1, I1, z⟩ := hsp; ⟨σ1, H1, I1.ofTry okX, z⟩
    | cont => exact let ⟨σ1, H1, I1, z⟩ := hsp; ⟨σ1, H1, I1.ofTry okX, z⟩
    | ret u => exact let ⟨v, σ1, H1, I1, r, z⟩ := hsp; ⟨v, σ1, H1, I1.ofTry okX, r, z⟩
  case caught =>
    obtain ⟨a, B, sI, pins1, σ1, H1, cls, d, rfl, I1', nb, up, sky, na, os, ag, wish⟩ := xx
    have I1 : Inv X pins σ1 H1 sI := I1'.ofTry okX
    have skyF : Sky B (X.env :: X.outer) a (Zc cls d) X.env.locals t.heap := by rw [← hsk]; exact sky
    refine Sky.land Zc.steady frA hfm skyF fun h3 fl3 up3 => ?_
    have I3 : Inv X pins σ1 H1 { t with heap := h3 } := I1.landed nb fl3.1 (up.trans up3) os ag
    obtain ⟨ob3, fv3, at3, z3, dat3⟩ := fl3.there
    have off : a ∉ frs (X.env :: X.outer) := fun hm => by
      obtain ⟨_, o', e', hnf⟩ := fl3.2.2.1.mem hm
      rw [at3] at e'
      cases e'
      exact hnf _ dat3
    have offL : a ≠ X.env.locals := fun z => off (List.mem_filterMap.mpr ⟨X.env, List.mem_cons_self, by rw [hfm, z]⟩)
    have offF : a ∉ X.fs := fun hm => let ⟨en, hen, z⟩ := List.mem_filterMap.mp hm; off (List.mem_filterMap.mpr ⟨en, List.mem_cons_of_mem _ hen, z⟩)
    have SU3 := I3.suite at3 dat3 na offL offF
    have test : ∀ {x : Str} {c : Value} {p1 : Pos} {Q : Value → Shared → Prop} {E : Value → Shared → Prop}, Names X x c → Q c { t with heap := h3 } →
        wpAny (model X.prog X.w) (X.A.mark (some (.ref a))) (eval (.Name x p1) X.env) Q E { t with heap := h3 } := fun {x c p1 Q E} hc z => by
      obtain ⟨hg, hdb, hm | ⟨hm, hv, hne⟩⟩ := hc
      · exact ld_glob (X := X.suite a ((a, ob3) :: (X.pn ++ pins))) SU3 hg hm z hdb
      · exact ld_blt (X := X.suite a ((a, ob3) :: (X.pn ++ pins))) SU3 hg hm hv z hne hdb
    have looks : PySem.W.Looks (model X.prog X.w) h3 (typeOf (.ref a)) cls := fun A Q E s1 keep z => wpAny_typeOf_ref (keep _ _ at3) (by rw [z3.1]; exact z)
    suffices go : ∀ {hs1 : List ExceptHandler} {l1 : List Clause}, ClOk X hs1 l1 → wClauses X.K Wout D l1 cls d σ1 H1 → wpAny (model X.prog X.w) X.A (handleBy (.ref a) X.env hs1) (SP X pins D) X.xe { t with heap := h3 } from go hcl wish
    intro hs1 l1 hk
    induction hk with
    | nil =>
      intro wo
      refine wpAny_handleBy_nil ?_
      obtain ⟨k1, k2, k3, ob, fv, T, oT, tv, heT, hzT, hdT, hT1, hTr⟩ := id fl3
      unfold PySem.passOn
      refine wpAny_bind (wpAny_field heT hdT hT1 ?_)
      rw [if_neg (show ¬ (Value.ref T == Value.none) = true from by simp)]
      have fin : wpAny (model X.prog X.w) X.A (setFlight (.ref a) X.env.frame) (fun _ t4 => wpAny (model X.prog X.w) X.A (throw (.ref a) : Sem Flow) (SP X pins D) X.xe t4) X.xe { t with heap := h3 } := by
        rw [hfm]
        exact HandSPX.setFlight_upZ fl3 fun h4 held4 up4 => wpAny_throw (tk _ _ ⟨a, B, sI, pins, σ1, H1, cls, d, rfl, I1, nb, (up.trans up3).trans up4, .inr (.inr (by rw [hsk]; exact held4)), na, os, ag, wo⟩)
      first | exact wpAny_bind (wpAny_pure (wpAny_bind fin)) | exact wpAny_bind fin
    | @bare x c ts st₀ sts p1 p2 hs2 l2 hc suite more ih =>
      rintro ⟨b, hb1, yes, no⟩
      refine wpAny_handleBy_cons (codeAny_handlers_test (test hc ((PySem.W.exm_one (M := model X.prog X.w) I3.kIn looks hb1).here ?_))) (by intro q; cases q)
      cases b with
      | false => exact ih (no rfl)
      | true =>
        refine codeAny_handlers_suite (HandSPX.lands_againZ fl3 fun h4 fl4 up4 => ?_)
        have I4 : Inv X pins σ1 H1 { t with heap := h4 } := I1.landed nb fl4.1 ((up.trans up3).trans up4) os ag
        obtain ⟨ob4, fv4, at4, z4, dat4⟩ := fl4.there
        refine wpAny_mono ((suite a ob4 cls d (X.pn ++ pins) z4 ⟨_, dat4⟩).run [] _ _ H1 _ (I4.suite at4 dat4 na offL offF) (yes rfl a na)) (fun f t6 hsp => ?_) (fun _ _ z => False.elim z)
        cases f with
        | next => exact let ⟨σ6, H6, S6, z6⟩ := hsp; ⟨_, _, S6.unsuite okX, z6⟩
        | brk => exact let ⟨σ6, H6, S6, z6⟩ := hsp; ⟨_, _, S6.unsuite okX, z6⟩
        | cont => exact let ⟨σ6, H6, S6, z6⟩ := hsp; ⟨_, _, S6.unsuite okX, z6⟩
        | ret u => exact let ⟨v6, σ6, H6, S6, r6, z6⟩ := hsp; ⟨_, _, _, S6.unsuite okX, r6, z6⟩
    | @named x n c i ts st₀ sts p1 p2 hs2 l2 hN hi hln hc suite more ih =>
      rintro ⟨b, hb1, yes, no⟩
      refine wpAny_handleBy_cons (codeAny_handlers_test (test hc ((PySem.W.exm_one (M := model X.prog X.w) I3.kIn looks hb1).here ?_))) (by intro q; cases q)
      cases b with
      | false => exact ih (no rfl)
      | true =>
        refine codeAny_handlers_suite_as (HandSPX.lands_againZ fl3 fun h4 fl4 up4 => ?_)
        have I4 : Inv X pins σ1 H1 { t with heap := h4 } := I1.landed nb fl4.1 ((up.trans up3).trans up4) os ag
        obtain ⟨ob4, fv4, at4, z4, dat4⟩ := fl4.there
        refine store_ok (X := X.suite a ((a, ob4) :: (X.pn ++ pins))) (v := .ref a) (I4.suite at4 dat4 na offL offF) hN hi (.inl hln) rfl (fun t5 S5 => ?_) (.inr hln)
        refine wpAny_mono ((suite a ob4 cls d (X.pn ++ pins) z4 ⟨_, dat4⟩).run [] t5 _ H1 _ S5 (yes rfl a na)) (fun f t6 hsp => ?_) (fun _ _ z => False.elim z)
        have off6 : ∀ {σ6 : L2.St} {H6 : Hp} {Q : Shared → Prop}, Inv (X.suite a ((a, ob4) :: (X.pn ++ pins))) [] σ6 H6 t6 → (∀ t7, Inv X pins (σ6.set i none) H6 t7 → Q t7) →
            wpAny (model X.prog X.w) X.A (do bindName X.env n .none; unbindBehindTheSuite X.env n p2) (fun _ t7 => Q t7) X.xe t6 := fun {σ6 H6 Q} S6 hq => gone_ok (S6.unsuite okX) hN hi hln hq
        cases f with
        | next => exact let ⟨σ6, H6, S6, z6⟩ := hsp; off6 S6 fun t7 I7 => ⟨_, _, I7, z6⟩
        | brk => exact let ⟨σ6, H6, S6, z6⟩ := hsp; off6 S6 fun t7 I7 => ⟨_, _, I7, z6⟩
        | cont => exact let ⟨σ6, H6, S6, z6⟩ := hsp; off6 S6 fun t7 I7 => ⟨_, _, I7, z6⟩
        | ret u => exact let ⟨v6, σ6, H6, S6, r6, z6⟩ := hsp; off6 S6 fun t7 I7 => ⟨_, _, _, I7, r6, z6⟩
end
/-! ### a < b < c < d as a test -/
def tTest3 (r1 r2 r3 : R2) (ta tb tc td : TE) : TT := fun σ H Q => ta σ H fun x H1 => tb σ H1 fun y H2 => r1 x y H2 fun z H3 => ∃ k, z = .bl k ∧
  (if k = true then tc σ H3 fun u H4 => r2 y u H4 fun z2 H5 => ∃ k2, z2 = .bl k2 ∧ (if k2 = true then td σ H5 fun v H6 => r3 u v H6 fun z3 H7 => ∃ k3, z3 = .bl k3 ∧ Q k3 H7 else Q false H5) else Q false H3)
theorem pt_chain3 {X : Cx} {a b c d : Expr} {ta tb tc td : TE} {o1 o2 o3 : CmpOp} {r1 r2 r3 : R2} {pos : Pos} (h1 : OpR X (compareOp o1) r1) (h2 : OpR X (compareOp o2) r2) (h3 : OpR X (compareOp o3) r3) (ha : PE X a ta) (hb : PE X b tb) (hc : PE X c tc) (hd : PE X d td)
    (hm : lastMarks [o1, o2, o3] [b, c, d] = false := by with_unfolding_all rfl) : PT X (.Compare a [o1, o2, o3] [b, c, d] pos) (tTest3 r1 r2 r3 ta tb tc td) := by
  refine ⟨fun pins s σ H Q I0 hr => isTrue_chain (thn (ha.run pins s σ H _ I0 hr) fun v1 s1 ⟨x, H1, I1, e1, q1⟩ => test_link (thn (hb.run pins s1 σ H1 _ I1 q1) fun v2 s2 ⟨y, H2, I2, e2, q2⟩ =>
    thn (h1 pins s2 σ H2 x y v1 v2 _ I2 e1 e2 q2) fun v3 s3 ⟨z, H3, I3, e3, k, ez, q3⟩ => ?_)) hm⟩
  subst ez
  cases e3
  refine wpAny_truthy_bool ?_
  cases k with
  | false => exact ite_ff ⟨H3, I3, q3⟩
  | true =>
    refine ite_tt (test_link (thn (hc.run pins s3 σ H3 _ I3 q3) fun v4 s4 ⟨u, H4, I4, e4, q4⟩ => thn (h2 pins s4 σ H4 y u v2 v4 _ I4 e2 e4 q4) fun v5 s5 ⟨z2, H5, I5, e5, k2, ez2, q5⟩ => ?_))
    subst ez2
    cases e5
    refine wpAny_truthy_bool ?_
    cases k2 with
    | false => exact ite_ff ⟨H5, I5, q5⟩
    | true =>
      refine ite_tt (test_last (thn (hd.run pins s5 σ H5 _ I5 q5) fun v6 s6 ⟨v, H6, I6, e6, q6⟩ => thn (h3 pins s6 σ H6 u v v4 v6 _ I6 e4 e6 q6) fun v7 s7 ⟨z3, H7, I7, e7, k3, ez3, q7⟩ => ?_))
      subst ez3
      cases e7
      exact wpAny_truthy_bool ⟨H7, I7, q7⟩
theorem an_chain3 {σ : L2.St} {H : Hp} {g1 g2 g3 : Int → Int → Bool} {ta tb tc td : TE} {p q r s : Int} (ha : Vl ta σ H (.int p)) (hb : Vl tb σ H (.int q)) (hc : Vl tc σ H (.int r)) (hd : Vl td σ H (.int s)) :
    An (tTest3 (rI0 fun i j => .bl (g1 i j)) (rI0 fun i j => .bl (g2 i j)) (rI0 fun i j => .bl (g3 i j)) ta tb tc td) σ H (g1 p q && (g2 q r && g3 r s)) := fun Q k =>
  ha _ (hb _ ⟨p, q, rfl, rfl, _, rfl, by
    show if g1 p q = true then _ else _
    revert k
    cases g1 p q with
    | false => exact fun k => iteF k
    | true => exact fun k => iteT (hc _ ⟨q, r, rfl, rfl, _, rfl, by
        show if g2 q r = true then _ else _
        revert k
        cases g2 q r with
        | false => exact fun k => iteF k
        | true => exact fun k => iteT (hd _ ⟨r, s, rfl, rfl, _, rfl, k⟩)⟩)⟩)
/-! ### tests that make objects on their way -/
def Ax (t : TT) (σ : L2.St) (H : Hp) (b : Bool) : Prop := ∀ Q : Bool → Hp → Prop, (∀ H', Same H H' → Q b H') → t σ H Q
section
variable {K : PySem.W.Frag} {σ : L2.St} {H : Hp} {t u : TT} {D : Ends} {tz tu tw : TS} {ta tb tc : TE}
theorem ax_of {b : Bool} (h : An t σ H b) : Ax t σ H b := fun Q q => h Q (q H (Same.refl H))
theorem ax_not {b : Bool} (h : Ax t σ H b) : Ax (tNot t) σ H (!b) := fun Q q => h _ fun H' s => q H' s
theorem ax_and {k m : Bool} (h1 : Ax t σ H k) (h2 : k = true → ∀ H', Same H H' → Ax u σ H' m) : Ax (tAnd t u) σ H (k && m) := fun Q q => h1 _ fun H1 s1 => by
  cases k with
  | true => exact iteT (h2 rfl H1 s1 _ fun H2 s2 => q H2 (s1.trans s2))
  | false => exact iteF (q H1 s1)
theorem ax_or {k m : Bool} (h1 : Ax t σ H k) (h2 : k = false → ∀ H', Same H H' → Ax u σ H' m) : Ax (tOr t u) σ H (k || m) := fun Q q => h1 _ fun H1 s1 => by
  cases k with
  | true => exact iteT (q H1 s1)
  | false => exact iteF (h2 rfl H1 s1 _ fun H2 s2 => q H2 (s1.trans s2))
theorem Ax.is {k m : Bool} (h : Ax t σ H k) (e : k = m) : Ax t σ H m := e ▸ h
theorem g_ifx {b : Bool} (h : Ax t σ H b) (h1 : b = true → ∀ H', Same H H' → tz D σ H') (h2 : b = false → ∀ H', Same H H' → tu D σ H') : tIfS t tz tu D σ H := h _ fun H' s => by
  cases b with
  | true => exact iteT (h1 rfl H' s)
  | false => exact iteF (h2 rfl H' s)
theorem q_ifx {b : Bool} (h : Ax t σ H b) (h1 : b = true → ∀ H', Same H H' → tz { D with nx := tw D } σ H') (h2 : b = false → ∀ H', Same H H' → tu { D with nx := tw D } σ H') : tSeq (tIfS t tz tu) tw D σ H := g_ifx (D := { D with nx := tw D }) h h1 h2
theorem q_whenx {b : Bool} (h : Ax t σ H b) (h1 : b = true → ∀ H', Same H H' → tz { D with nx := tw D } σ H') (h2 : b = false → ∀ H', Same H H' → tw D σ H') : tSeq (tIfS t tz tNext) tw D σ H := g_ifx (D := { D with nx := tw D }) h h1 h2
theorem g_whenx {b : Bool} (h : Ax t σ H b) (h1 : b = true → ∀ H', Same H H' → tz D σ H') (h2 : b = false → ∀ H', Same H H' → D.nx σ H') : tIfS t tz tNext D σ H := g_ifx h h1 h2
theorem lexAt2 {a b c d : Int} : Ob.lexAt (fun j => decide ([a, b].getD j 0 = [c, d].getD j 0)) (fun j => decide ([a, b].getD j 0 ≤ [c, d].getD j 0)) (decide ([a, b].length ≤ [c, d].length)) 0 (min [a, b].length [c, d].length) = decide (a < c ∨ (a = c ∧ b ≤ d)) := by
  show (if decide (a = c) = true then (if decide (b = d) = true then decide (2 ≤ 2) else decide (b ≤ d)) else decide (a ≤ c)) = _
  by_cases h1 : a = c
  · rw [if_pos (decide_eq_true h1)]
    by_cases h2 : b = d
    · rw [if_pos (decide_eq_true h2), decide_eq_true (Nat.le_refl 2), decide_eq_true (.inr ⟨h1, by omega⟩)]
    · rw [if_neg (fun h => h2 (of_decide_eq_true h)), Bool.eq_iff_iff]
      simp only [decide_eq_true_eq]
      omega
  · rw [if_neg (fun h => h1 (of_decide_eq_true h)), Bool.eq_iff_iff]
    simp only [decide_eq_true_eq]
    omega
/-- (a, b) <= t, t a tuple of two ints -/
theorem ax_leT {a b c d : Int} {T : Addr} (ha : Vl ta σ H (.int a)) (hb : Vl tb σ H (.int b)) (hc : ∀ H', Same H H' → Vl tc σ H' (.ref T)) (hT : SqT K H T [.int c, .int d]) : Ax (tTest (tOp (rLeT K) (tTup (tCons ta (tCons tb tNil))) tc)) σ H (decide (a < c ∨ (a = c ∧ b ≤ d))) := fun Q q =>
  ha _ (hb _ ⟨by show 2 ≤ sizeLine; decide, fun S nS => hc _ (same_upd nS) _ ⟨S, T, [a, b], [c, d], rfl, rfl, .of upd_same, seqT (same_upd nS) hT, _, rfl, by
    rw [lexAt2]
    exact q _ (same_upd nS)⟩⟩)
/-- (a, b) == (c, d), the tuples made on the way -/
theorem ax_eqTT {td : TE} {p q r s : Int} (ha : ∀ H', Same H H' → Vl ta σ H' (.int p)) (hb : ∀ H', Same H H' → Vl tb σ H' (.int q)) (hc : ∀ H', Same H H' → Vl tc σ H' (.int r)) (hd : ∀ H', Same H H' → Vl td σ H' (.int s)) :
    Ax (tTest (tOp (rEqD K) (tTup (tCons ta (tCons tb tNil))) (tTup (tCons tc (tCons td tNil))))) σ H (decide (p = r ∧ q = s)) := fun Q k =>
  ha H (Same.refl H) _ (hb H (Same.refl H) _ ⟨by show 2 ≤ sizeLine; decide, fun T nT => by
    have s1 : Same H (upd H T (.tup [.int p, .int q])) := same_upd nT
    refine hc _ s1 _ (hd _ s1 _ ⟨by show 2 ≤ sizeLine; decide, fun S nS => ?_⟩)
    have s2 : Same (upd H T (.tup [.int p, .int q])) (upd (upd H T (.tup [.int p, .int q])) S (.tup [.int r, .int s])) := same_upd nS
    refine ⟨.tuple [.int p, .int q], .tuple [.int r, .int s], .tup (.of (s2 _ _ upd_same)) (.cons (.int _) (.cons (.int _) .nil)), .tup (.of upd_same) (.cons (.int _) (.cons (.int _) .nil)), by rfl, by rfl, _, rfl, ?_⟩
    rw [show PyData.eqv (.tuple [.int p, .int q]) (.tuple [.int r, .int s]) = decide (p = r ∧ q = s) by
      show (p == r && (q == s && true)) = _
      rw [Bool.and_true, Bool.eq_iff_iff]
      simp]
    exact k _ (s1.trans s2)⟩)
/-- t == (c, d), t a tuple of two ints -/
theorem ax_eqRT {p q r s : Int} {T : Addr} (ha : Vl ta σ H (.ref T)) (hT : SqT K H T [.int p, .int q]) (hb : Vl tb σ H (.int r)) (hc : Vl tc σ H (.int s)) :
    Ax (tTest (tOp (rEqD K) ta (tTup (tCons tb (tCons tc tNil))))) σ H (decide (p = r ∧ q = s)) := fun Q k =>
  ha _ (hb _ (hc _ ⟨by show 2 ≤ sizeLine; decide, fun S nS => by
    have s2 : Same H (upd H S (.tup [.int r, .int s])) := same_upd nS
    refine ⟨.tuple [.int p, .int q], .tuple [.int r, .int s], .tup (seqT s2 hT) (.cons (.int _) (.cons (.int _) .nil)), .tup (.of upd_same) (.cons (.int _) (.cons (.int _) .nil)), by rfl, by rfl, _, rfl, ?_⟩
    rw [show PyData.eqv (.tuple [.int p, .int q]) (.tuple [.int r, .int s]) = decide (p = r ∧ q = s) by
      show (p == r && (q == s && true)) = _
      rw [Bool.and_true, Bool.eq_iff_iff]
      simp]
    exact k _ s2⟩))
/-- (a, b) == t, t a tuple of two ints -/
theorem ax_eqTR {p q r s : Int} {T : Addr} (ha : Vl ta σ H (.int p)) (hb : Vl tb σ H (.int q)) (hc : ∀ H', Same H H' → Vl tc σ H' (.ref T)) (hT : SqT K H T [.int r, .int s]) :
    Ax (tTest (tOp (rEqD K) (tTup (tCons ta (tCons tb tNil))) tc)) σ H (decide (p = r ∧ q = s)) := fun Q k =>
  ha _ (hb _ ⟨by show 2 ≤ sizeLine; decide, fun S nS => by
    have s2 : Same H (upd H S (.tup [.int p, .int q])) := same_upd nS
    refine hc _ s2 _ ⟨.tuple [.int p, .int q], .tuple [.int r, .int s], .tup (.of upd_same) (.cons (.int _) (.cons (.int _) .nil)), .tup (seqT s2 hT) (.cons (.int _) (.cons (.int _) .nil)), by rfl, by rfl, _, rfl, ?_⟩
    rw [show PyData.eqv (.tuple [.int p, .int q]) (.tuple [.int r, .int s]) = decide (p = r ∧ q = s) by
      show (p == r && (q == s && true)) = _
      rw [Bool.and_true, Bool.eq_iff_iff]
      simp]
    exact k _ s2⟩)
/-- assignments of a new tuple -/
theorem q_asgTup {i : Nat} {tr : TA} {xs : List V} (h : Va tr σ H xs) (hz : xs.length ≤ sizeLine) (k : ∀ T, H T = none → tw D (σ.set i (some (.ref T))) (upd H T (.tup xs))) : tSeq (tAsg (tTup tr) (gName i)) tw D σ H := h _ ⟨hz, k⟩
theorem g_asgTup {i : Nat} {tr : TA} {xs : List V} (h : Va tr σ H xs) (hz : xs.length ≤ sizeLine) (k : ∀ T, H T = none → D.nx (σ.set i (some (.ref T))) (upd H T (.tup xs))) : tAsg (tTup tr) (gName i) D σ H := h _ ⟨hz, k⟩
end
/-! ### defs that may raise, by their names -/
structure KalX (P : Program) (w : World) (K : PySem.W.Frag) (mg : Str → Option Value) (base : Heap) (k : Nat) (x : Str) (ps : List Str) (sp : Sp) : Prop where
  ex : ∃ (f : Addr) (fd : FuncData), FnOk P w K mg base (L2.CX P w) k f fd ps sp ∧ mg x = some (.ref f) ∧ PySem.W.keepIn K (.ref f) = true ∧ Binds K fd ps []
theorem kalx_of {P : Program} {w : World} {K : PySem.W.Frag} {mg : Str → Option Value} {base : Heap} {k : Nat} {x : Str} {st : Stmt} {ps : List Str} {sp : Sp} (A : Df K mg x st ps)
    (ok : ∀ f fd, Fun K x x st f fd → FnOk P w K mg base (L2.CX P w) k f fd ps sp) : KalX P w K mg base k x ps sp := by
  obtain ⟨f, fd, F, g, b⟩ := A.ex
  exact ⟨f, fd, ok f fd F, g, F.kp, b⟩
/-- called in a def that may raise -/
theorem pe_kx {X : Cx} {k j : Nat} {x : Str} {ps : List Str} {sp : Sp} {p pos : Pos} {e : Expr} {es : List Expr} {t : TA} {E : XK} (c : KalX X.prog X.w X.K X.mg X.base k x ps sp) (hr : Room j X.A) (hk : k ≤ j) (hg : Gl X x) (tk : Takes X (fun cls d _ H => E cls d H)) (ha : PA X (e :: es) t)
    (hdb : (x == ("__debug__" : Str)) = false := by decide) (he : starEach (e :: es) X.env = (false, eval e X.env) :: starEach es X.env := by rfl) (hpl : (backTo pos (starEach es X.env)).any (·.1) = false := by rfl) :
    PE X (.Call (.Name x p) (e :: es) [] pos) (tCall sp [] E t) := by
  obtain ⟨f, fd, F, hm, kp, b⟩ := c.ex
  exact pe_call F (hr.mono hk) hg hm kp b .nil (passes_call tk fun _ _ _ _ h => h) ha hdb he hpl
/-- called within a try -/
theorem pe_ks {X : Cx} {k j : Nat} {x : Str} {ps : List Str} {sp : Sp} {p pos : Pos} {e : Expr} {es : List Expr} {t : TA} {W : WX} (c : KalX X.prog X.w X.K X.mg X.base k x ps sp) (hr : Room j X.A) (hk : k ≤ j) (hg : Gl X x) (tk : Takes X W) (ha : PA X (e :: es) t)
    (hdb : (x == ("__debug__" : Str)) = false := by decide) (he : starEach (e :: es) X.env = (false, eval e X.env) :: starEach es X.env := by rfl) (hpl : (backTo pos (starEach es X.env)).any (·.1) = false := by rfl) :
    PE X (.Call (.Name x p) (e :: es) [] pos) (tCallS sp (WE W) t) := by
  obtain ⟨f, fd, F, hm, kp, b⟩ := c.ex
  exact pe_callS F (hr.mono hk) hg hm kp b (fun σ => passAt tk σ) ha hdb he hpl
/-! ### for link in links -/
section
variable {K : PySem.W.Frag} {σ : L2.St} {H : Hp} {a : Addr} {D : Ends} {tz tw : TS}
theorem g_forLk {j : Nat} {Hb : Hp} {xs : List V} {ls : List Lnk} {tl : TE} (h : Vl tl σ H (.ref a)) (hx : SqL K Hb a xs) (hL : DpAll K Hb xs (ls.map lnkD)) (hb : Same Hb H) (Pv : Nat → L2.St → Hp → Prop) (h0 : Pv 0 σ H) (hl : ∀ i σ' H', Pv i σ' H' → Same Hb H')
    (hs : ∀ (i : Nat) l t σ H, ls[i]? = some l → SqT K Hb t (lnkV l) → Pv i σ H → tz { D with nx := Pv (i + 1), ct := Pv (i + 1), bk := D.nx } (σ.set j (some (.ref t))) H) (hd : ∀ σ H, Pv ls.length σ H → D.nx σ H) :
    tFor (iList K tl) (gName j) tz D σ H := h _ ⟨a, rfl, ⟨_, hb.seq hx⟩, for_list (xs := xs) Pv h0 (fun i σ H _ p => (hl i σ H p).seq hx) (fun i x σ H hi p => by
      have e := DpAll.len hL
      rw [List.length_map] at e
      have hlt := (List.getElem?_eq_some_iff.mp hi).1
      have hg : ls[i]? = some ls[i] := List.getElem?_eq_getElem (by omega)
      obtain ⟨v, hv, dv⟩ := DpAll.get (i := i) (d := lnkD ls[i]) hL (by
        rw [List.getElem?_map, hg]
        rfl)
      cases hi.symm.trans hv
      obtain ⟨t, rfl, ht⟩ := Dp.lnk_inv dv
      exact hs i _ t σ H hg ht p) (fun σ H p => by
      have e := DpAll.len hL
      rw [List.length_map] at e
      rw [e] at p
      exact hd σ H p)⟩
theorem q_forLk {j : Nat} {Hb : Hp} {xs : List V} {ls : List Lnk} {tl : TE} (h : Vl tl σ H (.ref a)) (hx : SqL K Hb a xs) (hL : DpAll K Hb xs (ls.map lnkD)) (hb : Same Hb H) (Pv : Nat → L2.St → Hp → Prop) (h0 : Pv 0 σ H) (hl : ∀ i σ' H', Pv i σ' H' → Same Hb H')
    (hs : ∀ (i : Nat) l t σ H, ls[i]? = some l → SqT K Hb t (lnkV l) → Pv i σ H → tz { D with nx := Pv (i + 1), ct := Pv (i + 1), bk := tw D } (σ.set j (some (.ref t))) H) (hd : ∀ σ H, Pv ls.length σ H → tw D σ H) :
    tSeq (tFor (iList K tl) (gName j) tz) tw D σ H := g_forLk (D := { D with nx := tw D }) h hx hL hb Pv h0 hl hs hd
/-- a, b, c, d = e, a link -/
theorem q_asgLnk {j1 j2 j3 j4 : Nat} {te : TE} {t : Addr} {l : Lnk} (h : Vl te σ H (.ref t)) (ht : SqT K H t (lnkV l)) (k : tw D ((((σ.set j1 (some (.int l.a))).set j2 (some (.int l.b))).set j3 (some (oV l.t))).set j4 (some (oV l.k))) H) :
    tSeq (tAsg te (gTup K 4 (gCons (gName j1) (gCons (gName j2) (gCons (gName j3) (gCons (gName j4) gNil)))))) tw D σ H := h _ ⟨t, _, rfl, ht, rfl, _, _, rfl, _, _, rfl, _, _, rfl, _, _, rfl, rfl, k⟩
/-- a tuple made in one of two ways -/
theorem if_tup {t : TT} {r1 r2 : TA} {b : Bool} {x1 x2 zs : List V} {Q : VK} (h : An t σ H b) (h1 : Va r1 σ H x1) (h2 : Va r2 σ H x2) (e1 : b = true → x1 = zs) (e2 : b = false → x2 = zs) (hz : zs.length ≤ sizeLine)
    (k : ∀ T, H T = none → Q (.ref T) (upd H T (.tup zs))) : tIf t (tTup r1) (tTup r2) σ H Q := h _ (by
  cases b with
  | true =>
    cases e1 rfl
    exact iteT (h1 _ ⟨hz, k⟩)
  | false =>
    cases e2 rfl
    exact iteF (h2 _ ⟨hz, k⟩))
end
/-! ### errors that leave a def -/
def RaiseTo (E : XK) (H : Hp) (C : Addr) (i : Int) : Prop := ∀ H' d, Same H H' → H' d = some (.xd [("at", .int i)]) → E (.ref C) (some d) H'
theorem RaiseTo.to {E : XK} {H H' : Hp} {C : Addr} {i : Int} (h : RaiseTo E H C i) (s : Same H H') : RaiseTo E H' C i := fun H2 d s2 hd => h H2 d (s.trans s2) hd
theorem raise_now {E : XK} {C : Addr} {i : Int} {ta : TA} {σ : L2.St} {H : Hp} {D : Ends} (h : Va ta σ H [.int i]) (r : RaiseTo E H C i) : tRaiseLow C (fun cls d _ H => E cls d H) ta D σ H := h _ ⟨_, rfl, fun d nd => r _ d (same_upd nd) upd_same⟩
/-- for i, x in enumerate(xs) -/
theorem for_en {K : PySem.W.Frag} {a : Addr} {xs : List V} {g : TG} {tb : TS} {D : Ends} {σ : L2.St} {H : Hp} (Pv : Nat → L2.St → Hp → Prop) (h0 : Pv 0 σ H) (hq : ∀ i σ H, Pv i σ H → SqL K H a xs)
    (hs : ∀ (i : Nat) x T σ H, xs[i]? = some x → Pv i σ H → H T = none → g (.ref T) σ (upd H T (.tup [.int (i : Nat), x])) fun σ2 H2 => tb { D with nx := Pv (i + 1), ct := Pv (i + 1), bk := D.nx } σ2 H2) (hd : ∀ σ H, Pv xs.length σ H → D.nx σ H) :
    ∃ W : Nat → Nat → L2.St → Hp → Prop, (∃ m, W 0 m σ H) ∧ ∀ i m σ H, W i m σ H → ((Ite K a).stop i H ∧ D.nx σ H) ∨
      ((Ite K a).go i H ∧ ∃ N : L2.St → Hp → Prop, (∀ σ' H', N σ' H' → ∃ m', m' < m ∧ W (i + 1) m' σ' H') ∧ ∀ v H', (Ite K a).yld i H v H' → g v σ H' fun σ2 H2 => tb { D with nx := N, ct := N, bk := D.nx } σ2 H2) := by
  refine ⟨fun i m σ H => m + i = xs.length ∧ Pv i σ H, ⟨xs.length, rfl, h0⟩, fun i m σ H hW => ?_⟩
  obtain ⟨em, p⟩ := hW
  have qx := hq i σ H p
  by_cases hlt : i < xs.length
  · refine .inr ⟨⟨xs, xs[i], qx, List.getElem?_eq_getElem hlt⟩, Pv (i + 1), fun σ' H' p' => ⟨m - 1, by omega, by omega, p'⟩, fun v H' yy => ?_⟩
    obtain ⟨T, x', rfl, hT, rfl, f1⟩ := yy
    exact hs i x' T σ H (f1 xs qx) p hT
  · have e : i = xs.length := by omega
    rw [e] at p
    exact .inl ⟨⟨xs, qx, by omega⟩, hd σ H p⟩
theorem take_snoc {α : Type} {xs : List α} {i : Nat} {x : α} (h : xs[i]? = some x) : xs.take (i + 1) = xs.take i ++ [x] := by
  rw [List.take_add_one, h]
  rfl
theorem vl_orV {K : PySem.W.Frag} {σ : L2.St} {H : Hp} {ta tb : TE} {k m : Bool} (h1 : Vl ta σ H (.bl k)) (h2 : k = false → Vl tb σ H (.bl m)) : Vl (tOrV ta tb) σ H (.bl (k || m)) := fun Q q => h1 _ ⟨k, rfl, by
  cases k with
  | true => exact iteT q
  | false => exact iteF (h2 rfl _ q)⟩
/-! ### values with a heap that grows on the way -/
def Ve (te : TE) (σ : L2.St) (H : Hp) (v : V) : Prop := ∀ Q : VK, (∀ H', Same H H' → Q v H') → te σ H Q
section
variable {K : PySem.W.Frag} {σ : L2.St} {H : Hp} {ta tb te tl t0 t1 t2 t3 : TE} {D : Ends} {tw : TS} {v x y z : V} {tt : TT}
theorem ve_of (h : Vl te σ H v) : Ve te σ H v := fun Q q => h Q (q H (Same.refl H))
theorem Ve.is {w : V} (h : Ve te σ H v) (e : v = w) : Ve te σ H w := e ▸ h
theorem q_asgV {i : Nat} (h : Ve te σ H v) (k : ∀ H', Same H H' → tw D (σ.set i (some v)) H') : tSeq (tAsg te (gName i)) tw D σ H := h _ k
theorem g_asgV {i : Nat} (h : Ve te σ H v) (k : ∀ H', Same H H' → D.nx (σ.set i (some v)) H') : tAsg te (gName i) D σ H := h _ k
theorem g_retV (h : Ve te σ H v) (k : ∀ H', Same H H' → D.rt v H') : tRet te D σ H := h _ k
theorem ve_ixNew {xs : List V} {p : Int} (ha : Vn ta σ H xs) (hb : ∀ H', Same H H' → Vl tb σ H' (.int p)) (hg : atI xs p = some z) : Ve (tOp (rIxL K) ta tb) σ H z := fun Q k =>
  ha _ fun a H1 s1 np e => hb H1 s1 _ ⟨a, xs, p, z, rfl, rfl, .of e, hg, k H1 s1⟩
theorem vn_lc {j : Nat} {xs ys : List V} (hl : ∀ Q : VK, (∀ a H1, Same H H1 → SqL K H1 a xs → Q (.ref a) H1) → tl σ H Q) (hxy : xs.length = ys.length) (hz : ys.length ≤ 1000000)
    (he : ∀ (i : Nat) x y H', Same H H' → xs[i]? = some x → ys[i]? = some y → Ve te ((σ.set j none).set j (some x)) H' y) : Vn (tLc (iList K tl) (gName j) tYes te [j]) σ H ys := fun Q q => by
  refine hl _ fun a H1 s1 hx => ⟨a, rfl, ⟨xs, hx⟩, fun D nD => lc_list (xs := xs) (fun i H' => H' D = some (.lst (ys.take i)) ∧ Same H1 H') ⟨upd_same, same_upd nD⟩ (fun i H' _ hP => hP.2.seq hx) (fun i x H2 hi hP => ?_) (fun H2 hP => ?_)⟩
  · obtain ⟨hD, s2⟩ := hP
    have hi2 := (List.getElem?_eq_some_iff.mp hi).1
    have hy : ys[i]? = some ys[i] := List.getElem?_eq_getElem (by omega)
    refine ⟨?_, ?_⟩
    · show ((σ.set j none).set j (some x)).set j none = σ.set j none
      rw [List.set_set, List.set_set]
    · refine iteT (B := H2 D = some (.lst (ys.take (i + 1))) ∧ Same H1 H2) (he i x _ H2 (s1.trans s2) hi hy _ fun H3 s3 => ⟨_, s3 _ _ hD, ?_, ?_, ?_⟩)
      · exact Nat.lt_of_le_of_lt (m := 1000000) (Nat.le_trans (by rw [List.length_take]; exact Nat.min_le_right _ _) hz) (by decide)
      · rw [upd_same, take_snoc hy]
      · exact same_upd' (s2.trans s3) nD
  · obtain ⟨hD, s2⟩ := hP
    rw [hxy, List.take_length] at hD
    exact q D H2 (s1.trans s2) (Same.free s1 nD) hD
theorem vx_list {a : Addr} {xs : List V} (h : Vl tl σ H (.ref a)) (hx : SqL K H a xs) : ∀ Q : VK, (∀ a H1, Same H H1 → SqL K H1 a xs → Q (.ref a) H1) → tl σ H Q := fun Q q => h _ (q a H (Same.refl H) hx)
theorem vx_new {xs : List V} (h : Vn tl σ H xs) : ∀ Q : VK, (∀ a H1, Same H H1 → SqL K H1 a xs → Q (.ref a) H1) → tl σ H Q := fun Q q => h _ fun a H1 s1 _ e => q a H1 s1 (.of e)
end
section
variable {K : PySem.W.Frag} {σ : L2.St} {H : Hp} {te : TE} {D : Ends} {tz tw : TS} {P : Int → Prop}
theorem q_forRI {j : Nat} (h : Vi te σ H P) (hb : ∀ n, P n → -(2 ^ 62) ≤ n ∧ n < 2 ^ 62) (Pv : Nat → L2.St → Hp → Prop) (h0 : Pv 0 σ H)
    (hs : ∀ n, P n → ∀ (i : Nat) σ H, (i : Int) < n → Pv i σ H → tz { D with nx := Pv (i + 1), ct := Pv (i + 1), bk := tw D } (σ.set j (some (.int i))) H) (hd : ∀ n, P n → ∀ σ H, Pv n.toNat σ H → tw D σ H) :
    tSeq (tFor (iRng1 (tCons te tNil)) (gName j) tz) tw D σ H := h _ fun n hn => ⟨n, rfl, (hb n hn).1, (hb n hn).2, for_range (lo := 0) (n := n.toNat) Pv h0 (fun i σ H hi p => by
      show tz _ (σ.set j (some (.int (0 + i)))) H
      rw [Int.zero_add]
      exact hs n hn i σ H (by omega) p) (hd n hn)⟩
end
section
variable {K : PySem.W.Frag} {σ : L2.St} {H : Hp} {ta tb te tl t0 t1 t2 t3 : TE} {D : Ends} {tw : TS} {v x y z : V} {tt : TT}
theorem g_appV {l : Addr} {xs : List V} (ho : Vl ta σ H (.ref l)) (hl : H l = some (.lst xs)) (h : Ve te σ H v) (hz : xs.length < sizeLine) (k : ∀ H', Same H H' → D.nx σ (upd H' l (.lst (xs ++ [v])))) :
    tDrop (tBM K "list" rAppend ta (tCons te tNil)) D σ H := ho _ ⟨.inl ⟨rfl, _, .inl (.inl hl)⟩, h _ fun H' s' => ⟨l, xs, v, rfl, rfl, s' _ _ hl, hz, k H' s'⟩⟩
theorem lc_filter {j : Nat} {xs : List V} {pb : V → Bool} (hj : j < σ.length) (hl : ∀ Q : VK, (∀ a H1, Same H H1 → SqL K H1 a xs → Q (.ref a) H1) → tl σ H Q) (hz : xs.length ≤ 1000000)
    (ht : ∀ x ∈ xs, ∀ H', An tt ((σ.set j none).set j (some x)) H' (pb x)) (Q : VK) (q : ∀ D H' acc, Same H H' → H' D = some (.lst acc) → acc.length = (xs.filter pb).length → Q (.ref D) H') : tLc (iList K tl) (gName j) tt (tVar j) [j] σ H Q := by
  refine hl _ fun a H1 s1 hx => ⟨a, rfl, ⟨xs, hx⟩, fun D nD => lc_list (xs := xs) (fun i H' => ∃ acc, H' D = some (.lst acc) ∧ Same H1 H' ∧ acc.length = ((xs.take i).filter pb).length) ⟨[], upd_same, same_upd nD, rfl⟩ (fun i H' _ hP => hP.choose_spec.2.1.seq hx) (fun i x H2 hi hP => ?_) (fun H2 hP => ?_)⟩
  · obtain ⟨acc, hD, s2, ha⟩ := hP
    have e : (xs.take (i + 1)).filter pb = (xs.take i).filter pb ++ [x].filter pb := by
      rw [take_snoc hi]
      exact List.filter_append ..
    refine ⟨?_, ht x (List.mem_of_getElem? hi) H2 _ ?_⟩
    · show ((σ.set j none).set j (some x)).set j none = σ.set j none
      rw [List.set_set, List.set_set]
    · cases hp : pb x with
      | true =>
        have e2 : [x].filter pb = [x] := by
          rw [List.filter_cons, hp]
          rfl
        refine iteT ⟨x, ?_, acc, hD, ?_, _, upd_same, same_upd' s2 nD, ?_⟩
        · exact List.getElem?_set_self (by
            show j < (σ.set j none).length
            rw [List.length_set]
            exact hj)
        · have h1 : ((xs.take i).filter pb).length ≤ xs.length := Nat.le_trans (List.length_filter_le _ _) (by rw [List.length_take]; exact Nat.min_le_right _ _)
          exact Nat.lt_of_le_of_lt (m := 1000000) (by omega) (by decide)
        · rw [e, e2, List.length_append, List.length_append, ha]
      | false =>
        have e2 : [x].filter pb = [] := by
          rw [List.filter_cons, hp]
          rfl
        refine iteF ⟨acc, hD, s2, ?_⟩
        rw [e, e2, List.append_nil]
        exact ha
  · obtain ⟨acc, hD, s2, ha⟩ := hP
    rw [List.take_length] at ha
    exact q D H2 acc (s1.trans s2) hD ha
theorem vl_inL {a : Addr} {xs : List V} (h : Vl te σ H (.ref a)) (hx : SqL K H a xs) (f1 : flatV x = true) (f2 : xs.all flatV = true) : Vl (tOp (rIn K false) (tC x) te) σ H (.bl (inV x xs)) := vl_op vl_c h fun _ k => ⟨a, xs, rfl, .inl hx, f1, f2, k⟩
theorem flat_o (o : Option Int) : flatV (oV o) = true := by cases o <;> rfl
theorem ax_leLT {a T : Addr} {p q r s : Int} (h : Vl te σ H (.ref a)) (hx : SqL K H a [.int p, .int q]) (hb : ∀ H', Same H H' → Vl tb σ H' (.ref T)) (hT : SqT K H T [.int r, .int s]) :
    Ax (tTest (tOp (rLeT K) (tCB (fun xs H Q => ∃ p ys, xs = [V.ref p] ∧ ((SqL K H p ys ∧ ∀ l, H l = none → Q (.ref l) (upd H l (.tup ys))) ∨ (SqT K H p ys ∧ Q (.ref p) H))) (tCons te tNil)) tb)) σ H (decide (p < r ∨ (p = r ∧ q ≤ s))) := fun Q k =>
  h _ ⟨a, _, rfl, .inl ⟨hx, fun S nS => hb _ (same_upd nS) _ ⟨S, T, [p, q], [r, s], rfl, rfl, .of upd_same, seqT (same_upd nS) hT, _, rfl, by
    rw [lexAt2]
    exact k _ (same_upd nS)⟩⟩⟩
theorem ve_tup4 {v0 v1 v2 v3 : V} (h0 : Ve t0 σ H v0) (h1 : ∀ H', Same H H' → Ve t1 σ H' v1) (h2 : ∀ H', Same H H' → Ve t2 σ H' v2) (h3 : ∀ H', Same H H' → Ve t3 σ H' v3) (Q : VK) (q : ∀ R H', Same H H' → H' R = some (.tup [v0, v1, v2, v3]) → Q (.ref R) H') :
    tTup (tCons t0 (tCons t1 (tCons t2 (tCons t3 tNil)))) σ H Q := h0 _ fun H1 s1 => h1 H1 s1 _ fun H2 s2 => h2 H2 (s1.trans s2) _ fun H3 s3 => h3 H3 ((s1.trans s2).trans s3) _ fun H4 s4 => ⟨by show 4 ≤ sizeLine; decide, fun R nR => q R _ ((((s1.trans s2).trans s3).trans s4).trans (same_upd nR)) upd_same⟩
end
theorem ret_pairE {te : TE} {x : Str} {D : Ends} {σ : L2.St} {H : Hp} (h : te σ H fun v H1 => [V.str x, v].length ≤ sizeLine ∧ ∀ p, H1 p = none → D.rt (.ref p) (upd H1 p (.tup [.str x, v]))) : tRet (tTup (tCons (tC (.str x)) (tCons te tNil))) D σ H := h
theorem nx_of {f : L2.St → Hp → Prop} {a b c} {σ : L2.St} {H : Hp} (h : f σ H) : (Ends.mk f a b c).nx σ H := h
theorem ax_isNV {σ : L2.St} {H : Hp} {te : TE} {v : V} (h : Ve te σ H v) : Ax (tTest (tOp (fun x y H Q => y = V.non ∧ Q (V.bl (decide (x = V.non))) H) te (tC .non))) σ H (decide (v = .non)) := fun Q k => h _ fun H' s' => ⟨rfl, _, rfl, k H' s'⟩
theorem last_get {α : Type} {l : List α} {d : α} (h : l ≠ []) : l[l.length - 1]? = some (l.getLast?.getD d) := by
  rw [List.getLast?_eq_getElem?]
  have : l.length - 1 < l.length := by
    have := List.length_pos_iff.mpr h
    omega
  rw [List.getElem?_eq_getElem this]
  rfl
theorem seqT_but {K : PySem.W.Frag} {H : Hp} {o R : Addr} {ys zs : List V} (h : SqT K H R zs) (ho : H o = some (.lst ys)) : SqT K (but H o) R zs := by
  rcases h with (h | ⟨u, h⟩) | h
  · have ne : R ≠ o := fun z => by
      rw [z, ho] at h
      cases h
    exact .inl (.inl (by rw [but_ne ne]; exact h))
  · have ne : R ≠ o := fun z => by
      rw [z, ho] at h
      cases h
    exact .inl (.inr ⟨u, by rw [but_ne ne]; exact h⟩)
  · exact .inr h
theorem vl_byLow {C a d : Addr} {te : TE} {σ : L2.St} {H : Hp} {v : V} (h : Vl te σ H (.ref a)) (hd : H d = some (.xd [("at", v)])) : Vl (tByLow C a (.ref C) (some d) te) σ H v := fun Q q => h _ ⟨rfl, rfl, d, v, rfl, hd, q⟩
def pairD (x : Str) (d : PyData) : PyData := .tuple [.str x, d]
theorem ret_pair {K : PySem.W.Frag} {σ : L2.St} {H : Hp} {D : Ends} {te : TE} {x : Str} {v : V} {d : PyData} (h : Vl te σ H v) (hd : Dp K H v d) (k : ∀ p H', Same H H' → Dp K H' (.ref p) (pairD x d) → D.rt (.ref p) H') :
    tRet (tTup (tCons (tC (.str x)) (tCons te tNil))) D σ H := h _ ⟨by show 2 ≤ sizeLine; decide, fun p np => k p _ (same_upd np) (.tup (.of upd_same) (.cons (.str x) (.cons (Dp.to hd (same_upd np)) .nil)))⟩
structure Apart (K : PySem.W.Frag) (C C' : Addr) : Prop where
  no : PySem.W.exmOne K (.ref C) (.ref C') = some false
structure NmAt (mg : Str → Option Value) (x : Str) (C : Addr) : Prop where
  gC : mg x = some (.ref C)
theorem lay_net (N : Net) : (netD N).canLay0 = true ∧ (netD N).depth ≤ 3 := by
  have h := lay_lnks N.ls
  constructor
  · show (true && (PyData.canLayAll0 (N.ls.map lnkD) && true)) = true
    rw [h.1]
    rfl
  · show max 0 (max (PyData.depthAll (N.ls.map lnkD) + 1) 0) + 1 ≤ 3
    have := h.2
    omega
theorem shaped_pair {x : Str} {d : PyData} (hx : PyData.canLay0 (.str x) = true) (h : d.canLay0 = true) (h2 : d.depth ≤ 3) : SeqAt.shaped (pairD x d) = true := by
  show ((PyData.canLay0 (.str x) && (d.canLay0 && true)) && decide (max 0 (max d.depth 0) + 1 ≤ 64)) = true
  rw [hx, h, decide_eq_true (by omega)]
  rfl
theorem refl_of {d : PyData} (h : SeqAt.shaped d = true) : PyData.eqv d d = true := SeqAt.eqv_refl _ (Bool.and_eq_true_iff.mp h).1
theorem ax_ne {K : PySem.W.Frag} {σ : L2.St} {H : Hp} {te te2 : TE} {d : PyData} (hd : SeqAt.shaped d = true) (h1 : ∀ Q : VK, (∀ v H', Same H H' → Dp K H' v d → Q v H') → te σ H Q) (h2 : ∀ H', Same H H' → ∀ Q : VK, (∀ v H2, Same H' H2 → Dp K H2 v d → Q v H2) → te2 σ H' Q) :
    Ax (tTest (tOp (rNeD K) te te2)) σ H false := fun Q k => h1 _ fun v H1 s1 d1 => h2 H1 s1 _ fun u H2 s2 d2 => ⟨d, d, Dp.to d1 s2, d2, hd, hd, _, rfl, by
  rw [refl_of hd]
  exact k H2 (s1.trans s2)⟩
theorem ax_neV {σ : L2.St} {H : Hp} {ta tb : TE} {x y : V} (ha : Vl ta σ H x) (hb : Ve tb σ H y) (hs : scal x y = true) : Ax (tTest (tOp rNe ta tb)) σ H (!decide (x = y)) := fun Q k => ha _ (hb _ fun H' s' => ⟨hs, _, rfl, k H' s'⟩)
theorem lay_ints : ∀ ns : List Int, PyData.canLayAll0 (ns.map PyData.int) = true ∧ PyData.depthAll (ns.map PyData.int) = 0
  | [] => ⟨rfl, rfl⟩
  | n :: ns => by
    have h := lay_ints ns
    constructor
    · show (true && PyData.canLayAll0 (ns.map PyData.int)) = true
      rw [h.1]
      rfl
    · show max 0 (PyData.depthAll (ns.map PyData.int)) = 0
      rw [h.2]
      rfl
theorem shaped_ints (ns : List Int) : SeqAt.shaped (.list (ns.map PyData.int)) = true := by
  have h := lay_ints ns
  show (PyData.canLayAll0 (ns.map PyData.int) && decide (PyData.depthAll (ns.map PyData.int) + 1 ≤ 64)) = true
  rw [h.1, h.2]
  rfl
/-! ### heaps with two objects that change -/
def B2 (H : Hp) (o q : Addr) : Hp := but (but H o) q
theorem b2_same {H : Hp} {o q : Addr} : Same (B2 H o q) H := but_same.trans but_same
theorem same_b2 {G H : Hp} {o q : Addr} (s : Same G H) (n : G o = none) (m : G q = none) : Same G (B2 H o q) := same_but (same_but s n) m
theorem b2_mono {H H' : Hp} {o q : Addr} (s : Same H H') : Same (B2 H o q) (B2 H' o q) := but_mono (but_mono s)
theorem b2_upd1 {H : Hp} {o q : Addr} {u : HO} : B2 (upd H o u) o q = B2 H o q := by
  unfold B2
  rw [but_upd]
theorem b2_upd2 {H : Hp} {o q : Addr} {u : HO} : B2 (upd H q u) o q = B2 H o q := by
  funext b
  unfold B2
  by_cases h : b = q
  · rw [h, but_at, but_at]
  · rw [but_ne h, but_ne h]
    by_cases h2 : b = o
    · rw [h2, but_at, but_at]
    · rw [but_ne h2, but_ne h2, upd_ne h]
theorem b2_get {H : Hp} {o q a : Addr} {u : HO} (h : H a = some u) (h1 : a ≠ o) (h2 : a ≠ q) : B2 H o q a = some u := by
  unfold B2
  rw [but_ne h2, but_ne h1]
  exact h
/-! ### comprehensions over ints -/
section
variable {K : PySem.W.Frag} {σ : L2.St} {H : Hp} {ta tb te tl td ty tv : TE} {tr : TA} {D : Ends} {tw : TS} {tt : TT} {v : V}
theorem an_yes : An tYes σ H true := fun _ q => q
theorem vn_lcI {j : Nat} {ns : List Int} {pb : Int → Bool} {f : Int → V} (hl : ∀ Q : VK, (∀ a H1, Same H H1 → SqL K H1 a (ns.map V.int) → Q (.ref a) H1) → tl σ H Q) (hz : ns.length ≤ 1000000)
    (ht : ∀ x ∈ ns, ∀ H', Same H H' → An tt ((σ.set j none).set j (some (.int x))) H' (pb x)) (he : ∀ x ∈ ns, ∀ H', Same H H' → Vl te ((σ.set j none).set j (some (.int x))) H' (f x)) :
    Vn (tLc (iList K tl) (gName j) tt te [j]) σ H ((ns.filter pb).map f) := fun Q q => by
  refine hl _ fun a H1 s1 hx => ⟨a, rfl, ⟨_, hx⟩, fun D nD => lc_list (xs := ns.map V.int) (fun i H' => H' D = some (.lst (((ns.take i).filter pb).map f)) ∧ Same H1 H') ⟨upd_same, same_upd nD⟩ (fun i H' _ hP => hP.2.seq hx) (fun i x H2 hi hP => ?_) (fun H2 hP => ?_)⟩
  · obtain ⟨hD, s2⟩ := hP
    rw [List.getElem?_map] at hi
    cases hg : ns[i]? with
    | none =>
      rw [hg] at hi
      cases hi
    | some n =>
      rw [hg] at hi
      cases hi
      have hm := List.mem_of_getElem? hg
      have e : (ns.take (i + 1)).filter pb = (ns.take i).filter pb ++ [n].filter pb := by
        rw [take_snoc hg]
        exact List.filter_append ..
      refine ⟨?_, ht n hm H2 (s1.trans s2) _ ?_⟩
      · show ((σ.set j none).set j (some (V.int n))).set j none = σ.set j none
        rw [List.set_set, List.set_set]
      · cases hp : pb n with
        | true =>
          have e2 : [n].filter pb = [n] := by
            rw [List.filter_cons, hp]
            rfl
          refine iteT (B := H2 D = some (.lst (((ns.take (i + 1)).filter pb).map f)) ∧ Same H1 H2) (he n hm H2 (s1.trans s2) _ ⟨_, hD, ?_, ?_, same_upd' s2 nD⟩)
          · rw [List.length_map]
            have h1 : ((ns.take i).filter pb).length ≤ ns.length := Nat.le_trans (List.length_filter_le _ _) (by rw [List.length_take]; exact Nat.min_le_right _ _)
            exact Nat.lt_of_le_of_lt (m := 1000000) (by omega) (by decide)
          · rw [upd_same, e, e2, List.map_append]
            rfl
        | false =>
          have e2 : [n].filter pb = [] := by
            rw [List.filter_cons, hp]
            rfl
          refine iteF ⟨?_, s2⟩
          rw [e, e2, List.append_nil]
          exact hD
  · obtain ⟨hD, s2⟩ := hP
    rw [List.length_map, List.take_length] at hD
    exact q D H2 (s1.trans s2) (Same.free s1 nD) hD
theorem vn_lcR {j : Nat} {n : Int} {pb : Int → Bool} {f : Int → V} (hl : Va tr σ H [.int n]) (h0 : 0 ≤ n) (hz : n ≤ 1000000)
    (ht : ∀ x : Int, 0 ≤ x → x < n → ∀ H', Same H H' → An tt ((σ.set j none).set j (some (.int x))) H' (pb x)) (he : ∀ x : Int, 0 ≤ x → x < n → ∀ H', Same H H' → Vl te ((σ.set j none).set j (some (.int x))) H' (f x)) :
    Vn (tLc (iRng1 tr) (gName j) tt te [j]) σ H (((((List.range n.toNat).map fun (i : Nat) => (i : Int))).filter pb).map f) := fun Q q => by
  refine hl _ ⟨n, rfl, by omega, by omega, fun D nD => lc_range (lo := 0) (n := n.toNat) (fun i H' => H' D = some (.lst ((((List.range i).map fun (i : Nat) => (i : Int)).filter pb).map f)) ∧ Same H H') ⟨upd_same, same_upd nD⟩ (fun i H2 hi hP => ?_) (fun H2 hP => ?_)⟩
  · obtain ⟨hD, s2⟩ := hP
    have e : (((List.range (i + 1)).map fun (i : Nat) => (i : Int)).filter pb) = ((List.range i).map fun (i : Nat) => (i : Int)).filter pb ++ [(i : Int)].filter pb := by
      rw [List.range_succ, List.map_append]
      exact List.filter_append ..
    rw [Int.zero_add]
    refine ⟨?_, ht i (by omega) (by omega) H2 s2 _ ?_⟩
    · show ((σ.set j none).set j (some (V.int i))).set j none = σ.set j none
      rw [List.set_set, List.set_set]
    · cases hp : pb (i : Int) with
      | true =>
        have e2 : [(i : Int)].filter pb = [(i : Int)] := by
          rw [List.filter_cons, hp]
          rfl
        refine iteT (B := H2 D = some (.lst ((((List.range (i + 1)).map fun (i : Nat) => (i : Int)).filter pb).map f)) ∧ Same H H2) (he i (by omega) (by omega) H2 s2 _ ⟨_, hD, ?_, ?_, same_upd' s2 nD⟩)
        · rw [List.length_map]
          have h1 : (((List.range i).map fun (i : Nat) => (i : Int)).filter pb).length ≤ i := Nat.le_trans (List.length_filter_le _ _) (by rw [List.length_map, List.length_range]; exact Nat.le_refl _)
          exact Nat.lt_of_le_of_lt (m := 1000000) (by omega) (by decide)
        · rw [upd_same, e, e2, List.map_append]
          rfl
      | false =>
        have e2 : [(i : Int)].filter pb = [] := by
          rw [List.filter_cons, hp]
          rfl
        refine iteF ⟨?_, s2⟩
        rw [e, e2, List.append_nil]
        exact hD
  · obtain ⟨hD, s2⟩ := hP
    exact q D H2 s2 nD hD
/-! ### dicts by ints -/
theorem vl_dgetI {o : Addr} {p : Int} {kvs : List (Key × V)} (ho : Vl td σ H (.ref o)) (hk : Vl ty σ H (.int p)) (hd : H o = some (.dK kvs)) (hv : valV kvs (.inl p) = some v) : Vl (tDGet td ty) σ H v := fun Q q => ho _ (hk _ ⟨o, v, rfl, by
  rw [← hv]
  exact DGet.k (k := .inl p) hd, q⟩)
theorem q_dnewK {i : Nat} (k : ∀ p, H p = none → tw D (σ.set i (some (.ref p))) (upd H p (.dK []))) : tSeq (tAsg tDNewK (gName i)) tw D σ H := k
theorem g_dputN {o : Addr} {p : Int} {kvs : List (Key × V)} {xs : List V} (hv : Vn tv σ H xs) (ho : ∀ H', Same H H' → Vl td σ H' (.ref o)) (hk : ∀ H', Same H H' → Vl ty σ H' (.int p)) (hd : H o = some (.dK kvs)) (hl : kvs.length < sizeLine)
    (k : ∀ a H', Same H H' → H a = none → H' a = some (.lst xs) → D.nx σ (upd H' o (.dK (putK kvs (.inl p) (.ref a))))) : sDPut td ty tv D σ H := hv _ fun a H' s' na ea => ho H' s' _ (hk H' s' _ ⟨o, _, rfl, DPut.k (k := .inl p) (s' _ _ hd) hl, k a H' s' na ea⟩)
theorem g_dputV {o : Addr} {p : Int} {kvs : List (Key × V)} (hv : Vl tv σ H v) (ho : Vl td σ H (.ref o)) (hk : Vl ty σ H (.int p)) (hd : H o = some (.dK kvs)) (hl : kvs.length < sizeLine)
    (k : D.nx σ (upd H o (.dK (putK kvs (.inl p) v)))) : sDPut td ty tv D σ H := hv _ (ho _ (hk _ ⟨o, _, rfl, DPut.k (k := .inl p) hd hl, k⟩))
end
theorem hu_of {k : Nat} {A : Around} (r : Room k A) : A.units + 1 < cLine := by
  have := r.units
  omega
theorem dI {i j : Int} : decide (V.int i = V.int j) = decide (i = j) := by
  rw [Bool.eq_iff_iff, decide_eq_true_eq, decide_eq_true_eq]
  exact ⟨fun z => V.int.inj z, fun z => by rw [z]⟩
theorem vn_catV {K : PySem.W.Frag} {σ : L2.St} {H : Hp} {ta tb : TE} {a : Addr} {xs ys : List V} (ha : Vn ta σ H xs) (hb : ∀ H', Same H H' → Vl tb σ H' (.ref a)) (hA : H a = some (.lst ys)) (hz : xs.length + ys.length ≤ sizeLine) : Vn (tOp rCat ta tb) σ H (xs ++ ys) := fun Q q => ha _ fun p H1 s1 np hp => hb H1 s1 _
  ⟨p, a, xs, ys, rfl, rfl, hp, s1 _ _ hA, hz, fun t nt => q t _ (s1.trans (same_upd nt)) (Same.free s1 nt) upd_same⟩
theorem putK_len {κ : Type} [DecidableEq κ] {kvs : List (κ × V)} {k : κ} {v : V} (h : (valV kvs k).isSome = true) : (putK kvs k v).length = kvs.length := by
  unfold putK
  rw [valV_any, if_pos h, List.length_map]
/-! ### a law's own def, called from without: nothing is being shown there -/
structure FnG (P : Program) (w : World) (K : PySem.W.Frag) (mg : Str → Option Value) (base : Heap) (f : Addr) (fd : FuncData) (ps : List Str) (sp : Sp) : Prop where
  go : ∀ (s : Shared) (H : Hp) (us : List Value) (vs : List V) (Q : VK) (E : XK), Env0 P w K mg base callerA [] s H → BindsTo s fd ⟨us, []⟩ (ps.zip us) → Vals vs us → sp vs H Q E → codeAny (model P w) callerA (.call (.ref f) ⟨us, []⟩) (CR CX0 [] P w H s Q E) s
section
variable {P : Program} {w : World} {K : PySem.W.Frag} {mg : Str → Option Value} {base : Heap}
theorem okG {x qual : Str} {st : Stmt} {f : Addr} {fd : FuncData} {N ps : List Str} {k : Nat} {sp : Sp} (F : Fun K x qual st f fd) (S : FnScope N ps (defScope st)) (room : Room (k + 1) callerA) (count : ∀ vs H Q E, sp vs H Q E → vs.length = ps.length)
    (body : ∀ (cdv : Value) (s : Shared) (H : Hp) (vs : List V) (Q : VK) (E : XK), Room k (callerA.deeper (envOfC qual (defScope st) s.heap.objs.size f cdv)) → sp vs H Q E →
      ∃ t, PSs (cxOf CX0 P w K mg base N qual (defScope st) f cdv callerA [] s H E).nox (defBody st) t ∧ t { nx := fun _ H' => Q .non H', rt := Q } (start N vs) H) : FnG P w K mg base f fd ps sp := by
  obtain ⟨oc, od, kV, doc, pm, an, cdv, ct, osl, efd, look, code⟩ := F.ex
  subst efd
  refine ⟨fun s H us vs Q E env bnd rel want => ?_⟩
  have old : ∀ b o, base.get? b = some o → s.heap.get? b = some o := fun b o e => (env.bs b o e).1
  have kin : K.In s.heap := env.mod.kin.keeps old
  have lims : s.heap.NoLimit := env.mod.nolimit.keeps old
  refine codeAny_call_function room.depth (kin _ _ look) rfl S.co S.gen rfl (PySem.W.codeRec_of kin code) (bnd _ _ _ _ ?_)
  refine wpAny_newFunctionEnv_cells S.kind (fun y hy => ?_) fun fresh same s1 made => ?_
  · obtain ⟨n, v⟩ := y
    cases S.par n (List.of_mem_zip hy).1 with
    | inl q => exact .inl q
    | inr q => exact .inr ⟨q, PySem.W.cellsFrom_some _ _ _ (.inl q)⟩
  cases same
  refine ⟨lims.keeps made.toInCall.keep, codeAny_func ?_⟩
  obtain ⟨t, prog, ends⟩ := body cdv s H vs Q E (room.deeper _) want
  have inv : Inv (cxOf CX0 P w K mg base N qual (defScope st) f cdv callerA [] s H E) [] (start N vs) H s1 := inv_start S room.hd env (count _ _ _ _ want) rel made
  refine wpAny_mono (prog.nox.run [] s1 (start N vs) H _ inv ends) (fun fl s2 got => ?_) fun e s2 got => got
  cases fl with
  | ret u => exact let ⟨v, _, H2, J, rv, q⟩ := got; ⟨v, H2, J.os, J.bare, J.base, J.hok, rv, q⟩
  | next => exact let ⟨_, H2, J, q⟩ := got; ⟨V.non, H2, J.os, J.bare, J.base, J.hok, rfl, q⟩
  | brk => exact let ⟨_, _, _, q⟩ := got; False.elim q
  | cont => exact let ⟨_, _, _, q⟩ := got; False.elim q
variable {mb : Str → Option Value} {fa a : Addr} {fd : FuncData} {x : Str} {sp : Sp} {s1 : Shared} {vs : List Value} {ns : List Int}
abbrev scr (vs : List Value) : Obj := { cls := .type "list", data := .seq vs.toArray }
/-- from a heap in which at most the script is told -/
theorem runG_core (kin : K.In s1.heap) (gl : s1.heap.Ns mainGlobals mg) (bl : s1.heap.Ns builtinsNs mb) (bo : ∀ x : Str, x ≠ "__name__" → mb x = bootBuiltins x) (lim : s1.heap.NoLimit) (gen : s1.gens = #[]) (ha : s1.heap.get? a = some (scr vs))
    (F : ∀ base : Heap, K.In base → base.Ns mainGlobals mg → FnG P w K mg base fa fd [x] sp) (bind : ∀ (s : Shared) (u : Value), BindsTo s fd ⟨[u], []⟩ [(x, u)]) {H : Hp} (only : Only H) (want : sp [.ref a] H (fun v _ => v = .bl true) fun _ _ _ => False) (hok : HOk P w H s1.heap)
    (alone : ∀ b, H b ≠ none → b = a) (free : H a ≠ none → K.lookup a = none) :
    codeAny (model P w) callerA (.call (.ref fa) ⟨[.ref a], []⟩) (fun r s' => r = .ok (.ret (.bool true)) ∧ OldK s1.heap s'.heap ∧ s'.os = s1.os ∧ AllBare s'.gens) s1 := by
  have none_of : ∀ {b : Addr} {o : Obj}, s1.heap.get? b = some o → (b = a → H a ≠ none → False) → (hidT s1.heap H).get? b = some o := fun {b o} e no => hidT_get e (by
    cases q : H b with
    | none => rfl
    | some u =>
      have n : H b ≠ none := by rw [q]; exact fun z => nomatch z
      have eb := alone b n
      subst eb
      exact (no rfl n).elim)
  have names : ∀ {b : Addr} {m : Str → Option Value}, s1.heap.Ns b m → (hidT s1.heap H).Ns b m := fun {b m} ⟨o, es, ep, e, d, r⟩ => ⟨o, es, ep, none_of e (fun eb _ => by
    subst eb
    rw [ha] at e
    cases e
    have d : Data.seq vs.toArray _ = Data.dict es ep := d
    cases d), d, r⟩
  have kin2 : K.In (hidT s1.heap H) := fun b o e => none_of (kin b o e) fun eb n => by
    subst eb
    rw [free n] at e
    cases e
  have mod : Mod K mg (hidT s1.heap H) := ⟨kin2, names gl, ⟨mb, names bl, bo⟩, let ⟨mc, h1, h2⟩ := lim; ⟨mc, names h1, h2⟩⟩
  have env : Env0 P w K mg (hidT s1.heap H) callerA [] s1 H := ⟨rfl, mod, fun b o e => of_hidT e, Nat.le_of_eq (hidT_size _ _), trivial, fun b hb => (nomatch (show b ∈ ([] : List Addr) from hb)), hok, .of_eq gen⟩
  refine codeAny_mono ((F _ kin2 (names gl)).go s1 H [.ref a] [.ref a] _ _ env (bind s1 (.ref a)) (.cons rfl .nil) want) fun r s2 got => ?_
  match r, got with
  | .ok (.ret u), got =>
    obtain ⟨v, H2, os, bare, un, hok2, rel, q⟩ := got
    have q : v = .bl true := q
    cases q
    have rel : u = Value.bool true := rel
    cases rel
    refine ⟨rfl, OldK.of_keep fun b o e => ?_, os, bare⟩
    rcases only b with z | ⟨ob, xs, z⟩
    · exact un.keep b o e z (fun m => (nomatch (show b ∈ ([] : List Addr) from m))) (fun m => (nomatch m))
    · obtain ⟨e1, _⟩ := hok b _ z
      obtain ⟨e2, _⟩ := hok2 b _ (un.frzs b ob _ z)
      rw [e] at e1
      cases e1
      exact e2
theorem runG (kin : K.In s1.heap) (gl : s1.heap.Ns mainGlobals mg) (bl : s1.heap.Ns builtinsNs mb) (bo : ∀ x : Str, x ≠ "__name__" → mb x = bootBuiltins x) (lim : s1.heap.NoLimit) (gen : s1.gens = #[]) (ha : s1.heap.get? a = some (scr vs)) (hin : IntsAre vs ns) (hl : ns.length ≤ sizeLine)
    (F : ∀ base : Heap, K.In base → base.Ns mainGlobals mg → FnG P w K mg base fa fd [x] sp) (bind : ∀ (s : Shared) (u : Value), BindsTo s fd ⟨[u], []⟩ [(x, u)]) (want : ∀ H : Hp, Only H → SqL K H a (ns.map V.int) → sp [.ref a] H (fun v _ => v = .bl true) fun _ _ _ => False) :
    codeAny (model P w) callerA (.call (.ref fa) ⟨[.ref a], []⟩) (fun r s' => r = .ok (.ret (.bool true)) ∧ OldK s1.heap s'.heap ∧ s'.os = s1.os ∧ AllBare s'.gens) s1 := by
  have rel := vals_ints hin
  have size : vs.toArray.size ≤ sizeLine := by
    rw [List.size_toArray, hin.length]
    exact hl
  cases hk : K.lookup a with
  | some o =>
    have e := (kin a o hk).symm.trans ha
    cases e
    have only : Only (fun _ : Addr => (none : Option HO)) := fun _ => .inl rfl
    exact runG_core kin gl bl bo lim gen ha F bind only (want _ only (.inr ⟨_, vs.toArray, _, hk, rfl, rfl, rfl, size, by simpa using rel⟩)) (fun b u z => (nomatch (show (none : Option HO) = some u from z))) (fun b z => absurd rfl z) fun z => absurd rfl z
  | none =>
    let H : Hp := fun b => if b = a then some (.frz (scr vs) (.lst (ns.map V.int))) else none
    have at_ : H a = some (.frz (scr vs) (.lst (ns.map V.int))) := if_pos rfl
    have off : ∀ b, b ≠ a → H b = none := fun b hb => if_neg hb
    have only : Only H := fun b => by
      by_cases hb : b = a
      · subst hb
        exact .inr ⟨_, _, at_⟩
      · exact .inl (off b hb)
    refine runG_core kin gl bl bo lim gen ha F bind only (want _ only (.inl (.inr ⟨scr vs, at_⟩))) (fun b u z => ?_) (fun b z => ?_) fun _ => hk
    · by_cases hb : b = a
      · subst hb
        cases at_.symm.trans z
        exact ⟨ha, by rw [List.length_map]; exact hl, vs, _, rel, ha⟩
      · cases (off b hb).symm.trans z
    · by_cases hb : b = a
      · exact hb
      · exact absurd (off b hb) z
end
/-- the head -/
theorem walkG {l : PySem.W.OpenLaw} {n : Nat} {q : Program} {loose : List Str} {XP : (Str → Option Value) → Heap → Prop} {YP : World → Heap → Prop} {d : DefRec} {K : Params → PySem.W.Frag} {sp : World → Sp} {x : Str} (hn : l.most = some n) (hn2 : n ≤ sizeLine) (hdf : d.params.defaults = []) (hY : ∀ (w : World) (h : Heap), YP w h → (K w.params).In h)
    (F : ∀ (w : World) (mg : Str → Option Value) (fa : Addr) (h : Heap), (K w.params).In h → h.Ns mainGlobals mg → mg d.name = some (.ref fa) → ∃ fd : FuncData, (∀ (s : Shared) (u : Value), BindsTo s fd ⟨[u], []⟩ [(x, u)]) ∧ ∀ base : Heap, (K w.params).In base → base.Ns mainGlobals mg → FnG l.prog w (K w.params) mg base fa fd [x] (sp w))
    (want : ∀ (w : World) (H : Hp) (a : Addr) (ns : List Int), ns.length ≤ n → Only H → SqL (K w.params) H a (ns.map V.int) → sp w [.ref a] H (fun v _ => v = .bl true) fun _ _ _ => False) : PySem.W.WalkO q loose XP YP l.row.toRowW d [] (fun f vs => PySem.call f vs) :=
  Att.attach_call hn hdf fun w s₀ s₁ mg mb fa o pm cd doc a vs ns G Y ho hd hcd hmg hobj hints hlen hg => by
    obtain ⟨fd, bnd, fn⟩ := F w mg fa _ (hY w _ Y) G.T.g hmg
    exact runG (hY w _ Y) G.T.g G.T.b G.T.builtins G.T.nolimit hg hobj hints (Nat.le_trans hlen hn2) fn bnd fun H o q => want w H a ns hlen o q
/-! ### repr of data -/
def rRepr (K : PySem.W.Frag) : List V → Hp → VK → Prop := fun xs H Q => ∃ a d, xs = [.ref a] ∧ Dp K H (.ref a) d ∧ d.showable = true ∧ d.hasDict = false ∧ d.depth ≤ 60 ∧ d.shown.length ≤ sizeLine ∧ Q (.str d.shown) H
theorem call_reprD {X : Cx} (hg : X.A.guards = some []) (hu : X.A.units + 64 < cLine) : CallR X (.builtin "repr") (rRepr X.K) := by
  intro pins s σ H xs us Q I r h
  obtain ⟨a, d, rfl, hd, sh, nd, dep, len, q⟩ := h
  obtain ⟨u, rfl, e⟩ := vals1 r
  cases e
  obtain ⟨as, rd⟩ := Dp.reads I d _ _ hd rfl
  exact repr_of_reads' rd sh (PyData.noDict_hsm nd) hg (by omega) (fun _ _ e => e) (fun h' u tk keep => ⟨.str d.shown, H, I.kept keep, ⟨u, rfl⟩, q⟩) len
theorem ve_repr {K : PySem.W.Frag} {σ : L2.St} {H : Hp} {tr : TA} {xs : List V} {d : PyData} (h : Va tr σ H xs) (hz : xs.length ≤ sizeLine) (hd : ∀ T H', Same H H' → H' T = some (.tup xs) → Dp K H' (.ref T) d) (h1 : d.showable = true) (h2 : d.hasDict = false) (h3 : d.depth ≤ 60) (h4 : d.shown.length ≤ sizeLine) :
    Ve (tCB (rRepr K) (tCons (tTup tr) tNil)) σ H (.str d.shown) := fun Q q => h _ ⟨hz, fun T nT => ⟨T, d, rfl, hd T _ (same_upd nT) upd_same, h1, h2, h3, h4, q _ (same_upd nT)⟩⟩
theorem ve_repr1 {K : PySem.W.Frag} {σ : L2.St} {H : Hp} {te : TE} {a : Addr} {d : PyData} (h : Vl te σ H (.ref a)) (hd : Dp K H (.ref a) d) (h1 : d.showable = true) (h2 : d.hasDict = false) (h3 : d.depth ≤ 60) (h4 : d.shown.length ≤ sizeLine) :
    Ve (tCB (rRepr K) (tCons te tNil)) σ H (.str d.shown) := fun Q q => h _ ⟨a, d, rfl, hd, h1, h2, h3, h4, q _ (Same.refl _)⟩
/-! ### orders -/
def rng (n : Int) : List Int := (List.range n.toNat).map fun (i : Nat) => (i : Int)
def OrdOk (n : Int) (os : List Int) : Prop := os.Perm (rng n)
theorem mem_rng {n x : Int} : x ∈ rng n ↔ 0 ≤ x ∧ x < n := by
  unfold rng
  rw [List.mem_map]
  constructor
  · rintro ⟨i, hi, rfl⟩
    rw [List.mem_range] at hi
    omega
  · intro h
    exact ⟨x.toNat, List.mem_range.mpr (by omega), by omega⟩
theorem len_rng {n : Int} : (rng n).length = n.toNat := by
  unfold rng
  rw [List.length_map, List.length_range]
theorem nodup_rng {n : Int} : (rng n).Nodup := by
  unfold rng
  show List.Pairwise (· ≠ ·) _
  rw [List.pairwise_map]
  exact List.Pairwise.imp (fun h z => h (Int.ofNat.inj z)) List.nodup_range
theorem rng_succ (i : Nat) : rng ((i + 1 : Nat) : Int) = rng (i : Nat) ++ [(i : Int)] := by
  unfold rng
  rw [Int.toNat_natCast, Int.toNat_natCast, List.range_succ, List.map_append]
  rfl
theorem OrdOk.mem {n x : Int} {os : List Int} (h : OrdOk n os) : x ∈ os ↔ 0 ≤ x ∧ x < n := (h.mem_iff).trans mem_rng
theorem OrdOk.nodup {n : Int} {os : List Int} (h : OrdOk n os) : os.Nodup := (List.Perm.nodup_iff h).mpr nodup_rng
theorem OrdOk.len {n : Int} {os : List Int} (h : OrdOk n os) : os.length = n.toNat := (List.Perm.length_eq h).trans len_rng
theorem perm_of_sub : ∀ (xs ys : List Int), xs.Nodup → (∀ x ∈ xs, x ∈ ys) → ys.length ≤ xs.length → xs.Perm ys
  | [], ys, _, _, hl => by
    rw [List.eq_nil_of_length_eq_zero (Nat.le_zero.mp hl)]
  | x :: xs, ys, hn, hs, hl => by
    have hx := hs x List.mem_cons_self
    have hn := List.nodup_cons.mp hn
    have e := List.length_erase_of_mem hx
    have h := perm_of_sub xs (ys.erase x) hn.2 (fun y hy => (List.mem_erase_of_ne (fun z => hn.1 (by rw [← z]; exact hy))).mpr (hs y (List.mem_cons_of_mem _ hy))) (by
      rw [e]
      rw [List.length_cons] at hl
      omega)
    exact (h.cons x).trans (List.perm_cons_erase hx).symm
theorem ord_of {n : Int} {os : List Int} (hn : os.Nodup) (hm : ∀ x ∈ os, 0 ≤ x ∧ x < n) (hl : os.length = n.toNat) : OrdOk n os :=
  perm_of_sub _ _ hn (fun x hx => mem_rng.mpr (hm x hx)) (by rw [len_rng, hl]; exact Nat.le_refl _)
section
variable {K : PySem.W.Frag} {σ : L2.St} {H : Hp} {ta tb te : TE} {D : Ends} {tw : TS} {xs : List V}
theorem g_asgN {i : Nat} (h : Vn te σ H xs) (k : ∀ p H', Same H H' → H p = none → H' p = some (.lst xs) → D.nx (σ.set i (some (.ref p))) H') : tAsg te (gName i) D σ H := h _ k
/-- slices and sums of lists of ints -/
theorem vn_toI {ns : List Int} {a : Addr} {j : Nat} (h : Vl te σ H (.ref a)) (hj : Vl tb σ H (.int (j : Nat))) (hx : SqL K H a (ns.map V.int)) (hl : j ≤ ns.length) : Vn (tSl (rSlL K) te tNoPart (tPart tb)) σ H ((ns.take j).map V.int) := by
  have e : cutV (ns.map V.int) none (some ((j : Nat) : Int)) = (ns.take j).map V.int := by
    rw [cut_to (by rw [List.length_map]; exact hl), List.map_take]
  rw [← e]
  exact vn_slice h (fun _ q => q) (fun Q q => hj _ ⟨_, rfl, q⟩) hx
theorem vn_fromI {ns : List Int} {a : Addr} {j : Nat} (h : Vl te σ H (.ref a)) (hj : Vl tb σ H (.int (j : Nat))) (hx : SqL K H a (ns.map V.int)) (hl : j ≤ ns.length) : Vn (tSl (rSlL K) te (tPart tb) tNoPart) σ H ((ns.drop j).map V.int) := by
  have e : cutV (ns.map V.int) (some ((j : Nat) : Int)) none = (ns.drop j).map V.int := by
    rw [cut_from (by rw [List.length_map]; exact hl), List.map_drop]
  rw [← e]
  exact vn_slice h (fun Q q => hj _ ⟨_, rfl, q⟩) (fun _ q => q) hx
theorem vn_oneI {n : Int} (h : Vl te σ H (.int n)) : Vn (tLst (tCons te tNil)) σ H (([n] : List Int).map V.int) := vn_lst (va_cons h va_nil) (by show 1 ≤ sizeLine; decide)
theorem vn_catI {ms ns : List Int} (ha : Vn ta σ H (ms.map V.int)) (hb : ∀ H', Same H H' → Vn tb σ H' (ns.map V.int)) (hz : ms.length + ns.length ≤ 1000000) : Vn (tOp rCat ta tb) σ H ((ms ++ ns).map V.int) := by
  rw [List.map_append]
  exact vn_cat ha hb (by
    rw [List.length_map, List.length_map]
    exact Nat.le_trans hz (by decide))
theorem inV_int {x : Int} {ns : List Int} : inV (.int x) (ns.map V.int) = decide (x ∈ ns) := by
  unfold inV
  induction ns with
  | nil => rfl
  | cons n r ih =>
    rw [List.map_cons, List.any_cons, ih]
    show ((n == x) || decide (x ∈ r)) = _
    rw [Bool.eq_iff_iff, Bool.or_eq_true, beq_iff_eq, decide_eq_true_eq, decide_eq_true_eq, List.mem_cons]
    constructor
    · rintro (h | h)
      · exact .inl h.symm
      · exact .inr h
    · rintro (h | h)
      · exact .inl h.symm
      · exact .inr h
theorem flat_ints (ns : List Int) : (ns.map V.int).all flatV = true := by
  rw [List.all_map, List.all_eq_true]
  intro x _
  rfl
theorem vl_inI {a : Addr} {x : Int} {ns : List Int} (ha : Vl ta σ H (.int x)) (h : Vl te σ H (.ref a)) (hx : SqL K H a (ns.map V.int)) : Vl (tOp (rIn K false) ta te) σ H (.bl (decide (x ∈ ns))) := vl_op ha h fun _ k => ⟨a, _, rfl, .inl hx, rfl, flat_ints ns, by
  rw [inV_int]
  exact k⟩
theorem vl_notInI {a : Addr} {x : Int} {ns : List Int} (ha : Vl ta σ H (.int x)) (h : Vl te σ H (.ref a)) (hx : SqL K H a (ns.map V.int)) : Vl (tOp (rIn K true) ta te) σ H (.bl (!decide (x ∈ ns))) := vl_op ha h fun _ k => ⟨a, _, rfl, .inl hx, rfl, flat_ints ns, by
  rw [inV_int]
  exact k⟩
theorem vl_ixI {a : Addr} {ns : List Int} {j : Nat} {x : Int} (ha : Vl ta σ H (.ref a)) (hb : Vl tb σ H (.int (j : Nat))) (h : SqL K H a (ns.map V.int)) (hg : ns[j]? = some x) : Vl (tOp (rIxL K) ta tb) σ H (.int x) := vl_ixL ha hb h (atI_nat (by
  rw [List.getElem?_map, hg]
  rfl))
theorem vl_lenI {a : Addr} {ns : List Int} (ha : Vl ta σ H (.ref a)) (h : SqL K H a (ns.map V.int)) : Vl (tCB (fun xs H Q => ∃ p ys, xs = [V.ref p] ∧ (SqL K H p ys ∨ SqT K H p ys) ∧ Q (V.int ys.length) H) (tCons ta tNil)) σ H (.int ns.length) := (vl_lenL ha h).is (by rw [List.length_map])
end
section
variable {K : PySem.W.Frag} {σ : L2.St} {H : Hp} {ta tb te : TE} {b k m : Bool}
theorem vn_catL {a : Addr} {ms ns : List Int} (ha : Vl ta σ H (.ref a)) (hA : H a = some (.lst (ms.map V.int))) (hb : Vn tb σ H (ns.map V.int)) (hz : ms.length + ns.length ≤ 1000000) : Vn (tOp rCat ta tb) σ H ((ms ++ ns).map V.int) := fun Q q =>
  ha _ (hb _ fun p H1 s1 np hp => ⟨a, p, _, _, rfl, rfl, s1 _ _ hA, hp, by
    rw [List.length_map, List.length_map]
    exact Nat.le_trans hz (by decide), fun t nt => by
    rw [← List.map_append]
    exact q t _ (s1.trans (same_upd nt)) (Same.free s1 nt) upd_same⟩)
theorem vn_lstRg {n : Int} (h : Vl ta σ H (.int n)) (h0 : 0 ≤ n) (h1 : n ≤ 1000000) : Vn (tLstRg (tRg1 ta)) σ H ((rng n).map V.int) := fun Q q => h _ ⟨n, rfl, RgOk.of_le (by omega) (by omega) (by omega) h0, fun p np => by
  have e : rgV 0 n = (rng n).map V.int := by
    unfold rgV rng
    rw [List.map_map, Int.sub_zero]
    exact List.map_congr_left fun i _ => by
      rw [Int.zero_add]
      rfl
  rw [e]
  exact q p _ (same_upd np) np upd_same⟩
theorem vl_andV (h1 : Vl ta σ H (.bl k)) (h2 : k = true → Vl tb σ H (.bl m)) : Vl (tAndV ta tb) σ H (.bl (k && m)) := fun Q q => h1 _ ⟨k, rfl, by
  cases k with
  | true => exact iteT (h2 rfl _ q)
  | false => exact iteF q⟩
theorem dB {i j : Bool} : decide (V.bl i = V.bl j) = decide (i = j) := by
  rw [Bool.eq_iff_iff, decide_eq_true_eq, decide_eq_true_eq]
  exact ⟨fun z => V.bl.inj z, fun z => by rw [z]⟩
end
theorem q_dputN {σ : L2.St} {H : Hp} {td ty tv : TE} {D : Ends} {tw : TS} {o : Addr} {p : Int} {kvs : List (Key × V)} {xs : List V} (hv : Vn tv σ H xs) (ho : ∀ H', Same H H' → Vl td σ H' (.ref o)) (hk : ∀ H', Same H H' → Vl ty σ H' (.int p)) (hd : H o = some (.dK kvs)) (hl : kvs.length < sizeLine)
    (k : ∀ a H', Same H H' → H a = none → H' a = some (.lst xs) → tw D σ (upd H' o (.dK (putK kvs (.inl p) (.ref a))))) : tSeq (sDPut td ty tv) tw D σ H := g_dputN (D := { D with nx := tw D }) hv ho hk hd hl k
def spOrder (K : PySem.W.Frag) : Sp := fun vs H Q _ => ∃ (d : Addr) (ds : List Int) (k n : Int), vs = [.ref d, .int k, .int n] ∧ SqL K H d (ds.map V.int) ∧ 0 ≤ k ∧ 0 ≤ n ∧ n ≤ 40 ∧ ∀ H' p os, Same H H' → H p = none → H' p = some (.lst (os.map V.int)) → OrdOk n os → Q (.ref p) H'
/-! ### ranks -/
def fb (m : Int) : List Int → List Int → Nat → Option Nat
  | _, [], _ => none
  | seen, x :: xs, k => if (0 ≤ x ∧ x < m) ∧ x ∉ seen then fb m (seen ++ [x]) xs (k + 1) else some k
def badAt (os : List Int) : Option Nat := fb os.length [] os 0
def posOf (x : Int) : List Int → Nat
  | [] => 0
  | y :: ys => if y = x then 0 else posOf x ys + 1
def rk (os : List Int) : List Int := (rng os.length).map fun p => (posOf p os : Int)
theorem posOf_get : ∀ {os : List Int} {i : Nat} {x : Int}, os.Nodup → os[i]? = some x → posOf x os = i
  | [], _, _, _, h => by simp at h
  | y :: ys, 0, x, _, h => if_pos (Option.some.inj h)
  | y :: ys, i + 1, x, hn, h => by
    have hn := List.nodup_cons.mp hn
    have h : ys[i]? = some x := h
    have ne : ¬ y = x := fun z => hn.1 (by rw [z]; exact List.mem_of_getElem? h)
    show (if y = x then 0 else posOf x ys + 1) = i + 1
    rw [if_neg ne, posOf_get hn.2 h]
theorem posOf_lt : ∀ {os : List Int} {x : Int}, x ∈ os → os[posOf x os]? = some x
  | y :: ys, x, h => by
    show (y :: ys)[if y = x then 0 else posOf x ys + 1]? = some x
    by_cases e : y = x
    · rw [if_pos e, e]
      rfl
    · rw [if_neg e]
      rcases List.mem_cons.mp h with h | h
      · exact absurd h.symm e
      · exact posOf_lt h
theorem fb_ok {m : Int} : ∀ {xs seen : List Int} {k : Nat}, fb m seen xs k = none → seen.Nodup → (∀ x ∈ seen, 0 ≤ x ∧ x < m) → (seen ++ xs).Nodup ∧ ∀ x ∈ seen ++ xs, 0 ≤ x ∧ x < m
  | [], seen, k, _, hn, hm => by
    rw [List.append_nil]
    exact ⟨hn, hm⟩
  | x :: xs, seen, k, h, hn, hm => by
    have h : (if (0 ≤ x ∧ x < m) ∧ x ∉ seen then fb m (seen ++ [x]) xs (k + 1) else some k) = none := h
    by_cases c : (0 ≤ x ∧ x < m) ∧ x ∉ seen
    · rw [if_pos c] at h
      have := fb_ok h (List.nodup_append.mpr ⟨hn, List.nodup_cons.mpr ⟨List.not_mem_nil, .nil⟩, fun a ha b hb e => c.2 (by
        rw [List.mem_singleton] at hb
        rw [← hb, ← e]
        exact ha)⟩) (fun y hy => by
        rcases List.mem_append.mp hy with hy | hy
        · exact hm y hy
        · rw [List.mem_singleton.mp hy]
          exact c.1)
      rw [List.append_assoc] at this
      exact this
    · rw [if_neg c] at h
      cases h
theorem bad_none {os : List Int} (h : badAt os = none) : OrdOk os.length os := by
  have := fb_ok h .nil (fun _ h => nomatch h)
  exact ord_of this.1 this.2 (Int.toNat_natCast _).symm
theorem fb_none {m : Int} : ∀ {xs seen : List Int} {k : Nat}, (seen ++ xs).Nodup → (∀ x ∈ xs, 0 ≤ x ∧ x < m) → fb m seen xs k = none
  | [], _, _, _, _ => rfl
  | x :: xs, seen, k, hn, hm => by
    have c : (0 ≤ x ∧ x < m) ∧ x ∉ seen := ⟨hm x List.mem_cons_self, fun z => (List.nodup_append.mp hn).2.2 x z x List.mem_cons_self rfl⟩
    show (if (0 ≤ x ∧ x < m) ∧ x ∉ seen then fb m (seen ++ [x]) xs (k + 1) else some k) = none
    rw [if_pos c]
    exact fb_none (by
      rw [List.append_assoc]
      exact hn) fun y hy => hm y (List.mem_cons_of_mem _ hy)
theorem bad_iff {os : List Int} : badAt os = none ↔ OrdOk os.length os := ⟨bad_none, fun h => fb_none (by
  rw [List.nil_append]
  exact h.nodup) fun x hx => h.mem.mp hx⟩
def outAt (os : List Int) (i : Nat) : List Int := (rng os.length).map fun p => if p ∈ os.take i then (posOf p os : Int) else 0
theorem rng_get {n : Int} {p : Nat} (h : p < (rng n).length) : (rng n)[p] = (p : Int) := by
  simp only [rng, List.getElem_map, List.getElem_range]
theorem out_zero {os : List Int} : outAt os 0 = os.map fun _ => (0 : Int) := by
  refine List.ext_getElem ?_ fun p h1 h2 => ?_
  · unfold outAt
    rw [List.length_map, List.length_map, len_rng, Int.toNat_natCast]
  · simp only [outAt, List.getElem_map, List.take_zero, List.not_mem_nil, if_false]
theorem out_succ {os : List Int} {i : Nat} {x : Int} (ok : OrdOk os.length os) (h : os[i]? = some x) : outAt os (i + 1) = (outAt os i).set x.toNat i := by
  have hx := ok.mem.mp (List.mem_of_getElem? h)
  refine List.ext_getElem ?_ fun p h1 h2 => ?_
  · unfold outAt
    rw [List.length_set, List.length_map, List.length_map]
  · rw [List.getElem_set]
    simp only [outAt, List.getElem_map, rng_get]
    rw [take_snoc h]
    by_cases e : x.toNat = p
    · have e2 : (p : Int) = x := by omega
      rw [if_pos e, e2, if_pos (List.mem_append.mpr (.inr (List.mem_singleton.mpr rfl))), posOf_get ok.nodup h]
    · have e2 : ¬ (p : Int) = x := fun z => e (by omega)
      rw [if_neg e]
      by_cases c : (p : Int) ∈ os.take i
      · rw [if_pos c, if_pos (List.mem_append.mpr (.inl c))]
      · rw [if_neg c, if_neg (fun z => by
          rcases List.mem_append.mp z with z | z
          · exact c z
          · exact e2 (List.mem_singleton.mp z))]
theorem out_end {os : List Int} (ok : OrdOk os.length os) : outAt os os.length = rk os := by
  unfold outAt rk
  rw [List.take_length]
  exact List.map_congr_left fun p hp => if_pos (ok.mem.mpr (mem_rng.mp hp))
def dueD (os : List Int) : PyData := match badAt os with
  | some k => .tuple [.str "bad", .int (k : Nat)]
  | none => .tuple [.str "ranks", .list ((rk os).map PyData.int)]
theorem shaped_due (os : List Int) : SeqAt.shaped (dueD os) = true := by
  unfold dueD
  split
  · exact shaped_pair (x := "bad") (by decide +kernel) rfl (Nat.zero_le _)
  · refine shaped_pair (x := "ranks") (by decide +kernel) ?_ ?_
    · exact (lay_ints _).1
    · show PyData.depthAll _ + 1 ≤ 3
      rw [(lay_ints _).2]
      decide
/-- what due's tuple holds -/
def DueAt (K : PySem.W.Frag) (H : Hp) (T : Addr) (os : List Int) : Prop := match badAt os with
  | some k => SqT K H T [.str "bad", .int (k : Nat)]
  | none => ∃ q, SqT K H T [.str "ranks", .ref q] ∧ SqL K H q ((rk os).map V.int)
theorem DueAt.dp {K : PySem.W.Frag} {H : Hp} {T : Addr} {os : List Int} (h : DueAt K H T os) : Dp K H (.ref T) (dueD os) := by
  unfold DueAt at h
  unfold dueD
  cases e : badAt os with
  | some k =>
    rw [e] at h
    exact .tup h (.cons (.str _) (.cons (.int _) .nil))
  | none =>
    rw [e] at h
    obtain ⟨q, h1, h2⟩ := h
    exact .tup h1 (.cons (.str _) (.cons (Dp.ints h2) .nil))
/-! ### neighbours -/
def nearF (a : Int) (l : Lnk) : Option Int := if l.a = a then some l.b else if l.b = a then some l.a else none
def nearOf (a : Int) (ls : List Lnk) : List Int := ls.filterMap (nearF a)
theorem nearF_sum {a : Int} {l : Lnk} : nearF a l = if (l.a = a ∨ l.b = a) then some (l.a + l.b - a) else none := by
  unfold nearF
  by_cases h1 : l.a = a
  · rw [if_pos h1, if_pos (.inl h1)]
    congr 1
    omega
  · rw [if_neg h1]
    by_cases h2 : l.b = a
    · rw [if_pos h2, if_pos (.inr h2)]
      congr 1
      omega
    · rw [if_neg h2, if_neg (by omega)]
theorem nearF_iff {a o : Int} {l : Lnk} (h : l.a < l.b) : nearF a l = some o ↔ (l.a = a ∧ l.b = o) ∨ (l.a = o ∧ l.b = a) := by
  rw [nearF_sum]
  by_cases c : l.a = a ∨ l.b = a
  · rw [if_pos c]
    constructor
    · intro e
      have := Option.some.inj e
      omega
    · intro e
      congr 1
      omega
  · rw [if_neg c]
    constructor
    · intro e
      cases e
    · intro e
      omega
def adj0 (ls : List Lnk) (x y : Int) : Bool := ls.any fun l => decide ((l.a = x ∧ l.b = y) ∨ (l.a = y ∧ l.b = x))
theorem adj0_iff {ls : List Lnk} {x y : Int} : adj0 ls x y = true ↔ ∃ l ∈ ls, (l.a = x ∧ l.b = y) ∨ (l.a = y ∧ l.b = x) := by
  unfold adj0
  rw [List.any_eq_true]
  constructor
  · rintro ⟨l, h, e⟩
    exact ⟨l, h, of_decide_eq_true e⟩
  · rintro ⟨l, h, e⟩
    exact ⟨l, h, decide_eq_true e⟩
theorem split_at {α : Type} {xs : List α} {i : Nat} {x : α} (h : xs[i]? = some x) : xs = xs.take i ++ x :: xs.drop (i + 1) := by
  have hi := (List.getElem?_eq_some_iff.mp h).1
  have e := List.take_append_drop i xs
  rw [List.drop_eq_getElem_cons hi, (List.getElem?_eq_some_iff.mp h).2] at e
  exact e.symm
theorem near_mem {N : Net} (ok : NetOk N) {a o : Int} : o ∈ nearOf a N.ls ↔ adj0 N.ls a o = true := by
  unfold nearOf
  rw [List.mem_filterMap, adj0_iff]
  constructor
  · rintro ⟨l, h, e⟩
    exact ⟨l, h, (nearF_iff (ok.ok l h).ab).mp e⟩
  · rintro ⟨l, h, e⟩
    exact ⟨l, h, (nearF_iff (ok.ok l h).ab).mpr e⟩
theorem near_lt {N : Net} (ok : NetOk N) (a : Int) : (nearOf a N.ls).Pairwise (· < ·) := by
  unfold nearOf
  rw [List.pairwise_filterMap]
  refine List.Pairwise.imp_of_mem (fun {l m} hl hm hlt x hx y hy => ?_) ok.lt
  have h1 := (ok.ok l hl).ab
  have h2 := (ok.ok m hm).ab
  have hx := (nearF_iff h1).mp hx
  have hy := (nearF_iff h2).mp hy
  unfold LnkLt at hlt
  omega
theorem near_nodup {N : Net} (ok : NetOk N) (a : Int) : (nearOf a N.ls).Nodup := (near_lt ok a).imp fun h z => by omega
theorem adj0_in {N : Net} (ok : NetOk N) {x y : Int} (h : adj0 N.ls x y = true) : (0 ≤ x ∧ x < N.n) ∧ (0 ≤ y ∧ y < N.n) ∧ x ≠ y := by
  obtain ⟨l, hl, e⟩ := adj0_iff.mp h
  have := (ok.ok l hl).a0
  have := (ok.ok l hl).ab
  have := (ok.ok l hl).bn
  omega
theorem adj0_sym {ls : List Lnk} {x y : Int} : adj0 ls x y = adj0 ls y x := by
  rw [Bool.eq_iff_iff, adj0_iff, adj0_iff]
  constructor
  · rintro ⟨l, h, e⟩
    exact ⟨l, h, e.symm⟩
  · rintro ⟨l, h, e⟩
    exact ⟨l, h, e.symm⟩
/-! ### the greedy order -/
def joinB (adj : Int → Int → Bool) (b x y : Int) : Bool := adj x y || (adj b x && (adj b y && !decide (x = y)))
def deg (L : List Int) (adj : Int → Int → Bool) (p : Int) : Nat := (L.filter (adj p)).length
def pick (f : Int → Nat) (b : Int) (xs : List Int) : Int := xs.foldl (fun b p => if f p < f b then p else b) b
def gr : Nat → List Int → (Int → Int → Bool) → List Int
  | 0, _, _ => []
  | _ + 1, [], _ => []
  | k + 1, p :: r, adj => pick (deg (p :: r) adj) p (p :: r) :: gr k ((p :: r).erase (pick (deg (p :: r) adj) p (p :: r))) (joinB adj (pick (deg (p :: r) adj) p (p :: r)))
def greedyOf (N : Net) : List Int := gr N.n.toNat (rng N.n) (adj0 N.ls)
theorem pick_or {f : Int → Nat} : ∀ {xs : List Int} {b : Int}, pick f b xs = b ∨ pick f b xs ∈ xs
  | [], b => .inl rfl
  | x :: xs, b => by
    show pick f (if f x < f b then x else b) xs = b ∨ pick f (if f x < f b then x else b) xs ∈ x :: xs
    by_cases c : f x < f b
    · rw [if_pos c]
      rcases pick_or (f := f) (xs := xs) (b := x) with h | h
      · right
        rw [h]
        exact List.mem_cons_self
      · exact .inr (List.mem_cons_of_mem _ h)
    · rw [if_neg c]
      rcases pick_or (f := f) (xs := xs) (b := b) with h | h
      · exact .inl h
      · exact .inr (List.mem_cons_of_mem _ h)
theorem pick_mem {f : Int → Nat} {p : Int} {r : List Int} : pick f p (p :: r) ∈ p :: r := by
  rcases pick_or (f := f) (xs := p :: r) (b := p) with h | h
  · rw [h]
    exact List.mem_cons_self
  · exact h
theorem pick_congr {f g : Int → Nat} : ∀ {xs : List Int} {b : Int}, (∀ x ∈ b :: xs, f x = g x) → pick f b xs = pick g b xs
  | [], _, _ => rfl
  | x :: xs, b, h => by
    show pick f (if f x < f b then x else b) xs = pick g (if g x < g b then x else b) xs
    rw [h x (List.mem_cons_of_mem _ List.mem_cons_self), h b List.mem_cons_self]
    refine pick_congr fun y hy => ?_
    rcases List.mem_cons.mp hy with e | e
    · by_cases c : g x < g b
      · rw [if_pos c] at e
        rw [e]
        exact h x (List.mem_cons_of_mem _ List.mem_cons_self)
      · rw [if_neg c] at e
        rw [e]
        exact h b List.mem_cons_self
    · exact h y (List.mem_cons_of_mem _ (List.mem_cons_of_mem _ e))
structure AdjOk (adj : Int → Int → Bool) : Prop where
  sym : ∀ x y, adj x y = adj y x
  irr : ∀ x, adj x x = false
theorem AdjOk.join {adj : Int → Int → Bool} (h : AdjOk adj) (b : Int) : AdjOk (joinB adj b) where
  sym := fun x y => by
    unfold joinB
    rw [h.sym x y, Bool.and_left_comm, show decide (x = y) = decide (y = x) by
      rw [Bool.eq_iff_iff, decide_eq_true_eq, decide_eq_true_eq]
      exact eq_comm]
  irr := fun x => by
    unfold joinB
    rw [h.irr x, decide_eq_true rfl]
    simp
theorem adj0_ok {N : Net} (ok : NetOk N) : AdjOk (adj0 N.ls) := ⟨fun _ _ => adj0_sym, fun x => by
  cases e : adj0 N.ls x x with
  | false => rfl
  | true => exact absurd rfl (adj0_in ok e).2.2⟩
/-- lists of neighbours that say what adj says of the places left -/
structure NearOk (L : List Int) (adj : Int → Int → Bool) (near : Int → List Int) : Prop where
  nd : ∀ p ∈ L, (near p).Nodup
  mem : ∀ p ∈ L, ∀ o, o ∈ near p ↔ o ∈ L ∧ adj p o = true
theorem sub_len : ∀ {xs ys : List Int}, xs.Nodup → (∀ x ∈ xs, x ∈ ys) → xs.length ≤ ys.length
  | [], _, _, _ => Nat.zero_le _
  | x :: xs, ys, hn, hs => by
    have hn := List.nodup_cons.mp hn
    have hx := hs x List.mem_cons_self
    have e := List.length_erase_of_mem hx
    have h := sub_len (ys := ys.erase x) hn.2 (fun y hy => (List.mem_erase_of_ne (fun z => hn.1 (by rw [← z]; exact hy))).mpr (hs y (List.mem_cons_of_mem _ hy)))
    have := List.length_pos_of_mem hx
    rw [List.length_cons]
    omega
theorem NearOk.deg {L : List Int} {adj : Int → Int → Bool} {near : Int → List Int} (h : NearOk L adj near) (hL : L.Nodup) {p : Int} (hp : p ∈ L) : (near p).length = Ovc.deg L adj p := by
  unfold Ovc.deg
  have hf : (L.filter (adj p)).Nodup := hL.filter _
  have m : ∀ o, o ∈ near p ↔ o ∈ L.filter (adj p) := fun o => by
    rw [h.mem p hp o, List.mem_filter]
  refine Nat.le_antisymm ?_ ?_
  · exact sub_len (h.nd p hp) fun o ho => (m o).mp ho
  · exact sub_len hf fun o ho => (m o).mpr ho
def nearTo (near : Int → List Int) (b p : Int) : List Int := (near p).filter (fun o => !decide (o = b)) ++ (near b).filter fun o => !decide (o = p) && !decide (o ∈ near p)
theorem NearOk.step {L : List Int} {adj : Int → Int → Bool} {near : Int → List Int} (h : NearOk L adj near) (ha : AdjOk adj) (hL : L.Nodup) {b : Int} (hb : b ∈ L) :
    NearOk (L.erase b) (joinB adj b) (fun p => if p ∈ near b then nearTo near b p else near p) where
  nd := fun p hp => by
    have hp2 := (hL.mem_erase_iff.mp hp).2
    show (if p ∈ near b then nearTo near b p else near p).Nodup
    by_cases c : p ∈ near b
    · rw [if_pos c]
      refine List.nodup_append.mpr ⟨(h.nd p hp2).filter _, (h.nd b hb).filter _, fun x hx y hy e => ?_⟩
      have h1 := (List.mem_filter.mp hx).1
      have h2 := (List.mem_filter.mp hy).2
      rw [Bool.and_eq_true, Bool.not_eq_true', Bool.not_eq_true', decide_eq_false_iff_not, decide_eq_false_iff_not] at h2
      exact h2.2 (by rw [← e]; exact h1)
    · rw [if_neg c]
      exact h.nd p hp2
  mem := fun p hp o => by
    have hpb := (hL.mem_erase_iff.mp hp).1
    have hp2 := (hL.mem_erase_iff.mp hp).2
    show o ∈ (if p ∈ near b then nearTo near b p else near p) ↔ o ∈ L.erase b ∧ joinB adj b p o = true
    have j : joinB adj b p o = true ↔ adj p o = true ∨ (adj b p = true ∧ adj b o = true ∧ o ≠ p) := by
      unfold joinB
      rw [Bool.or_eq_true, Bool.and_eq_true, Bool.and_eq_true, Bool.not_eq_true', decide_eq_false_iff_not]
      constructor
      · rintro (h | ⟨h1, h2, h3⟩)
        · exact .inl h
        · exact .inr ⟨h1, h2, fun z => h3 z.symm⟩
      · rintro (h | ⟨h1, h2, h3⟩)
        · exact .inl h
        · exact .inr ⟨h1, h2, fun z => h3 z.symm⟩
    rw [j, hL.mem_erase_iff]
    by_cases c : p ∈ near b
    · rw [if_pos c]
      unfold nearTo
      have hbp := ((h.mem b hb p).mp c).2
      rw [List.mem_append, List.mem_filter, List.mem_filter, Bool.and_eq_true, Bool.not_eq_true', Bool.not_eq_true', Bool.not_eq_true', decide_eq_false_iff_not, decide_eq_false_iff_not, decide_eq_false_iff_not, h.mem p hp2 o, h.mem b hb o]
      constructor
      · rintro (⟨⟨h1, h2⟩, h3⟩ | ⟨⟨h1, h2⟩, h3, h4⟩)
        · exact ⟨⟨h3, h1⟩, .inl h2⟩
        · have ne : o ≠ b := fun z => by
            rw [z, ha.irr] at h2
            cases h2
          exact ⟨⟨ne, h1⟩, .inr ⟨hbp, h2, h3⟩⟩
      · rintro ⟨⟨h1, h2⟩, h3 | ⟨h3, h4, h5⟩⟩
        · exact .inl ⟨⟨h2, h3⟩, h1⟩
        · by_cases d : adj p o = true
          · exact .inl ⟨⟨h2, d⟩, h1⟩
          · exact .inr ⟨⟨h2, h4⟩, h5, fun z => d z.2⟩
    · rw [if_neg c, h.mem p hp2 o]
      have hbp : adj b p ≠ true := fun z => c ((h.mem b hb p).mpr ⟨hp2, z⟩)
      constructor
      · rintro ⟨h1, h2⟩
        have ne : o ≠ b := fun z => by
          rw [z, ha.sym] at h2
          exact hbp h2
        exact ⟨⟨ne, h1⟩, .inl h2⟩
      · rintro ⟨⟨h1, h2⟩, h3 | ⟨h3, _⟩⟩
        · exact ⟨h2, h3⟩
        · exact absurd h3 hbp
theorem left_snoc {n b : Int} {acc : List Int} : (rng n).filter (fun p => !decide (p ∈ acc ++ [b])) = ((rng n).filter fun p => !decide (p ∈ acc)).erase b := by
  rw [List.Nodup.erase_eq_filter (show List.Nodup _ from nodup_rng.filter _) b, List.filter_filter]
  refine List.filter_congr fun p _ => ?_
  rw [Bool.eq_iff_iff]
  simp only [List.mem_append, List.mem_singleton, Bool.not_eq_true', decide_eq_false_iff_not, Bool.and_eq_true, bne_iff_ne, ne_eq, not_or]
  exact And.comm
/-! ### pairs of an order -/
inductive Rch (adj : Int → Int → Bool) (low : Int → Prop) : Int → Int → Prop
  | one {x y : Int} : adj x y = true → Rch adj low x y
  | step {x z y : Int} : Rch adj low x z → low z → adj z y = true → Rch adj low x y
section
variable {adj : Int → Int → Bool} {low low' : Int → Prop} {x y z : Int}
theorem Rch.mono (h : Rch adj low x y) (m : ∀ z, low z → low' z) : Rch adj low' x y := by
  induction h with
  | one a => exact .one a
  | step _ l a ih => exact .step ih (m _ l) a
theorem Rch.trans (h : Rch adj low x z) (l : low z) (k : Rch adj low z y) : Rch adj low x y := by
  induction k with
  | one a => exact .step h l a
  | step _ l2 a ih => exact .step ih l2 a
theorem Rch.sym (ok : AdjOk adj) (h : Rch adj low x y) : Rch adj low y x := by
  induction h with
  | one a => exact .one (by rw [ok.sym]; exact a)
  | step _ l a ih => exact Rch.trans (.one (by rw [ok.sym]; exact a)) l ih
theorem Rch.last (h : Rch adj low x y) : ∃ a, adj a y = true := by
  cases h with
  | one a => exact ⟨_, a⟩
  | step _ _ a => exact ⟨_, a⟩
theorem Rch.first (h : Rch adj low x y) : ∃ a, adj x a = true := by
  induction h with
  | one a => exact ⟨_, a⟩
  | step _ _ _ ih => exact ih
end
section
variable {adj : Int → Int → Bool} {pos : Int → Nat}
theorem floyd1 (inj : ∀ x y a b, adj a x = true → adj b y = true → pos x = pos y → x = y) {k : Nat} {x y : Int} (h : Rch adj (fun z => pos z < k + 1) x y) :
    Rch adj (fun z => pos z < k) x y ∨ ∃ w, pos w = k ∧ Rch adj (fun z => pos z < k) x w ∧ Rch adj (fun z => pos z < k) w y := by
  induction h with
  | one a => exact .inl (.one a)
  | @step z y hz l a ih =>
    by_cases e : pos z = k
    · rcases ih with h | ⟨w, hw, h1, h2⟩
      · exact .inr ⟨z, e, h, .one a⟩
      · obtain ⟨b, hb⟩ := h1.last
        obtain ⟨c, hc⟩ := hz.last
        have : w = z := inj w z b c hb hc (by omega)
        subst this
        exact .inr ⟨w, hw, h1, .one a⟩
    · rcases ih with h | ⟨w, hw, h1, h2⟩
      · exact .inl (.step h (by omega) a)
      · exact .inr ⟨w, hw, h1, .step h2 (by omega) a⟩
theorem floyd (inj : ∀ x y a b, adj a x = true → adj b y = true → pos x = pos y → x = y) : ∀ {k : Nat} {x y : Int}, Rch adj (fun z => pos z < k) x y →
    adj x y = true ∨ ∃ w, pos w < k ∧ Rch adj (fun z => pos z < pos w) x w ∧ Rch adj (fun z => pos z < pos w) w y
  | 0, x, y, h => by
    cases h with
    | one a => exact .inl a
    | step _ l _ => exact absurd l (Nat.not_lt_zero _)
  | k + 1, x, y, h => by
    rcases floyd1 inj h with h | ⟨w, hw, h1, h2⟩
    · rcases floyd inj h with h | ⟨w, hw, h1, h2⟩
      · exact .inl h
      · exact .inr ⟨w, by omega, h1, h2⟩
    · exact .inr ⟨w, by omega, by rw [hw]; exact h1, by rw [hw]; exact h2⟩
end
def PairP (ls : List Lnk) (os : List Int) (u v : Int) : Prop := posOf u os < posOf v os ∧ Rch (adj0 ls) (fun z => posOf z os < posOf u os) u v
theorem pos_inj {os : List Int} {x y : Int} (hx : x ∈ os) (hy : y ∈ os) (h : posOf x os = posOf y os) : x = y := by
  have h1 := posOf_lt hx
  rw [h, posOf_lt hy] at h1
  exact (Option.some.inj h1).symm
theorem pos_len {os : List Int} {x : Int} (hx : x ∈ os) : posOf x os < os.length := (List.getElem?_eq_some_iff.mp (posOf_lt hx)).1
section
variable {N : Net} {os : List Int} {u v w : Int}
theorem adj_inj (ok : NetOk N) (oo : OrdOk N.n os) : ∀ x y a b, adj0 N.ls a x = true → adj0 N.ls b y = true → posOf x os = posOf y os → x = y := fun x y a b h1 h2 h3 =>
  pos_inj (oo.mem.mpr (adj0_in ok h1).2.1) (oo.mem.mpr (adj0_in ok h2).2.1) h3
theorem PairP.ins (ok : NetOk N) (h : PairP N.ls os u v) : (0 ≤ u ∧ u < N.n) ∧ (0 ≤ v ∧ v < N.n) := by
  obtain ⟨a, ha⟩ := h.2.last
  obtain ⟨b, hb⟩ := h.2.first
  exact ⟨(adj0_in ok hb).1, (adj0_in ok ha).2.1⟩
theorem PairP.ne (h : PairP N.ls os u v) : u ≠ v := fun e => by
  have := h.1
  rw [e] at this
  exact Nat.lt_irrefl _ this
theorem pair_clique (ok : NetOk N) (h1 : PairP N.ls os u v) (h2 : PairP N.ls os u w) (hvw : posOf v os < posOf w os) : PairP N.ls os v w := by
  have m : ∀ z, posOf z os < posOf u os → posOf z os < posOf v os := fun z hz => Nat.lt_trans hz h1.1
  exact ⟨hvw, ((h1.2.sym (adj0_ok ok)).mono m).trans h1.1 (h2.2.mono m)⟩
theorem pair_rec (ok : NetOk N) (oo : OrdOk N.n os) : PairP N.ls os u v ↔ posOf u os < posOf v os ∧ (adj0 N.ls u v = true ∨ ∃ w, PairP N.ls os w u ∧ PairP N.ls os w v) := by
  constructor
  · intro h
    refine ⟨h.1, ?_⟩
    rcases floyd (adj_inj ok oo) h.2 with h2 | ⟨w, hw, h1, h2⟩
    · exact .inl h2
    · exact .inr ⟨w, ⟨hw, h1.sym (adj0_ok ok)⟩, ⟨Nat.lt_trans hw h.1, h2⟩⟩
  · rintro ⟨hl, h | ⟨w, h1, h2⟩⟩
    · exact ⟨hl, .one h⟩
    · have m : ∀ z, posOf z os < posOf w os → posOf z os < posOf u os := fun z hz => Nat.lt_trans hz h1.1
      exact ⟨hl, ((h1.2.sym (adj0_ok ok)).mono m).trans h1.1 (h2.2.mono m)⟩
theorem pair_link (ok : NetOk N) (oo : OrdOk N.n os) (h : adj0 N.ls u v = true) : PairP N.ls os u v ∨ PairP N.ls os v u := by
  have hi := adj0_in ok h
  have hne : posOf u os ≠ posOf v os := fun e => hi.2.2 (pos_inj (oo.mem.mpr hi.1) (oo.mem.mpr hi.2.1) e)
  rcases Nat.lt_or_gt_of_ne hne with h1 | h1
  · exact .inl ⟨h1, .one h⟩
  · exact .inr ⟨h1, .one (by rw [adj0_sym]; exact h)⟩
end
open Classical in
/-- the upper neighbours of a place, in the order of ranks -/
noncomputable def upP (ls : List Lnk) (os : List Int) (u : Int) : List Int := os.filter fun v => decide (PairP ls os u v)
section
variable {N : Net} {ls : List Lnk} {os : List Int} {u v w : Int}
open Classical in
theorem mem_up : v ∈ upP ls os u ↔ v ∈ os ∧ PairP ls os u v := by
  unfold upP
  rw [List.mem_filter, decide_eq_true_eq]
theorem mem_upP (ok : NetOk N) (oo : OrdOk N.n os) : v ∈ upP N.ls os u ↔ PairP N.ls os u v := by
  rw [mem_up]
  exact ⟨fun h => h.2, fun h => ⟨oo.mem.mpr (h.ins ok).2, h⟩⟩
open Classical in
theorem up_eq {fs : List Int} (oo : OrdOk N.n os) (h : ∀ v ∈ os, v ∈ fs ↔ PairP N.ls os u v) : os.filter (fun v => decide (v ∈ fs)) = upP N.ls os u := by
  unfold upP
  refine List.filter_congr fun v hv => ?_
  rw [Bool.eq_iff_iff, decide_eq_true_eq, decide_eq_true_eq]
  exact h v hv
theorem up_nodup (oo : OrdOk N.n os) : (upP N.ls os u).Nodup := oo.nodup.filter _
theorem up_len (ok : NetOk N) (oo : OrdOk N.n os) : (upP N.ls os u).length ≤ 40 := by
  have e := oo.len
  have := ok.n40
  have h2 : (upP N.ls os u).length ≤ os.length := List.length_filter_le _ _
  omega
theorem pos_sorted {os : List Int} (h : os.Nodup) : os.Pairwise fun a b => posOf a os < posOf b os := by
  rw [List.pairwise_iff_getElem]
  intro i j hi hj hij
  rw [posOf_get h (List.getElem?_eq_getElem hi), posOf_get h (List.getElem?_eq_getElem hj)]
  exact hij
theorem up_sorted (oo : OrdOk N.n os) : (upP N.ls os u).Pairwise fun a b => posOf a os < posOf b os := (pos_sorted oo.nodup).filter _
end
/-! ### the other drawing of nets and orders -/
abbrev sPrice2 : Stmt := topS 20
abbrev sNet2 : Stmt := topS 21
abbrev sOrder2 : Stmt := topS 22
theorem scPrice2 : FnScope ["cell"] ["cell"] (defScope sPrice2) := ⟨rfl, rfl, rfl, by decide +kernel, rfl, by decide +kernel, by decide +kernel⟩
theorem scNet2 : FnScope ["draws", "first", "most", "count", "dense", "links", "a", "b", "cell"] ["draws", "first", "most"] (defScope sNet2) := ⟨rfl, rfl, rfl, by decide +kernel, rfl, by decide +kernel, by decide +kernel⟩
theorem scOrder2 : FnScope ["draws", "first", "count", "rows", "key", "k"] ["draws", "first", "count"] (defScope sOrder2) := ⟨rfl, rfl, rfl, by decide +kernel, rfl, by decide +kernel, by decide +kernel⟩
def spPrice2 : Sp := fun vs H Q _ => ∃ c : Int, vs = [.int c] ∧ 0 ≤ c ∧ c ≤ 60000 ∧ ∀ H' o, Same H H' → PriceOk o → Q (oV o) H'
section
variable {P : Program} {w : World} {K : PySem.W.Frag} {mg : Str → Option Value} {base : Heap}
theorem ok_price2 {f : Addr} {fd : FuncData} {k : Nat} (F : Fun K "_law_price" "_law_price" sPrice2 f fd) (mi : mg "int" = none) : FnOk P w K mg base CX0 (k + 1) f fd ["cell"] spPrice2 := by
  refine F.ok scPrice2 (fun vs H Q E h => ?_) (fun cdv A outer s H vs Q E hr h => ?_)
  · obtain ⟨c, rfl, _⟩ := h
    rfl
  · obtain ⟨c, rfl, h0, h1, q⟩ := h
    refine ⟨_, pss_cons (ps_if (pt_cmpR op_eq (pe_op op_mod (pe_callTy call_int1 (by rfl) mi (by decide +kernel) (pa_cons (pv 0) pa_nil)) pe_int) pe_int (nomark _))
      (pss_one (ps_ret pe_non))
      pss_nil)
      (pss_one (ps_ret (pe_ix ix_list (pe_lst (pa_cons (pe_op op_add pe_int (pe_op op_mod (pe_callTy call_int1 (by rfl) mi (by decide +kernel) (pa_cons (pe_op op_fdiv (pv 0) pe_int) pa_nil)) pe_int)) (pa_cons (pe_op op_add pe_int (pe_op op_mod (pe_callTy call_int1 (by rfl) mi (by decide +kernel) (pa_cons (pe_op op_fdiv (pv 0) pe_int) pa_nil)) pe_int)) (pa_cons (pe_op op_add pe_int (pe_op op_mul (pe_callTy call_int1 (by rfl) mi (by decide +kernel) (pa_cons (pe_op op_fdiv (pv 0) pe_int) pa_nil)) pe_int)) pa_nil)))) (pe_op op_mod (pe_callTy call_int1 (by rfl) mi (by decide +kernel) (pa_cons (pe_op op_fdiv (pv 0) pe_int) pa_nil)) pe_int) (fun _ _ => rfl)))), ?_⟩
    refine q_when (b := decide (V.int (c % 6) = V.int 5)) (an_test (vl_eq (vl_I (vl_int1 (vl_var rfl)) vl_c (by decide)) vl_c rfl)) (fun _ => ?_) (fun _ => ?_)
    · exact g_ret vl_c (q H none (Same.refl H) (fun x e => by cases e))
    · obtain ⟨d, g', hd⟩ := at_int (ds := [1 + (c / 6) % 3, 1 + (c / 6) % 12, 1 + (c / 6) * 97]) (k := (c / 3) % 3) (by omega) (by show (c / 3) % 3 < 3; omega)
      have hd1 : 1 ≤ d ∧ d ≤ 1000000 := by
        have := List.mem_of_getElem? hd
        simp only [List.mem_cons, List.not_mem_nil, or_false] at this
        omega
      refine g_retV (v := .int d) (ve_ixNew (xs := [1 + (c / 6) % 3, 1 + (c / 6) % 12, 1 + (c / 6) * 97].map V.int) (p := (c / 3) % 3) (vn_lst (va_cons (vl_I0 vl_c (vl_I (vl_int1 (vl_I (vl_var rfl) vl_c ⟨by decide, by decide⟩)) vl_c (by decide))) (va_cons (vl_I0 vl_c (vl_I (vl_int1 (vl_I (vl_var rfl) vl_c ⟨by decide, by decide⟩)) vl_c (by decide))) (va_cons (vl_I0 vl_c (vl_I (vl_int1 (vl_I (vl_var rfl) vl_c ⟨by decide, by decide⟩)) vl_c (.inr ⟨by decide, by decide⟩))) va_nil))) (by show 3 ≤ sizeLine; decide)) (fun H' s' => vl_I (vl_int1 (vl_I (vl_var rfl) vl_c ⟨by decide, by decide⟩)) vl_c (by decide)) g') fun H' s' => q H' (some d) s' (fun x e => by
        cases e
        exact hd1)
theorem ok_net2 {f : Addr} {fd : FuncData} (F : Fun K "_law_net" "_law_net" sNet2 f fd) (c_law_at : Kal P w K mg base 1 "_law_at" ["draws", "k", "many"] (spAt K)) (c_law_price : Kal P w K mg base 1 "_law_price" ["cell"] spPrice2) (mr : mg "range" = none) (mi : mg "int" = none) :
    FnOk P w K mg base CX0 2 f fd ["draws", "first", "most"] (spNet K) := by
  refine F.ok scNet2 (fun vs H Q E h => ?_) (fun cdv A outer s H vs Q E hr h => ?_)
  · obtain ⟨a, ds, k, m, rfl, _⟩ := h
    rfl
  · obtain ⟨a, ds, k, m, rfl, hS, hk, hm1, hm2, q⟩ := h
    refine ⟨_, pss_cons (ps_set (i := 3) scNet2.nd rfl (.inl rfl) (pe_op op_add pe_int (pe_k c_law_at hr (by first | decide | omega) (by rfl) (pa_cons (pv 0) (pa_cons (pv 1) (pa_cons (pv 2) pa_nil))))))
      (pss_cons (ps_set (i := 4) scNet2.nd rfl (.inl rfl) (pe_op op_add pe_int (pe_k c_law_at hr (by first | decide | omega) (by rfl) (pa_cons (pv 0) (pa_cons (pe_op op_add (pv 1) pe_int) (pa_cons pe_int pa_nil))))))
      (pss_cons (ps_set (i := 5) scNet2.nd rfl (.inl rfl) (pe_lst pa_nil))
      (pss_cons (ps_for PassesOwn.never rfl (pi_range1 (by rfl) mr (pa_cons (pv 3) pa_nil)) (pg_name (i := 6) scNet2.nd rfl (.inl rfl))
      (pss_one (ps_for PassesOwn.never rfl (pi_range2 (by rfl) mr (pa_cons (pe_op op_add (pv 6) pe_int) (pa_cons (pv 3) pa_nil))) (pg_name (i := 7) scNet2.nd rfl (.inl rfl))
        (pss_cons (ps_set (i := 8) scNet2.nd rfl (.inl rfl) (pe_op op_add (pe_op op_add (pe_k c_law_at hr (by first | decide | omega) (by rfl) (pa_cons (pv 0) (pa_cons (pe_op op_add (pe_op op_add (pv 1) pe_int) (pe_op op_mod (pe_callTy call_int1 (by rfl) mi (by decide +kernel) (pa_cons (pe_op op_add (pe_op op_mul (pv 6) pe_int) (pe_op op_mul (pv 7) pe_int)) pa_nil)) pe_int)) (pa_cons pe_int pa_nil)))) (pe_op op_mul pe_int (pv 6))) (pe_op op_mul pe_int (pv 7))))
          (pss_one (ps_if (pt_cmpR op_lt (pe_op op_mod (pe_callTy call_int1 (by rfl) mi (by decide +kernel) (pa_cons (pv 8) pa_nil)) pe_int) (pv 4) (nomark _))
          (pss_one (ps_expr (pe_bm PySem.F.plainAttrs_list PySem.F.slot_list_append PySem.F.type_list_append mt_append (pv 5) (pa_cons (pe_tup (pa_cons (pv 6) (pa_cons (pv 7) (pa_cons (pe_k c_law_price hr (by first | decide | omega) (by rfl) (pa_cons (pe_callTy call_int1 (by rfl) mi (by decide +kernel) (pa_cons (pe_op op_fdiv (pv 8) pe_int) pa_nil)) pa_nil)) (pa_cons (pe_k c_law_price hr (by first | decide | omega) (by rfl) (pa_cons (pe_op op_add (pe_callTy call_int1 (by rfl) mi (by decide +kernel) (pa_cons (pe_op op_fdiv (pv 8) pe_int) pa_nil)) (pv 6)) pa_nil)) pa_nil))))) pa_nil))))
          pss_nil))))))
      (pss_one (ps_ret (pe_tup (pa_cons (pv 3) (pa_cons (pv 5) pa_nil)))))))), ?_⟩
    refine q_asgI (P := fun r => 1 ≤ r ∧ r ≤ m) (vi_I0 (vi_of vl_c) (vi_call (P := fun r => 0 ≤ r ∧ r < m) (va_cons (vl_var rfl) (va_cons (vl_var rfl) (va_cons (vl_var rfl) va_nil))) fun Q E q => ⟨a, ds, k, m, rfl, hS, hk, by omega, q⟩) (fun p r hp hr => by omega)) (fun n hn => ?_)
    refine q_asgI (P := fun _ => True) (vi_I0 (vi_of vl_c) (vi_call (P := fun r => 0 ≤ r ∧ r < 9) (va_cons (vl_var rfl) (va_cons (vl_I0 (vl_var rfl) vl_c) (va_cons vl_c va_nil))) fun Q E q => ⟨a, ds, k + 1, 9, rfl, hS, by omega, by decide, q⟩) (fun p r hp hr => trivial)) (fun dn _ => ?_)
    refine q_lnew fun o no => ?_
    refine q_forR (n := n) (va_cons (vl_var rfl) va_nil) ⟨by omega, by omega⟩
      (fun i σ H3 => ∃ y6 y7 y8 xs ls, σ = [some (.ref a), some (.int k), some (.int m), some (.int n), some (.int dn), some (.ref o), y6, y7, y8] ∧ H3 o = some (.lst xs) ∧ Same H (but H3 o) ∧ DpAll K (but H3 o) xs (ls.map lnkD) ∧ LsAt n i 0 ls ∧ ls.length ≤ i * 40)
      ⟨none, none, none, [], [], rfl, upd_same, same_but (same_upd no) no, .nil, .nil, by simp⟩ (fun i σ H3 hi hP => ?_) (fun σ H3 hP => ?_)
    · obtain ⟨y6, y7, y8, xs, ls, rfl, ho, sm, hx, hl, hlen⟩ := hP
      refine g_forR2 (lo := (i : Int) + 1) (n := n) (va_cons (vl_I0 (vl_var rfl) vl_c) (va_cons (vl_var rfl) va_nil)) ⟨by omega, by omega, by omega, by omega⟩
        (fun j σ H3 => ∃ y7 y8 xs ls, σ = [some (.ref a), some (.int k), some (.int m), some (.int n), some (.int dn), some (.ref o), some (.int i), y7, y8] ∧ H3 o = some (.lst xs) ∧ Same H (but H3 o) ∧ DpAll K (but H3 o) xs (ls.map lnkD) ∧ LsAt n i ((i : Int) + 1 + j) ls ∧ ls.length ≤ i * 40 + j)
        ⟨y7, y8, xs, ls, rfl, ho, sm, hx, hl.mono (.inr ⟨rfl, by omega⟩), hlen⟩ (fun j σ H3 hj hP => ?_) (fun σ H3 hP => ?_)
      · obtain ⟨y7, y8, xs, ls, rfl, ho, sm, hx, hl, hlen⟩ := hP
        have sH : Same H H3 := sm.trans but_same
        refine q_asgI (P := fun r => 0 ≤ r ∧ r ≤ 68000) ?_ (fun cell hc => ?_)
        · refine vi_I0 (P1 := fun r => 0 ≤ r ∧ r ≤ 67200) (P2 := fun r => r = 17 * ((i : Int) + 1 + j)) (vi_I0 (P1 := fun r => 0 ≤ r ∧ r < 65536) (P2 := fun r => r = 41 * (i : Int)) (vi_call (va_cons (vl_var rfl) (va_cons (x := .int (k + 2 + ((i : Int) * 5 + ((i : Int) + 1 + j) * 3) % 23)) ?_ (va_cons vl_c va_nil))) fun Q E q => ⟨a, ds, k + 2 + ((i : Int) * 5 + ((i : Int) + 1 + j) * 3) % 23, 65536, rfl, sH.seq hS, by omega, by decide, q⟩) (vi_of ?_) (fun p r hp hr => by omega)) (vi_of ?_) (fun p r hp hr => by omega)
          · exact vl_I0 (vl_I0 (vl_var rfl) vl_c) (vl_I (vl_int1 (vl_I0 (vl_I (vl_var rfl) vl_c (.inr ⟨by decide, by decide⟩)) (vl_I (vl_var rfl) vl_c (.inr ⟨by decide, by decide⟩)))) vl_c (by decide))
          · exact vl_I vl_c (vl_var rfl) (.inl ⟨by decide, by decide⟩)
          · exact vl_I vl_c (vl_var rfl) (.inl ⟨by decide, by decide⟩)
        refine g_if (b := decide (cell % 11 < dn)) (an_test (vl_I0 (vl_I (vl_int1 (vl_var rfl)) vl_c (by decide)) (vl_var rfl))) (fun _ => ?_) (fun _ => ?_)
        · refine ⟨.ref o, rfl, .inl ⟨rfl, _, .inl (.inl ho)⟩, .int i, rfl, .int ((i : Int) + 1 + j), rfl, ?_⟩
          refine ⟨.int cell, rfl, cell, 11, rfl, rfl, ⟨by decide, by decide⟩, .inl ⟨cell / 11, rfl, cell / 11, rfl, by omega, by omega, fun H5 t s5 ht => ?_⟩⟩
          refine ⟨.int cell, rfl, cell, 5, rfl, rfl, ⟨by decide, by decide⟩, .inl ⟨cell / 5, rfl, .int i, rfl, cell / 5, (i : Int), rfl, rfl, cell / 5 + (i : Int), rfl, by omega, by omega, fun H6 u s6 hu => ?_⟩⟩
          refine ⟨by show 4 ≤ sizeLine; decide, fun T nT => ?_⟩
          have s36 : Same H3 H6 := s5.trans s6
          have ho6 := s36 _ _ ho
          have nTo : o ≠ T := ne_of_none ho6 nT
          have s7 : Same H6 (upd H6 T (.tup [.int i, .int ((i : Int) + 1 + j), oV t, oV u])) := same_upd nT
          refine ⟨o, xs, .ref T, rfl, rfl, s7 _ _ ho6, ?_, ?_⟩
          · rw [DpAll.len hx, List.length_map]
            exact Nat.lt_of_le_of_lt (show ls.length ≤ 10000 by omega) (by decide)
          · have sb : Same (but H3 o) (but (upd (upd H6 T (.tup [.int i, .int ((i : Int) + 1 + j), oV t, oV u])) o (.lst (xs ++ [.ref T]))) o) := by
              rw [but_upd]
              exact but_mono (s36.trans s7)
            refine ⟨_, _, xs ++ [.ref T], ls ++ [⟨i, (i : Int) + 1 + j, t, u⟩], rfl, upd_same, sm.trans sb, ?_, ?_, ?_⟩
            · rw [List.map_append]
              refine DpAll.app (DpAll.to hx sb) (DpAll.one (Dp.lnk (l := ⟨i, (i : Int) + 1 + j, t, u⟩) (.of ?_)))
              rw [but_upd, but_ne nTo.symm, upd_same]
              rfl
            · rw [show (i : Int) + 1 + ((j + 1 : Nat) : Int) = (i : Int) + 1 + j + 1 by omega]
              exact hl.app (by omega) (by omega) (by omega) ht hu
            · rw [List.length_append]
              show ls.length + 1 ≤ i * 40 + (j + 1)
              omega
        · exact ⟨_, _, xs, ls, rfl, ho, sm, hx, hl.mono (.inr ⟨rfl, by omega⟩), by omega⟩
      · obtain ⟨y7, y8, xs, ls, rfl, ho, sm, hx, hl, hlen⟩ := hP
        exact ⟨_, _, _, xs, ls, rfl, ho, sm, hx, hl.mono (.inl (by omega)), by omega⟩
    · obtain ⟨y6, y7, y8, xs, ls, rfl, ho, sm, hx, hl, hlen⟩ := hP
      refine ⟨.int n, rfl, .ref o, rfl, by show 2 ≤ sizeLine; decide, fun T nT => ?_⟩
      have s3 : Same H3 (upd H3 T (.tup [.int n, .ref o])) := same_upd nT
      exact q _ _ ⟨n, ls⟩ ((sm.trans but_same).trans s3) ⟨T, o, xs, rfl, upd_same, s3 _ _ ho, DpAll.to hx (but_same.trans s3)⟩ ⟨by show 1 ≤ n; omega, by show n ≤ 40; omega, hl.ok, hl.lt, by show ls.length ≤ 1600; omega⟩ (by show n ≤ m; omega)
/-- the second of a tuple of two ints -/
def sndOf (H : Hp) : V → Int
  | .ref t => match H t with
    | some (.tup [_, .int k]) => k
    | _ => 0
  | _ => 0
theorem sndOf_eq {H : Hp} {t : Addr} {x : V} {k : Int} (h : H t = some (.tup [x, .int k])) : sndOf H (.ref t) = k := by
  show (match H t with
    | some (.tup [_, .int k]) => k
    | _ => 0) = k
  rw [h]
theorem ok_order2 {f : Addr} {fd : FuncData} (F : Fun K "_law_order" "_law_order" sOrder2 f fd) (c_law_at : Kal P w K mg base 1 "_law_at" ["draws", "k", "many"] (spAt K)) (mr : mg "range" = none) (mi : mg "int" = none) (mo : mg "sorted" = none) : FnOk P w K mg base CX0 2 f fd ["draws", "first", "count"] (spOrder K) := by
  refine F.ok scOrder2 (fun vs H Q E h => ?_) (fun cdv A outer s H vs Q E hr h => ?_)
  · obtain ⟨d, ds, k, n, rfl, _⟩ := h
    rfl
  · obtain ⟨d, ds, k, n, rfl, hS, hk, hn0, hn40, q⟩ := h
    refine ⟨_, pss_cons (ps_set (i := 3) scOrder2.nd rfl (.inl rfl) (pe_callB cr_sortedP (by rfl) mo (by decide +kernel) (pa_cons (pe_lc (own := [("k", 5)]) (g := gName 5) (tt := tYes) (te := (tTup (tCons (tOp (rI0 fun i j => .int (Builtin.bitAnd i j)) (tOp (rI (fun i j => (-18446744073709551616 < i ∧ i < 18446744073709551616) ∨ (-18446744073709551616 < j ∧ j < 18446744073709551616)) fun i j => .int (i * j)) (tCall (spAt K) [] E0 (tCons (tVar 0) (tCons (tOp (rI0 fun i j => .int (i + j)) (tVar 1) (tOp (rI (fun _ j => 0 < j) fun i j => .int (i % j)) (tCB (fun xs H Q => (∃ i, xs = [V.int i] ∧ Q (V.int i) H) ∨ ∃ k, xs = [V.bl k] ∧ Q (V.int (if k then 1 else 0)) H) (tCons (tVar 5) tNil)) (tC (.int 9)))) (tCons (tC (.int 65536)) tNil)))) (tOp (rI0 fun i j => .int (i + j)) (tVar 5) (tC (.int 1)))) (tC (.int 1023))) (tCons (tVar 5) tNil)))) (by rfl) scOrder2.nd (pi_range1 (by rfl) mr (pa_cons (pv 2) pa_nil)) (blkOk_by (own := [("k", 5)]) (N := ["draws", "first", "count", "rows", "key", "k"]) (sc := defScope sOrder2) (by decide +kernel)) (fun _ _ _ _ _ => pg_name (i := 5) scOrder2.nd rfl (Or.inl rfl)) (fun _ _ _ _ _ => by exact pts_nil) (fun _ _ _ _ _ => by exact (pe_tup (pa_cons (pe_op op_and (pe_op op_mul (pe_k c_law_at hr (by first | decide | omega) (by rfl) (pa_cons (pv 0) (pa_cons (pe_op op_add (pv 1) (pe_op op_mod (pe_callTy call_int1 (by rfl) mi (by decide +kernel) (pa_cons (pv 5) pa_nil)) pe_int)) (pa_cons pe_int pa_nil)))) (pe_op op_add (pv 5) pe_int)) pe_int) (pa_cons (pv 5) pa_nil))))) pa_nil)))
      (pss_one (ps_ret (pe_lc (own := [("key", 4), ("k", 5)]) (g := gTup K 2 (gCons (gName 4) (gCons (gName 5) (gNil)))) (tt := tYes) (te := (tVar 5)) (by rfl) scOrder2.nd (pi_list (pv 3)) (blkOk_by (own := [("key", 4), ("k", 5)]) (N := ["draws", "first", "count", "rows", "key", "k"]) (sc := defScope sOrder2) (by decide +kernel)) (fun _ _ _ _ _ => pg_tup rfl (pgs_cons (pg_name (i := 4) scOrder2.nd rfl (Or.inl rfl)) (pgs_cons (pg_name (i := 5) scOrder2.nd rfl (Or.inl rfl)) pgs_nil))) (fun _ _ _ _ _ => by exact pts_nil) (fun _ _ _ _ _ => by exact (pv 5))))), ?_⟩
    refine q_asgE ?_
    refine ⟨.int n, rfl, n, rfl, by omega, by omega, fun D nD => lc_range (lo := 0) (n := n.toNat) (fun i H' => ∃ zs : List V, H' D = some (.lst zs) ∧ Same H (but H' D) ∧ zs.length = i ∧ ∀ j x, zs[j]? = some x → ∃ t key, x = .ref t ∧ but H' D t = some (.tup [.int key, .int (j : Nat)])) ⟨[], upd_same, same_but (same_upd nD) nD, rfl, fun j x e => by simp at e⟩ (fun i H2 hi hP => ?_) (fun H2 hP => ?_)⟩
    · obtain ⟨zs, hD, s2, hz, hA⟩ := hP
      have sH := s2.trans but_same
      rw [Int.zero_add]
      refine ⟨rfl, iteT (B := ∃ zs : List V, H2 D = some (.lst zs) ∧ Same H (but H2 D) ∧ zs.length = i + 1 ∧ ∀ (j : Nat) x, zs[j]? = some x → ∃ t key, x = .ref t ∧ but H2 D t = some (.tup [.int key, .int (j : Nat)])) ?_⟩
      refine ⟨.ref d, rfl, ?_⟩
      refine (vl_I0 (vl_var rfl) (vl_I (vl_int1 (vl_var rfl)) vl_c (by decide))) _ ⟨d, ds, k + (i : Int) % 9, 65536, rfl, sH.seq hS, by omega, by decide, fun r hr => ?_⟩
      refine ⟨.int i, rfl, (i : Int), 1, rfl, rfl, r, (i : Int) + 1, rfl, rfl, .inl ⟨by omega, by omega⟩, _, _, rfl, rfl, .int i, rfl, by show 2 ≤ sizeLine; decide, fun T nT => ?_⟩
      dsimp only
      generalize Builtin.bitAnd (r * ((i : Int) + 1)) 1023 = key
      have DT : D ≠ T := ne_of_none hD nT
      have sT : Same H2 (upd H2 T (.tup [.int key, .int i])) := same_upd nT
      refine ⟨zs, sT _ _ hD, ?_, zs ++ [.ref T], upd_same, ?_, ?_, fun j x hj => ?_⟩
      · exact Nat.lt_of_le_of_lt (m := 10000) (by omega) (by decide)
      · rw [but_upd]
        exact s2.trans (but_mono sT)
      · rw [List.length_append, hz]
        rfl
      · rw [but_upd]
        by_cases hji : j < zs.length
        · rw [List.getElem?_append_left hji] at hj
          obtain ⟨t, key', h1, h2⟩ := hA j x hj
          exact ⟨t, key', h1, but_mono sT _ _ h2⟩
        · rw [List.getElem?_append_right (by omega)] at hj
          have e0 : j - zs.length = 0 := by
            have := (List.getElem?_eq_some_iff.mp hj).1
            simp at this
            omega
          rw [e0] at hj
          cases Option.some.inj hj
          refine ⟨T, key, rfl, ?_⟩
          rw [but_ne DT.symm, upd_same, show j = i by omega]
    · obtain ⟨zs, hD, s2, hz, hA⟩ := hP
      have sH := s2.trans but_same
      refine ⟨D, zs, rfl, .of hD, fun x hx => ?_, fun ys p hp np => ?_⟩
      · obtain ⟨j, hj, e⟩ := List.getElem_of_mem hx
        obtain ⟨t, key, h1, h2⟩ := hA j x (by rw [List.getElem?_eq_getElem hj, e])
        exact ⟨t, key, (j : Nat), h1, but_same _ _ h2⟩
      · have sp : Same H2 (upd H2 p (.lst ys)) := same_upd np
        have perm : OrdOk n (ys.map (sndOf H2)) := by
          unfold OrdOk
          refine (hp.map _).trans ?_
          have e : zs.map (sndOf H2) = rng n := by
            refine List.ext_getElem? fun j => ?_
            rw [List.getElem?_map]
            cases hj : zs[j]? with
            | none =>
              have := List.getElem?_eq_none_iff.mp hj
              rw [List.getElem?_eq_none (by rw [len_rng]; omega)]
              rfl
            | some x =>
              have hjl := (List.getElem?_eq_some_iff.mp hj).1
              obtain ⟨t, key, h1, h2⟩ := hA j x hj
              subst h1
              have e2 : sndOf H2 (.ref t) = (j : Int) := sndOf_eq (but_same _ _ h2)
              rw [List.getElem?_eq_getElem (by rw [len_rng]; omega), rng_get]
              show some (sndOf H2 (.ref t)) = _
              rw [e2]
          rw [e]
        have all : ∀ x ∈ ys, ∃ t key, x = .ref t ∧ H2 t = some (.tup [.int key, .int (sndOf H2 x)]) := fun x hx => by
          obtain ⟨j, hj, e⟩ := List.getElem_of_mem (hp.mem_iff.mp hx)
          obtain ⟨t, key, h1, h2⟩ := hA j x (by rw [List.getElem?_eq_getElem hj, e])
          subst h1
          have h3 := but_same _ _ h2
          refine ⟨t, key, rfl, ?_⟩
          rw [sndOf_eq h3]
          exact h3
        refine ⟨.ref p, rfl, p, rfl, ⟨_, .of upd_same⟩, fun D2 nD2 => lc_list (K := K) (a := p) (xs := ys) (fun i H' => H' D2 = some (.lst (((ys.take i).map (sndOf H2)).map V.int)) ∧ Same (upd H2 p (.lst ys)) H') ⟨upd_same, same_upd nD2⟩ (fun i H' _ hP => .of (hP.2 _ _ upd_same)) (fun i x H' hi hP => ?_) (fun H' hP => ?_)⟩
        · obtain ⟨hD2, s'⟩ := hP
          obtain ⟨t, key, h1, h2⟩ := all x (List.mem_of_getElem? hi)
          have hil := (List.getElem?_eq_some_iff.mp hi).1
          have yl : ys.length ≤ 40 := by
            rw [hp.length_eq]
            omega
          refine ⟨t, _, h1, .of ((sp.trans s') _ _ h2), rfl, _, _, rfl, _, _, rfl, rfl, rfl, iteT (B := H' D2 = some (.lst (((ys.take (i + 1)).map (sndOf H2)).map V.int)) ∧ Same (upd H2 p (.lst ys)) H') ⟨_, rfl, _, hD2, ?_, ?_, same_upd' s' nD2⟩⟩
          · rw [List.length_map, List.length_map, List.length_take]
            exact Nat.lt_of_le_of_lt (m := 10000) (by omega) (by decide)
          · rw [upd_same, take_snoc hi, List.map_append, List.map_append]
            rfl
        · obtain ⟨hD2, s'⟩ := hP
          rw [List.take_length] at hD2
          exact q H' D2 _ ((sH.trans sp).trans s') (Same.free (sH.trans sp) nD2) hD2 perm
end
/-! ### a list of lists that are changed -/
structure NearL (G H : Hp) (o : Addr) (n : Nat) (refs : List V) (near : Int → List Int) : Prop where
  ho : H o = some (.lst refs)
  len : refs.length = n
  row : ∀ k : Nat, k < n → ∃ a, refs[k]? = some (.ref a) ∧ G a = none ∧ a ≠ o ∧ H a = some (.lst ((near k).map V.int))
  inj : ∀ (i j : Nat) (a : Addr), refs[i]? = some (.ref a) → refs[j]? = some (.ref a) → i = j
section
variable {G H H' : Hp} {o : Addr} {n : Nat} {refs : List V} {near : Int → List Int}
theorem NearL.to (h : NearL G H o n refs near) (s : Same H H') : NearL G H' o n refs near := ⟨s _ _ h.ho, h.len, fun k hk => let ⟨a, h1, h2, h3, h4⟩ := h.row k hk; ⟨a, h1, h2, h3, s _ _ h4⟩, h.inj⟩
theorem NearL.app (h : NearL G H o n refs near) {k : Nat} {a : Addr} {b : Int} (ha : refs[k]? = some (.ref a)) (hk : k < n) (hH : H a = some (.lst ((near k).map V.int))) : NearL G (upd H a (.lst ((near k).map V.int ++ [.int b]))) o n refs (fun x => if x = (k : Int) then near k ++ [b] else near x) := by
  obtain ⟨a', h1, h2, h3, h4⟩ := h.row k hk
  cases Option.some.inj (ha.symm.trans h1)
  refine ⟨by rw [upd_ne h3.symm]; exact h.ho, h.len, fun j hj => ?_, h.inj⟩
  obtain ⟨c, c1, c2, c3, c4⟩ := h.row j hj
  refine ⟨c, c1, c2, c3, ?_⟩
  by_cases e : j = k
  · subst e
    cases Option.some.inj (c1.symm.trans ha)
    rw [upd_same, if_pos rfl, List.map_append]
    rfl
  · have ne : c ≠ a := fun z => by
      subst z
      exact e (h.inj _ _ _ c1 ha)
    rw [upd_ne ne, if_neg (fun z => e (by omega))]
    exact c4
theorem NearL.put (h : NearL G H o n refs near) {k : Nat} {b : Addr} {ns : List Int} (s : Same H H') (hk : k < n) (nb : H b = none) (eb : H' b = some (.lst (ns.map V.int))) (nG : G b = none) : NearL G (upd H' o (.lst (refs.set k (.ref b)))) o n (refs.set k (.ref b)) (fun x => if x = (k : Int) then ns else near x) := by
  have bo : b ≠ o := (ne_of_none h.ho nb).symm
  have old : ∀ (j : Nat) (a : Addr), refs[j]? = some (.ref a) → j < n → a ≠ b := fun j a e hj z => by
    obtain ⟨c, c1, _, _, c4⟩ := h.row j hj
    cases Option.some.inj (e.symm.trans c1)
    rw [z, nb] at c4
    cases c4
  refine ⟨upd_same, by rw [List.length_set]; exact h.len, fun j hj => ?_, fun i j a e1 e2 => ?_⟩
  · by_cases e : j = k
    · subst e
      refine ⟨b, List.getElem?_set_self (by rw [h.len]; exact hk), nG, bo, ?_⟩
      rw [upd_ne bo, if_pos rfl]
      exact eb
    · obtain ⟨c, c1, c2, c3, c4⟩ := h.row j hj
      refine ⟨c, by rw [List.getElem?_set_ne (fun z => e z.symm)]; exact c1, c2, c3, ?_⟩
      rw [upd_ne c3, if_neg (fun z => e (by omega))]
      exact s _ _ c4
  · have il : ∀ {m : Nat}, (refs.set k (.ref b))[m]? = some (.ref a) → m < n := fun {m} e => by
      have := (List.getElem?_eq_some_iff.mp e).1
      rw [List.length_set, h.len] at this
      exact this
    by_cases ei : i = k
    · subst ei
      rw [List.getElem?_set_self (by rw [h.len]; exact hk)] at e1
      cases Option.some.inj e1
      by_cases ej : j = i
      · exact ej.symm
      · have := il e2
        rw [List.getElem?_set_ne (fun z => ej z.symm)] at e2
        exact absurd rfl (old j b e2 this)
    · have hi := il e1
      rw [List.getElem?_set_ne (fun z => ei z.symm)] at e1
      by_cases ej : j = k
      · subst ej
        rw [List.getElem?_set_self (by rw [h.len]; exact hk)] at e2
        cases Option.some.inj e2
        exact absurd rfl (old i b e1 hi)
      · rw [List.getElem?_set_ne (fun z => ej z.symm)] at e2
        exact h.inj _ _ _ e1 e2
theorem NearL.congr {near' : Int → List Int} (h : NearL G H o n refs near) (e : ∀ k : Nat, k < n → near k = near' k) : NearL G H o n refs near' := ⟨h.ho, h.len, fun k hk => let ⟨a, h1, h2, h3, h4⟩ := h.row k hk; ⟨a, h1, h2, h3, by rw [← e k hk]; exact h4⟩, h.inj⟩
end
/-! ### pairs by taking places out -/
def NearI (N : Net) (os : List Int) (i : Nat) (near : Int → List Int) : Prop := ∀ x y, x ∈ os → y ∈ os → i ≤ posOf x os → i ≤ posOf y os → (y ∈ near x ↔ x ≠ y ∧ (adj0 N.ls x y = true ∨ ∃ w, posOf w os < i ∧ PairP N.ls os w x ∧ PairP N.ls os w y))
section
variable {N : Net} {os : List Int} {i : Nat} {near : Int → List Int} {u : Int}
theorem near_up (ok : NetOk N) (oo : OrdOk N.n os) (h : NearI N os i near) (hu : os[i]? = some u) {x : Int} (hx : x ∈ os) (lt : i < posOf x os) : x ∈ near u ↔ PairP N.ls os u x := by
  have hp := posOf_get oo.nodup hu
  rw [h u x (List.mem_of_getElem? hu) hx (by omega) (by omega), pair_rec ok oo]
  constructor
  · rintro ⟨_, h1 | ⟨w, _, h2, h3⟩⟩
    · exact ⟨by omega, .inl h1⟩
    · exact ⟨by omega, .inr ⟨w, h2, h3⟩⟩
  · rintro ⟨_, h1 | ⟨w, h2, h3⟩⟩
    · exact ⟨fun z => by rw [z] at hp; omega, .inl h1⟩
    · have := h2.1
      exact ⟨fun z => by rw [z] at hp; omega, .inr ⟨w, by omega, h2, h3⟩⟩
open Classical in
theorem ups_eq (ok : NetOk N) (oo : OrdOk N.n os) (h : NearI N os i near) (hu : os[i]? = some u) : (os.drop (i + 1)).filter (fun x => decide (x ∈ near u)) = upP N.ls os u := by
  have hp := posOf_get oo.nodup hu
  unfold upP
  have e := List.take_append_drop (i + 1) os
  have e2 : os.filter (fun v => decide (PairP N.ls os u v)) = (os.take (i + 1)).filter (fun v => decide (PairP N.ls os u v)) ++ (os.drop (i + 1)).filter (fun v => decide (PairP N.ls os u v)) := by
    rw [← List.filter_append, e]
  have e3 : (os.take (i + 1)).filter (fun v => decide (PairP N.ls os u v)) = [] := by
    rw [List.filter_eq_nil_iff]
    intro x hx
    rw [decide_eq_true_eq]
    intro p
    obtain ⟨j, hj, ej⟩ := List.getElem_of_mem hx
    rw [List.length_take] at hj
    have hg : os[j]? = some x := by
      rw [List.getElem?_eq_getElem (by omega), ← ej, List.getElem_take]
    have := posOf_get oo.nodup hg
    have := p.1
    omega
  rw [e2, e3, List.nil_append]
  refine List.filter_congr fun x hx => ?_
  rw [Bool.eq_iff_iff, decide_eq_true_eq, decide_eq_true_eq]
  obtain ⟨j, hj, ej⟩ := List.getElem_of_mem hx
  rw [List.length_drop] at hj
  have hg : os[i + 1 + j]? = some x := by
    rw [List.getElem?_eq_getElem (by omega), ← ej, List.getElem_drop]
  have := posOf_get oo.nodup hg
  exact near_up ok oo h hu (List.mem_of_getElem? hg) (by omega)
def nearUp (near : Int → List Int) (ups : List Int) (x : Int) : List Int := near x ++ ups.filter fun w => !decide (w = x) && !decide (w ∈ near x)
theorem near_step (ok : NetOk N) (oo : OrdOk N.n os) (h : NearI N os i near) (hu : os[i]? = some u) : NearI N os (i + 1) (fun x => if x ∈ upP N.ls os u then nearUp near (upP N.ls os u) x else near x) := fun x y hx hy h1 h2 => by
  have hp := posOf_get oo.nodup hu
  have hI := h x y hx hy (by omega) (by omega)
  have key : (∃ w, posOf w os < i + 1 ∧ PairP N.ls os w x ∧ PairP N.ls os w y) ↔ (∃ w, posOf w os < i ∧ PairP N.ls os w x ∧ PairP N.ls os w y) ∨ (PairP N.ls os u x ∧ PairP N.ls os u y) := by
    constructor
    · rintro ⟨w, hw, p1, p2⟩
      by_cases e : posOf w os = i
      · have : w = u := pos_inj (oo.mem.mpr (p1.ins ok).1) (List.mem_of_getElem? hu) (by omega)
        subst this
        exact .inr ⟨p1, p2⟩
      · exact .inl ⟨w, by omega, p1, p2⟩
    · rintro (⟨w, hw, p⟩ | p)
      · exact ⟨w, by omega, p⟩
      · exact ⟨u, by omega, p⟩
  rw [key]
  show y ∈ (if x ∈ upP N.ls os u then nearUp near (upP N.ls os u) x else near x) ↔ _
  by_cases c : x ∈ upP N.ls os u
  · rw [if_pos c]
    unfold nearUp
    rw [List.mem_append, List.mem_filter, Bool.and_eq_true, Bool.not_eq_true', Bool.not_eq_true', decide_eq_false_iff_not, decide_eq_false_iff_not, mem_upP ok oo, hI]
    have cx := (mem_upP ok oo).mp c
    constructor
    · rintro (⟨h1, h2 | h2⟩ | ⟨h1, h2, _⟩)
      · exact ⟨h1, .inl h2⟩
      · exact ⟨h1, .inr (.inl h2)⟩
      · exact ⟨fun z => h2 z.symm, .inr (.inr ⟨cx, h1⟩)⟩
    · rintro ⟨h1, h2 | h2 | h2⟩
      · exact .inl ⟨h1, .inl h2⟩
      · exact .inl ⟨h1, .inr h2⟩
      · by_cases d : adj0 N.ls x y = true ∨ ∃ w, posOf w os < i ∧ PairP N.ls os w x ∧ PairP N.ls os w y
        · exact .inl ⟨h1, d⟩
        · exact .inr ⟨h2.2, fun z => h1 z.symm, fun z => d z.2⟩
  · rw [if_neg c, hI]
    have cx : ¬ PairP N.ls os u x := fun p => c ((mem_upP ok oo).mpr p)
    constructor
    · rintro ⟨h1, h2 | h2⟩
      · exact ⟨h1, .inl h2⟩
      · exact ⟨h1, .inr (.inl h2)⟩
    · rintro ⟨h1, h2 | h2 | h2⟩
      · exact ⟨h1, .inl h2⟩
      · exact ⟨h1, .inr h2⟩
      · exact absurd h2.1 cx
end
/-! ### lists of pairs -/
noncomputable def pairsL (ls : List Lnk) (os : List Int) : List (Int × Int) := os.flatMap fun u => (upP ls os u).map fun v => (u, v)
theorem mem_pairsL {N : Net} {os : List Int} (ok : NetOk N) (oo : OrdOk N.n os) {u v : Int} : (u, v) ∈ pairsL N.ls os ↔ PairP N.ls os u v := by
  unfold pairsL
  rw [List.mem_flatMap]
  constructor
  · rintro ⟨x, hx, h⟩
    obtain ⟨y, hy, e⟩ := List.mem_map.mp h
    cases e
    exact (mem_up.mp hy).2
  · intro h
    exact ⟨u, oo.mem.mpr (h.ins ok).1, List.mem_map.mpr ⟨v, (mem_upP ok oo).mpr h, rfl⟩⟩
/-- a list of new tuples of two ints -/
structure TupsAt (H : Hp) (ts : List V) (L : List (Int × Int)) : Prop where
  len : ts.length = L.length
  at_ : ∀ (i : Nat) (u v : Int), L[i]? = some (u, v) → ∃ t, ts[i]? = some (.ref t) ∧ H t = some (.tup [.int u, .int v])
theorem TupsAt.to {H H' : Hp} {ts : List V} {L : List (Int × Int)} (h : TupsAt H ts L) (s : Same H H') : TupsAt H' ts L := ⟨h.len, fun i u v e => let ⟨t, h1, h2⟩ := h.at_ i u v e; ⟨t, h1, s _ _ h2⟩⟩
def pairD2 (x : Int × Int) : PyData := .tuple [.int x.1, .int x.2]
theorem TupsAt.dp {K : PySem.W.Frag} {H : Hp} : ∀ {ts : List V} {L : List (Int × Int)}, TupsAt H ts L → DpAll K H ts (L.map pairD2)
  | [], [], _ => .nil
  | [], _ :: _, h => absurd h.len (by simp)
  | _ :: _, [], h => absurd h.len (by simp)
  | x :: ts, (u, v) :: L, h => by
    obtain ⟨t, h1, h2⟩ := h.at_ 0 u v rfl
    cases Option.some.inj h1
    exact .cons (.tup (.of h2) (.cons (.int u) (.cons (.int v) .nil))) (TupsAt.dp ⟨Nat.succ.inj h.len, fun i a b e => h.at_ (i + 1) a b e⟩)
theorem pairsL_len {N : Net} {os : List Int} (ok : NetOk N) (oo : OrdOk N.n os) : (pairsL N.ls os).length ≤ 1600 := by
  unfold pairsL
  have h : ∀ xs : List Int, (xs.flatMap fun u => (upP N.ls os u).map fun v => (u, v)).length ≤ xs.length * 40 := by
    intro xs
    induction xs with
    | nil => exact Nat.zero_le _
    | cons x r ih =>
      rw [List.flatMap_cons, List.length_append, List.length_map, List.length_cons, Nat.succ_mul]
      have := up_len (u := x) ok oo
      omega
  have := h os
  have := oo.len
  have := ok.n40
  omega
theorem TupsAt.upd {H : Hp} {ts zs : List V} {L : List (Int × Int)} {D : Addr} {u : HO} (h : TupsAt H ts L) (hD : H D = some (.lst zs)) : TupsAt (L2.upd H D u) ts L := ⟨h.len, fun i a b e => by
  obtain ⟨t, h1, h2⟩ := h.at_ i a b e
  refine ⟨t, h1, ?_⟩
  rw [upd_ne (fun z => by
    rw [z, hD] at h2
    cases h2)]
  exact h2⟩
theorem TupsAt.but {H : Hp} {ts zs : List V} {L : List (Int × Int)} {D : Addr} (h : TupsAt H ts L) (hD : H D = some (.lst zs)) : TupsAt (Ovc.but H D) ts L := ⟨h.len, fun i a b e => by
  obtain ⟨t, h1, h2⟩ := h.at_ i a b e
  refine ⟨t, h1, ?_⟩
  rw [but_ne (fun z => by
    rw [z, hD] at h2
    cases h2)]
  exact h2⟩
theorem TupsAt.app {H : Hp} {ts zs : List V} {L M : List (Int × Int)} (h : TupsAt H ts L) (k : TupsAt H zs M) : TupsAt H (ts ++ zs) (L ++ M) := ⟨by
  rw [List.length_append, List.length_append, h.len, k.len], fun i u v e => by
  by_cases hi : i < L.length
  · rw [List.getElem?_append_left hi] at e
    rw [List.getElem?_append_left (by rw [h.len]; exact hi)]
    exact h.at_ i u v e
  · rw [List.getElem?_append_right (by omega)] at e
    rw [List.getElem?_append_right (by rw [h.len]; omega), h.len]
    exact k.at_ _ u v e⟩
theorem TupsAt.nil {H : Hp} : TupsAt H [] [] := ⟨rfl, fun i u v e => by simp at e⟩
theorem TupsAt.one {H : Hp} {t : Addr} {u v : Int} (h : H t = some (.tup [.int u, .int v])) : TupsAt H [.ref t] [(u, v)] := ⟨rfl, fun i a b e => by
  cases i with
  | zero =>
    cases Option.some.inj e
    exact ⟨t, rfl, h⟩
  | succ i => simp at e⟩
section
variable {K : PySem.W.Frag} {σ : L2.St} {H : Hp} {ta tb te tl : TE} {tr : TA} {D : Ends} {tw : TS} {tt : TT} {x y : V}
/-- [e for x in range(n)], e told by f -/
theorem vn_lcRV {j : Nat} {n : Int} {f : Int → V} (hl : Va tr σ H [.int n]) (h0 : 0 ≤ n) (hz : n ≤ 1000000) (he : ∀ x : Int, 0 ≤ x → x < n → ∀ H', Same H H' → Ve te ((σ.set j none).set j (some (.int x))) H' (f x)) :
    Vn (tLc (iRng1 tr) (gName j) tYes te [j]) σ H ((rng n).map f) := fun Q q => by
  refine hl _ ⟨n, rfl, by omega, by omega, fun D nD => lc_range (lo := 0) (n := n.toNat) (fun i H' => H' D = some (.lst (((List.range i).map fun (i : Nat) => (i : Int)).map f)) ∧ Same H H') ⟨upd_same, same_upd nD⟩ (fun i H2 hi hP => ?_) (fun H2 hP => ?_)⟩
  · obtain ⟨hD, s2⟩ := hP
    rw [Int.zero_add]
    refine ⟨?_, iteT (B := H2 D = some (.lst (((List.range (i + 1)).map fun (i : Nat) => (i : Int)).map f)) ∧ Same H H2) (he i (by omega) (by omega) H2 s2 _ fun H3 s3 => ⟨_, s3 _ _ hD, ?_, ?_, same_upd' (s2.trans s3) nD⟩)⟩
    · show ((σ.set j none).set j (some (V.int i))).set j none = σ.set j none
      rw [List.set_set, List.set_set]
    · rw [List.length_map, List.length_map, List.length_range]
      exact Nat.lt_of_le_of_lt (m := 1000000) (by omega) (by decide)
    · rw [upd_same, List.range_succ, List.map_append, List.map_append]
      rfl
  · obtain ⟨hD, s2⟩ := hP
    exact q D H2 s2 nD hD
theorem ax_neV2 (ha : Ve ta σ H x) (hb : ∀ H', Same H H' → Vl tb σ H' y) (hs : scal x y = true) : Ax (tTest (tOp rNe ta tb)) σ H (!decide (x = y)) := fun Q k => ha _ fun H' s' => hb H' s' _ ⟨hs, _, rfl, k H' s'⟩
theorem q_appT2 {l : Addr} {xs : List V} {i j : Int} (ho : Vl ta σ H (.ref l)) (hl : H l = some (.lst xs)) (hz : xs.length < sizeLine) (k : ∀ T H', Same H H' → H T = none → tw D σ (L2.upd H' l (.lst (xs ++ [.ref T])))) :
    tSeq (tDrop (tBM K "list" rAppend ta (tCons (tTup (tCons (tC (.int i)) (tCons (tC (.int j)) tNil))) tNil))) tw D σ H := ho _ ⟨.inl ⟨rfl, _, .inl (.inl hl)⟩, by show 2 ≤ sizeLine; decide, fun T nT => ⟨l, xs, .ref T, rfl, rfl, same_upd nT _ _ hl, hz, k T _ (same_upd nT) nT⟩⟩
/-- [(u, v) for v in xs] -/
theorem vt_lcG {j : Nat} {u : Int} {ns : List Int} {a : Addr} (hu : ∀ x H', Same H H' → Vl ta ((σ.set j none).set j (some x)) H' (.int u)) (hw : ∀ x, ((σ.set j none).set j (some x))[j]? = some (some x)) (hl : Vl tl σ H (.ref a)) (hx : SqL K H a (ns.map V.int)) (hz : ns.length ≤ 10000) (Q : VK)
    (q : ∀ D H' zs, Same H H' → H D = none → H' D = some (.lst zs) → TupsAt H' zs (ns.map fun v => (u, v)) → Q (.ref D) H') : tLc (iList K tl) (gName j) tYes (tTup (tCons ta (tCons (tVar j) tNil))) [j] σ H Q := by
  refine hl _ ⟨a, rfl, ⟨_, hx⟩, fun D nD => lc_list (K := K) (a := a) (xs := ns.map V.int) (fun k H' => ∃ zs, H' D = some (.lst zs) ∧ Same H H' ∧ TupsAt H' zs ((ns.take k).map fun v => (u, v))) ⟨[], upd_same, same_upd nD, TupsAt.nil⟩ (fun k H' _ hP => hP.choose_spec.2.1.seq hx) (fun k x H' hk hP => ?_) (fun H' hP => ?_)⟩
  · obtain ⟨zs, hD, s', hT⟩ := hP
    rw [List.getElem?_map] at hk
    cases hg : ns[k]? with
    | none =>
      rw [hg] at hk
      cases hk
    | some v =>
      rw [hg] at hk
      cases hk
      refine ⟨?_, iteT (B := ∃ zs, H' D = some (.lst zs) ∧ Same H H' ∧ TupsAt H' zs ((ns.take (k + 1)).map fun v => (u, v))) ((hu _ H' s') _ ⟨_, hw _, by show 2 ≤ sizeLine; decide, fun T nT => ⟨zs, same_upd nT _ _ hD, ?_, zs ++ [.ref T], upd_same, same_upd' (s'.trans (same_upd nT)) nD, ?_⟩⟩)⟩
      · show ((σ.set j none).set j (some (V.int v))).set j none = σ.set j none
        rw [List.set_set, List.set_set]
      · rw [hT.len, List.length_map, List.length_take]
        exact Nat.lt_of_le_of_lt (m := 10000) (by omega) (by decide)
      · rw [take_snoc hg, List.map_append]
        exact ((hT.to (same_upd nT)).app (TupsAt.one upd_same)).upd (same_upd nT _ _ hD)
  · obtain ⟨zs, hD, s', hT⟩ := hP
    rw [List.length_map, List.take_length] at hT
    exact q D H' zs s' nD hD hT
/-- [order[j] for j in range(lo, len(order)) if ..] -/
theorem vn_lcIx {j lo : Nat} {os : List Int} {pb : Int → Bool} (hl : Va tr σ H [.int (lo : Nat), .int (os.length : Nat)]) (hlo : lo ≤ os.length) (hz : os.length ≤ 1000) (ht : ∀ (k : Nat) x, os[k]? = some x → ∀ H', Same H H' → An tt ((σ.set j none).set j (some (.int (k : Nat)))) H' (pb x))
    (he : ∀ (k : Nat) x, os[k]? = some x → ∀ H', Same H H' → Vl te ((σ.set j none).set j (some (.int (k : Nat)))) H' (.int x)) : Vn (tLc (iRng2 tr) (gName j) tt te [j]) σ H (((os.drop lo).filter pb).map V.int) := fun Q q => by
  refine hl _ ⟨(lo : Nat), (os.length : Nat), rfl, ⟨by omega, by omega, by omega, by omega⟩, fun D nD => lc_range (lo := (lo : Nat)) (n := ((os.length : Int) - (lo : Int)).toNat) (fun i H' => H' D = some (.lst ((((os.drop lo).take i).filter pb).map V.int)) ∧ Same H H') ⟨upd_same, same_upd nD⟩ (fun i H2 hi hP => ?_) (fun H2 hP => ?_)⟩
  · obtain ⟨hD, s2⟩ := hP
    have hil : lo + i < os.length := by omega
    have hg : os[lo + i]? = some os[lo + i] := List.getElem?_eq_getElem hil
    have hg2 : (os.drop lo)[i]? = some os[lo + i] := by
      rw [List.getElem?_drop]
      exact hg
    generalize os[lo + i] = n at hg hg2
    have e : ((os.drop lo).take (i + 1)).filter pb = ((os.drop lo).take i).filter pb ++ [n].filter pb := by
      rw [take_snoc hg2]
      exact List.filter_append ..
    have ek : ((lo : Nat) : Int) + (i : Int) = ((lo + i : Nat) : Int) := by omega
    rw [ek]
    refine ⟨?_, ht _ n hg H2 s2 _ ?_⟩
    · show ((σ.set j none).set j (some (V.int ((lo + i : Nat) : Int)))).set j none = σ.set j none
      rw [List.set_set, List.set_set]
    · cases hp : pb n with
      | true =>
        have e2 : [n].filter pb = [n] := by
          rw [List.filter_cons, hp]
          rfl
        refine iteT (B := H2 D = some (.lst ((((os.drop lo).take (i + 1)).filter pb).map V.int)) ∧ Same H H2) (he _ n hg H2 s2 _ ⟨_, hD, ?_, ?_, same_upd' s2 nD⟩)
        · rw [List.length_map]
          have h1 : (((os.drop lo).take i).filter pb).length ≤ os.length := Nat.le_trans (List.length_filter_le _ _) (by rw [List.length_take, List.length_drop]; omega)
          exact Nat.lt_of_le_of_lt (m := 10000) (by omega) (by decide)
        · rw [upd_same, e, e2, List.map_append]
          rfl
      | false =>
        have e2 : [n].filter pb = [] := by
          rw [List.filter_cons, hp]
          rfl
        refine iteF ⟨?_, s2⟩
        rw [e, e2, List.append_nil]
        exact hD
  · obtain ⟨hD, s2⟩ := hP
    rw [List.take_of_length_le (by rw [List.length_drop]; omega)] at hD
    exact q D H2 s2 nD hD
end
abbrev sLPairs : Stmt := topS 23
theorem scLPairs : FnScope ["net", "order", "near", "a", "b", "there", "back", "out", "i", "ups", "v", "j", "w", "k"] ["net", "order"] (defScope sLPairs) := ⟨rfl, rfl, rfl, by decide +kernel, rfl, by decide +kernel, by decide +kernel⟩
def spLPairs (K : PySem.W.Frag) : Sp := fun vs H Q _ => ∃ (v : V) (N : Net) (p : Addr) (os : List Int), vs = [v, .ref p] ∧ Dp K H v (netD N) ∧ NetOk N ∧ SqL K H p (os.map V.int) ∧ OrdOk N.n os ∧ ∀ H' q ts, Same H H' → H q = none → H' q = some (.lst ts) → TupsAt H' ts (pairsL N.ls os) → Q (.ref q) H'
theorem adj_take2 {ls : List Lnk} {i : Nat} {l : Lnk} (h : ls[i]? = some l) {x y : Int} : adj0 (ls.take (i + 1)) x y = true ↔ adj0 (ls.take i) x y = true ∨ (l.a = x ∧ l.b = y) ∨ (l.a = y ∧ l.b = x) := by
  rw [take_snoc h, adj0_iff, adj0_iff]
  constructor
  · rintro ⟨m, hm, e⟩
    rcases List.mem_append.mp hm with hm | hm
    · exact .inl ⟨m, hm, e⟩
    · rw [List.mem_singleton.mp hm] at e
      exact .inr e
  · rintro (⟨m, hm, e⟩ | e)
    · exact ⟨m, List.mem_append.mpr (.inl hm), e⟩
    · exact ⟨l, List.mem_append.mpr (.inr (List.mem_singleton.mpr rfl)), e⟩
section
variable {P : Program} {w : World} {K : PySem.W.Frag} {mg : Str → Option Value} {base : Heap}
theorem ok_lpairs {f : Addr} {fd : FuncData} {k : Nat} (F : Fun K "_law_pairs" "_law_pairs" sLPairs f fd) (ml : mg "len" = none) (mr : mg "range" = none) : FnOk P w K mg base CX0 (k + 1) f fd ["net", "order"] (spLPairs K) := by
  refine F.ok scLPairs (fun vs H Q E h => ?_) (fun cdv A outer s H vs Q E hr h => ?_)
  · obtain ⟨v, N, p, os, rfl, _⟩ := h
    rfl
  · obtain ⟨v, N, p, os, rfl, hN, ok, hS, oo, q⟩ := h
    refine ⟨_, pss_cons (ps_set (i := 2) scLPairs.nd rfl (.inr rfl) (pe_lc (own := [("k", 13)]) (g := gName 13) (tt := tYes) (te := (tLst tNil)) (by rfl) scLPairs.nd (pi_range1 (by rfl) mr (pa_cons (pe_ix ix_tup (pv 0) pe_int (fun _ _ => rfl)) pa_nil)) (blkOk_by (own := [("k", 13)]) (N := ["net", "order", "near", "a", "b", "there", "back", "out", "i", "ups", "v", "j", "w", "k"]) (sc := defScope sLPairs) (by decide +kernel)) (fun _ _ _ _ _ => pg_name (i := 13) scLPairs.nd rfl (Or.inl rfl)) (fun _ _ _ _ _ => by exact pts_nil) (fun _ _ _ _ _ => by exact (pe_lst pa_nil))))
      (pss_cons (ps_for PassesOwn.never rfl (pi_list (pe_ix ix_tup (pv 0) pe_int (fun _ _ => rfl))) (pg_tup rfl (pgs_cons (pg_name (i := 3) scLPairs.nd rfl (.inl rfl)) (pgs_cons (pg_name (i := 4) scLPairs.nd rfl (.inl rfl)) (pgs_cons (pg_name (i := 5) scLPairs.nd rfl (.inl rfl)) (pgs_cons (pg_name (i := 6) scLPairs.nd rfl (.inl rfl)) pgs_nil)))))
      (pss_cons (ps_expr (pe_bm PySem.F.plainAttrs_list PySem.F.slot_list_append PySem.F.type_list_append mt_append (pe_ix ix_list (pv 2) (pv 3) (fun _ _ => rfl)) (pa_cons (pv 4) pa_nil)))
        (pss_one (ps_expr (pe_bm PySem.F.plainAttrs_list PySem.F.slot_list_append PySem.F.type_list_append mt_append (pe_ix ix_list (pv 2) (pv 4) (fun _ _ => rfl)) (pa_cons (pv 3) pa_nil))))))
      (pss_cons (ps_set (i := 7) scLPairs.nd rfl (.inl rfl) (pe_lst pa_nil))
      (pss_cons (ps_for PassesOwn.never rfl (pi_range1 (by rfl) mr (pa_cons (pe_callB call_len_seq (by rfl) ml PySem.boot_len (pa_cons (pv 1) pa_nil)) pa_nil)) (pg_name (i := 8) scLPairs.nd rfl (.inr rfl))
      (pss_cons (ps_setLc (i := 9) (own := [("j", 11)]) (g := gName 11) (tt := (tTest (tOp (rIn K false) (tOp (rIxL K) (tVar 1) (tVar 11)) (tOp (rIxL K) (tVar 2) (tOp (rIxL K) (tVar 1) (tVar 8)))))) (te := (tOp (rIxL K) (tVar 1) (tVar 11))) (by rfl) scLPairs.nd rfl rfl (sw_true rfl rfl rfl (by decide +kernel)) (pi_range2 (by rfl) mr (pa_cons (pe_op op_add (pv 8) pe_int) (pa_cons (pe_callB call_len_seq (by rfl) ml PySem.boot_len (pa_cons (pv 1) pa_nil)) pa_nil))) (blkOk_by (own := [("j", 11)]) (N := ["net", "order", "near", "a", "b", "there", "back", "out", "i", "ups", "v", "j", "w", "k"]) (sc := defScope sLPairs) (by decide +kernel)) (fun _ _ _ _ _ => pg_name (i := 11) scLPairs.nd rfl (Or.inl rfl)) (fun _ _ _ _ _ => by exact (pts_one (pt_cmpR op_in_seq (pe_ix ix_list (pv 1) (pv 11) (fun _ _ => rfl)) (pe_ix ix_list (pv 2) (pe_ix ix_list (pv 1) (pv 8) (fun _ _ => rfl)) (fun _ _ => rfl)) (by rfl)))) (fun _ _ _ _ _ => by exact (pe_ix ix_list (pv 1) (pv 11) (fun _ _ => rfl))))
        (pss_cons (ps_set (i := 7) scLPairs.nd rfl (.inl rfl) (pe_op op_cat (pv 7) (pe_lc (own := [("v", 10)]) (g := gName 10) (tt := tYes) (te := (tTup (tCons (tOp (rIxL K) (tVar 1) (tVar 8)) (tCons (tVar 10) tNil)))) (by rfl) scLPairs.nd (pi_list (pv 9)) (blkOk_by (own := [("v", 10)]) (N := ["net", "order", "near", "a", "b", "there", "back", "out", "i", "ups", "v", "j", "w", "k"]) (sc := defScope sLPairs) (by decide +kernel)) (fun _ _ _ _ _ => pg_name (i := 10) scLPairs.nd rfl (Or.inl rfl)) (fun _ _ _ _ _ => by exact pts_nil) (fun _ _ _ _ _ => by exact (pe_tup (pa_cons (pe_ix ix_list (pv 1) (pv 8) (fun _ _ => rfl)) (pa_cons (pv 10) pa_nil)))))))
        (pss_one (ps_for PassesOwn.never rfl (pi_list (pv 9)) (pg_name (i := 10) scLPairs.nd rfl (.inr rfl))
        (pss_one (ps_asg (pe_op op_cat (pe_ix ix_list (pv 2) (pv 10) (fun _ _ => rfl)) (pe_lc (own := [("w", 12)]) (g := gName 12) (tt := (tAnd (tTest (tOp rNe (tVar 12) (tVar 10))) (tTest (tOp (rIn K true) (tVar 12) (tOp (rIxL K) (tVar 2) (tVar 10)))))) (te := (tVar 12)) (by rfl) scLPairs.nd (pi_list (pv 9)) (blkOk_by (own := [("w", 12)]) (N := ["net", "order", "near", "a", "b", "there", "back", "out", "i", "ups", "v", "j", "w", "k"]) (sc := defScope sLPairs) (by decide +kernel)) (fun _ _ _ _ _ => pg_name (i := 12) scLPairs.nd rfl (Or.inl rfl)) (fun _ _ _ _ _ => by exact (pts_one (PW.pt (pw_and (pt_cmpR op_ne (pv 12) (pv 10) (nomark _)) (pw_and1 (pt_cmpR op_notIn_seq (pv 12) (pe_ix ix_list (pv 2) (pv 10) (fun _ _ => rfl)) (by rfl))))))) (fun _ _ _ _ _ => by exact (pv 12)))) (pg_sub (pv 2) (pv 10) set_list))))))))
      (pss_one (ps_ret (pv 7)))))), ?_⟩
    obtain ⟨np_, c, xs, rfl, hp, hc, hx⟩ := Dp.net_inv hN
    have n1 := ok.n1
    have n40 := ok.n40
    have l16 := ok.len
    have ol := oo.len
    -- near
    refine q_asgE ((vl_ixT (K := K) (vl_var rfl) vl_c hp (atI_nat (j := 0) rfl)) _ ⟨N.n, rfl, by omega, by omega, fun o no => lc_range (lo := 0) (n := N.n.toNat) (fun i H' => ∃ refs, Same H H' ∧ NearL H H' o i refs (fun _ => [])) ⟨[], same_upd no, upd_same, rfl, fun k hk => absurd hk (Nat.not_lt_zero _), fun i j a e => by simp at e⟩ (fun i H2 hi hP => ?_) (fun H2 hP => ?_)⟩)
    · obtain ⟨refs, s2, hL⟩ := hP
      rw [Int.zero_add]
      refine ⟨rfl, iteT (B := ∃ refs, Same H H2 ∧ NearL H H2 o (i + 1) refs (fun _ => [])) ⟨Nat.zero_le _, fun b nb => ?_⟩⟩
      have sb : Same H2 (upd H2 b (.lst [])) := same_upd nb
      have bo : b ≠ o := (ne_of_none hL.ho nb).symm
      refine ⟨refs, sb _ _ hL.ho, ?_, refs ++ [.ref b], same_upd' (s2.trans sb) no, upd_same, ?_, fun k hk => ?_, fun k j a e1 e2 => ?_⟩
      · rw [hL.len]
        exact Nat.lt_of_le_of_lt (m := 10000) (by omega) (by decide)
      · rw [List.length_append, hL.len]
        rfl
      · by_cases e : k < i
        · obtain ⟨a, h1, h2, h3, h4⟩ := hL.row k e
          refine ⟨a, by rw [List.getElem?_append_left (by rw [hL.len]; exact e)]; exact h1, h2, h3, ?_⟩
          rw [upd_ne h3]
          exact sb _ _ h4
        · have e : k = i := by omega
          subst e
          refine ⟨b, by rw [List.getElem?_append_right (by rw [hL.len]; exact Nat.le_refl _), hL.len, Nat.sub_self]; rfl, Same.free s2 nb, bo, ?_⟩
          rw [upd_ne bo, upd_same]
          rfl
      · have old : ∀ {m : Nat}, (refs ++ [.ref b])[m]? = some (.ref a) → (m < i ∧ refs[m]? = some (.ref a) ∧ a ≠ b) ∨ (m = i ∧ a = b) := fun {m} e => by
          by_cases hm : m < i
          · rw [List.getElem?_append_left (by rw [hL.len]; exact hm)] at e
            obtain ⟨c, c1, _, _, c4⟩ := hL.row m hm
            cases Option.some.inj (e.symm.trans c1)
            exact .inl ⟨hm, e, fun z => by
              rw [z, nb] at c4
              cases c4⟩
          · rw [List.getElem?_append_right (by rw [hL.len]; omega), hL.len] at e
            have hm2 := (List.getElem?_eq_some_iff.mp e).1
            have e0 : m - i = 0 := by
              have h1 : ([.ref b] : List V).length = 1 := rfl
              omega
            rw [e0] at e
            cases Option.some.inj e
            exact .inr ⟨by omega, rfl⟩
        rcases old e1 with ⟨h1, h2, h3⟩ | ⟨h1, h2⟩
        · rcases old e2 with ⟨g1, g2, g3⟩ | ⟨g1, g2⟩
          · exact hL.inj _ _ _ h2 g2
          · exact absurd g2 h3
        · rcases old e2 with ⟨g1, g2, g3⟩ | ⟨g1, g2⟩
          · exact absurd h2 g3
          · omega
    · obtain ⟨refs, s2, hL⟩ := hP
      have noH := no
      -- near[x], a variable
      have vrow : ∀ {H' : Hp} {refs : List V} {near : Int → List Int} {σ' : L2.St} {te : TE} {x : Int} {a : Addr}, NearL H H' o N.n.toNat refs near → σ'[2]? = some (some (.ref o)) → Vl te σ' H' (.int x) → 0 ≤ x → refs[x.toNat]? = some (.ref a) → Vl (tOp (rIxL K) (tVar 2) te) σ' H' (.ref a) := fun {H' refs near σ' te x a} hL e1 e2 h0 e3 => vl_ixL (vl_var e1) e2 (.of hL.ho) (by
        have := atI_nat e3
        rw [show ((x.toNat : Nat) : Int) = x by omega] at this
        exact this)
      have row : ∀ {H' : Hp} {refs : List V} {near : Int → List Int} {x : Int}, NearL H H' o N.n.toNat refs near → 0 ≤ x → x < N.n → ∃ a, refs[x.toNat]? = some (.ref a) ∧ H a = none ∧ a ≠ o ∧ H' a = some (.lst ((near x).map V.int)) := fun {H' refs near x} hL h0 h1 => by
        have := hL.row x.toNat (by omega)
        rw [show ((x.toNat : Nat) : Int) = x by omega] at this
        exact this
      refine q_forLnk (j1 := 3) (j2 := 4) (j3 := 5) (j4 := 6) (Hb := H) (vl_ixT (vl_var rfl) vl_c (seqT s2 hp) (atI_nat (j := 1) rfl)) hc hx s2
        (fun i σ H3 => ∃ y3 y4 y5 y6 near, σ = [some (.ref np_), some (.ref p), some (.ref o), y3, y4, y5, y6, none, none, none, none, none, none, none] ∧ Same H H3 ∧ NearL H H3 o N.n.toNat refs near ∧ ∀ x : Int, 0 ≤ x → x < N.n → (near x).length ≤ i ∧ ∀ y, y ∈ near x ↔ adj0 (N.ls.take i) x y = true)
        ⟨_, _, _, _, fun _ => [], rfl, s2, hL, fun x _ _ => ⟨Nat.le_refl _, fun y => ⟨fun h => (nomatch h), fun h => (nomatch h)⟩⟩⟩ (fun i σ H3 hP => ?_) (fun i l σ H3 hl hP => ?_) (fun σ H3 hP => ?_)
      · obtain ⟨_, _, _, _, _, _, s3, _⟩ := hP
        exact s3
      · obtain ⟨y3, y4, y5, y6, near, rfl, s3, hL3, hA⟩ := hP
        have hi := (List.getElem?_eq_some_iff.mp hl).1
        have hlk := ok.ok l (List.mem_of_getElem? hl)
        have h0 := hlk.a0
        have hab := hlk.ab
        have hbn := hlk.bn
        obtain ⟨aa, ha1, ha2, ha3, ha4⟩ := row hL3 h0 (show l.a < N.n by omega)
        have hla := (hA l.a h0 (by omega)).1
        have hlb := (hA l.b (by omega) hbn).1
        have e1 : ((l.a.toNat : Nat) : Int) = l.a := by omega
        have e2 : ((l.b.toNat : Nat) : Int) = l.b := by omega
        refine q_app (vrow hL3 rfl (vl_var rfl) h0 ha1) ha4 (vl_var rfl) ?_ ?_
        · rw [List.length_map]
          exact Nat.lt_of_le_of_lt (m := 10000) (by omega) (by decide)
        have hL4 := hL3.app (k := l.a.toNat) (b := l.b) ha1 (by omega) (by rw [e1]; exact ha4)
        rw [e1] at hL4
        have s4 : Same H (upd H3 aa (.lst ((near l.a).map V.int ++ [.int l.b]))) := same_upd' s3 ha2
        generalize upd H3 aa (.lst ((near l.a).map V.int ++ [.int l.b])) = H4 at hL4 s4 ⊢
        obtain ⟨ab, hb1, hb2, hb3, hb4⟩ := row hL4 (show 0 ≤ l.b by omega) hbn
        have nb4 : (if l.b = l.a then near l.a ++ [l.b] else near l.b) = near l.b := if_neg (by omega)
        refine g_app (vrow hL4 rfl (vl_var rfl) (by omega) hb1) hb4 (vl_var rfl) ?_ ?_
        · rw [List.length_map, nb4]
          exact Nat.lt_of_le_of_lt (m := 10000) (by omega) (by decide)
        have hL5 := hL4.app (k := l.b.toNat) (b := l.a) hb1 (by omega) (by rw [e2]; exact hb4)
        rw [e2] at hL5
        refine ⟨_, _, _, _, fun x => if x = l.b then near l.b ++ [l.a] else if x = l.a then near l.a ++ [l.b] else near x, rfl, same_upd' s4 hb2, hL5.congr fun k hk => ?_, fun x hx0 hx1 => ?_⟩
        · show (if (k : Int) = l.b then (if l.b = l.a then near l.a ++ [l.b] else near l.b) ++ [l.a] else if (k : Int) = l.a then near l.a ++ [l.b] else near k) = _
          rw [nb4]
        · obtain ⟨hxl, hxm⟩ := hA x hx0 hx1
          show ((if x = l.b then near l.b ++ [l.a] else if x = l.a then near l.a ++ [l.b] else near x) : List Int).length ≤ i + 1 ∧ ∀ y, y ∈ ((if x = l.b then near l.b ++ [l.a] else if x = l.a then near l.a ++ [l.b] else near x) : List Int) ↔ _
          by_cases e : x = l.b
          · subst e
            rw [if_pos rfl]
            refine ⟨?_, fun y => ?_⟩
            · rw [List.length_append]
              exact Nat.succ_le_succ hxl
            · rw [adj_take2 hl, List.mem_append, List.mem_singleton, hxm y]
              constructor
              · rintro (h | h)
                · exact .inl h
                · exact .inr (.inr ⟨h.symm, rfl⟩)
              · rintro (h | h | h)
                · exact .inl h
                · omega
                · exact .inr h.1.symm
          · rw [if_neg e]
            by_cases e2 : x = l.a
            · subst e2
              rw [if_pos rfl]
              refine ⟨?_, fun y => ?_⟩
              · rw [List.length_append]
                exact Nat.succ_le_succ hxl
              · rw [adj_take2 hl, List.mem_append, List.mem_singleton, hxm y]
                constructor
                · rintro (h | h)
                  · exact .inl h
                  · exact .inr (.inl ⟨rfl, h.symm⟩)
                · rintro (h | h | h)
                  · exact .inl h
                  · exact .inr h.2.symm
                  · omega
            · rw [if_neg e2]
              refine ⟨by omega, fun y => ?_⟩
              rw [adj_take2 hl, hxm y]
              constructor
              · exact .inl
              · rintro (h | h | h)
                · exact h
                · exact absurd h.1.symm e2
                · exact absurd h.2.symm e
      · obtain ⟨y3, y4, y5, y6, near, rfl, s3, hL3, hA⟩ := hP
        rw [List.take_length] at hA
        have hI0 : NearI N os 0 near := fun x y hx hy _ _ => by
          have hxr := oo.mem.mp hx
          rw [(hA x hxr.1 hxr.2).2 y]
          constructor
          · intro h
            exact ⟨(adj0_in ok h).2.2, .inl h⟩
          · rintro ⟨_, h | ⟨w, hw, _⟩⟩
            · exact h
            · exact absurd hw (Nat.not_lt_zero _)
        refine q_lnew fun q0 nq0 => ?_
        have sq0 : Same H3 (upd H3 q0 (.lst [])) := same_upd nq0
        refine q_forR (n := (os.length : Int)) (va_cons (vl_lenI (vl_var rfl) ((s3.trans sq0).seq hS)) va_nil) ⟨by omega, by omega⟩
          (fun i σ H' => ∃ y8 y9 y10 out ys refs near, σ = [some (.ref np_), some (.ref p), some (.ref o), y3, y4, y5, y6, some (.ref out), y8, y9, y10, none, none, none] ∧ Same H H' ∧ H out = none ∧ H' out = some (.lst ys) ∧ TupsAt H' ys ((os.take i).flatMap fun u => (upP N.ls os u).map fun v => (u, v)) ∧ out ≠ o ∧ (∀ k : Nat, k < N.n.toNat → refs[k]? ≠ some (.ref out)) ∧ NearL H H' o N.n.toNat refs near ∧ NearI N os i near ∧ ∀ x : Int, 0 ≤ x → x < N.n → (near x).length ≤ 1600 + 40 * i)
          ⟨_, _, _, q0, [], refs, near, rfl, s3.trans sq0, Same.free s3 nq0, upd_same, TupsAt.nil, (ne_of_none hL3.ho nq0).symm, (fun k hk e => by
            obtain ⟨a, h1, _, _, h4⟩ := hL3.row k hk
            cases Option.some.inj (e.symm.trans h1)
            rw [nq0] at h4
            cases h4), hL3.to sq0, hI0, fun x h0 h1 => by
            have := (hA x h0 h1).1
            omega⟩ (fun i σ H4 hi hP => ?_) (fun σ H4 hP => ?_)
        · obtain ⟨y8, y9, y10, out, ys, refs, near, rfl, s4, nout, eout, hT, outo, outr, hL4, hI, hnl⟩ := hP
          have hil : i < os.length := by omega
          have hg : os[i]? = some os[i] := List.getElem?_eq_getElem hil
          generalize os[i] = u at hg
          have hur := oo.mem.mp (List.mem_of_getElem? hg)
          have hS4 := s4.seq hS
          obtain ⟨au, u1, u2, u3, u4⟩ := row hL4 hur.1 hur.2
          have ulen := up_len (u := u) ok oo
          have eu := ups_eq ok oo hI hg
          -- ups
          refine q_asgN (xs := (upP N.ls os u).map V.int) (by
            rw [← eu]
            exact vn_lcIx (lo := i + 1) (pb := fun x => decide (x ∈ near u)) (va_cons ((vl_I0 (vl_var rfl) vl_c).is (by
              show V.int ((i : Int) + 1) = V.int ((i + 1 : Nat) : Int)
              rfl)) (va_cons (vl_lenI (vl_var rfl) hS4) va_nil)) (by omega) (by omega) (fun k x hk H' s' => an_test (vl_inI (vl_ixI (vl_var rfl) (vl_var rfl) (s'.seq hS4) hk) (vrow (hL4.to s') rfl (vl_ixI (vl_var rfl) (vl_var rfl) (s'.seq hS4) hg) hur.1 u1) (.of (s' _ _ u4)))) (fun k x hk H' s' => vl_ixI (vl_var rfl) (vl_var rfl) (s'.seq hS4) hk)) fun pu H5 s5 npu epu => ?_
          have eout5 := s5 _ _ eout
          -- out
          refine q_asgE ⟨.ref out, rfl, ?_⟩
          refine vt_lcG (K := K) (j := 10) (u := u) (ns := upP N.ls os u) (a := pu) (fun x H' s' => vl_ixI (vl_var rfl) (vl_var rfl) ((s5.trans s').seq hS4) hg) (fun _ => rfl) (vl_var rfl) (.of epu) (by omega) _ fun D H6 zs s6 nD eD hZ => ?_
          refine ⟨out, D, ys, zs, rfl, rfl, s6 _ _ eout5, eD, ?_, fun out2 no2 => ?_⟩
          · rw [hT.len, hZ.len, List.length_map]
            have : ((os.take i).flatMap fun u => (upP N.ls os u).map fun v => (u, v)).length ≤ 1600 := by
              have e : pairsL N.ls os = ((os.take i).flatMap fun u => (upP N.ls os u).map fun v => (u, v)) ++ ((os.drop i).flatMap fun u => (upP N.ls os u).map fun v => (u, v)) := by
                unfold pairsL
                rw [← List.flatMap_append, List.take_append_drop]
              have plen := pairsL_len ok oo
              rw [e, List.length_append] at plen
              omega
            exact Nat.le_trans (show _ ≤ 10000 by omega) (by decide)
          have hT7 : TupsAt (upd H6 out2 (.lst (ys ++ zs))) (ys ++ zs) ((os.take (i + 1)).flatMap fun u => (upP N.ls os u).map fun v => (u, v)) := by
            rw [take_snoc hg, List.flatMap_append]
            have e : ([u].flatMap fun u => (upP N.ls os u).map fun v => (u, v)) = (upP N.ls os u).map fun v => (u, v) := by
              rw [List.flatMap_cons, List.flatMap_nil, List.append_nil]
            rw [e]
            exact ((hT.to (s5.trans s6)).app hZ).to (same_upd no2)
          have s7 : Same H6 (upd H6 out2 (.lst (ys ++ zs))) := same_upd no2
          have s47 := (s5.trans s6).trans s7
          have hL7 := hL4.to s47
          have hL6 := hL4.to (s5.trans s6)
          have out2o : out2 ≠ o := (ne_of_none hL6.ho no2).symm
          have out2r : ∀ k : Nat, k < N.n.toNat → refs[k]? ≠ some (.ref out2) := fun k hk e => by
            obtain ⟨a, h1, _, _, h4⟩ := hL6.row k hk
            cases Option.some.inj (e.symm.trans h1)
            rw [no2] at h4
            cases h4
          have epu7 := s7 _ _ (s6 _ _ epu)
          have puo : pu ≠ o := (ne_of_none hL4.ho npu).symm
          have puG : H pu = none := Same.free s4 npu
          have out2G : H out2 = none := Same.free (s4.trans (s5.trans s6)) no2
          have pur : ∀ k : Nat, k < N.n.toNat → refs[k]? ≠ some (.ref pu) := fun k hk e => by
            obtain ⟨a, h1, _, _, h4⟩ := hL4.row k hk
            cases Option.some.inj (e.symm.trans h1)
            rw [npu] at h4
            cases h4
          have eout7 : upd H6 out2 (.lst (ys ++ zs)) out2 = some (.lst (ys ++ zs)) := upd_same
          have s07 := s4.trans s47
          generalize upd H6 out2 (.lst (ys ++ zs)) = H7 at hT7 s47 hL7 epu7 eout7 s07 ⊢
          clear hL6 s7 hT
          -- for v in ups
          refine g_forL (xs := (upP N.ls os u).map V.int) (vl_var rfl) (.of epu7)
            (fun t σ H' => ∃ y10 refs, σ = [some (.ref np_), some (.ref p), some (.ref o), y3, y4, y5, y6, some (.ref out2), some (.int i), some (.ref pu), y10, none, none, none] ∧ Same H H' ∧ Same (but H7 o) (but H' o) ∧ (∀ k : Nat, k < N.n.toNat → refs[k]? ≠ some (.ref out2)) ∧ NearL H H' o N.n.toNat refs (fun x => if x ∈ (upP N.ls os u).take t then nearUp near (upP N.ls os u) x else near x))
            ⟨_, refs, rfl, s07, Same.refl _, out2r, hL7.congr fun k hk => by rw [List.take_zero, if_neg List.not_mem_nil]⟩ (fun t σ H' hP => ?_) (fun t y σ H' hy hP => ?_) (fun σ H' hP => ?_)
          · obtain ⟨_, _, _, _, s', _⟩ := hP
            exact .of (but_same _ _ (s' _ _ (by rw [but_ne puo]; exact epu7)))
          · obtain ⟨y10, refs, rfl, s', sb, hr2, hL'⟩ := hP
            rw [List.getElem?_map] at hy
            cases hgz : (upP N.ls os u)[t]? with
            | none =>
              rw [hgz] at hy
              cases hy
            | some z =>
              rw [hgz] at hy
              cases hy
              have hzu := List.mem_of_getElem? hgz
              have hzr := (((mem_upP ok oo).mp hzu).ins ok).2
              have hzt : z ∉ (upP N.ls os u).take t := fun h => by
                have hn := up_nodup (u := u) (N := N) oo
                have e := split_at hgz
                rw [e] at hn
                exact (List.nodup_append.mp hn).2.2 z h z List.mem_cons_self rfl
              obtain ⟨az, z1, z2, z3, z4⟩ := row hL' hzr.1 hzr.2
              rw [if_neg hzt] at z4
              have hnz := hnl z hzr.1 hzr.2
              have epu' := but_same _ _ (sb _ _ (show but H7 o pu = _ by rw [but_ne puo]; exact epu7))
              have fl : ((upP N.ls os u).filter fun w => !decide (w = z) && !decide (w ∈ near z)).length ≤ 40 := Nat.le_trans (List.length_filter_le _ _) ulen
              refine (vn_catL (ms := near z) (ns := (upP N.ls os u).filter fun w => !decide (w = z) && !decide (w ∈ near z)) (vrow hL' rfl (vl_var rfl) hzr.1 z1) z4 (vn_lcI (K := K) (j := 12) (ns := upP N.ls os u) (pb := fun w => !decide (w = z) && !decide (w ∈ near z)) (f := V.int) (vx_list (vl_var rfl) (.of epu')) (by omega) (fun x hx H'' s'' => an_and ((an_test (vl_ne (vl_var rfl) (vl_var rfl) rfl)).is (by rw [dI])) fun _ => an_test (vl_notInI (vl_var rfl) (vrow (hL'.to s'') rfl (vl_var rfl) hzr.1 z1) (.of (s'' _ _ z4)))) (fun x hx H'' s'' => vl_var rfl)) (by omega)) _ fun b H8 s8 nb eb => ?_
              have eb : H8 b = some (.lst ((nearUp near (upP N.ls os u) z).map V.int)) := eb
              have hput := hL'.put (k := z.toNat) (ns := nearUp near (upP N.ls os u) z) s8 (by omega) nb eb (Same.free s' nb)
              refine ⟨.ref o, rfl, .int z, rfl, o, refs, z, z.toNat, rfl, rfl, s8 _ _ hL'.ho, ?_, ?_⟩
              · unfold ixN
                rw [if_pos hzr.1, hL'.len, if_pos (by omega)]
              · refine ⟨_, _, rfl, same_upd' (s'.trans s8) noH, ?_, fun k hk e => ?_, hput.congr fun k hk => ?_⟩
                · rw [but_upd]
                  exact sb.trans (but_mono s8)
                · by_cases e2 : k = z.toNat
                  · subst e2
                    rw [List.getElem?_set_self (by rw [hL'.len]; exact hk)] at e
                    have e3 : b = out2 := V.ref.inj (Option.some.inj e)
                    have := but_same _ _ (sb _ _ (show but H7 o out2 = _ by rw [but_ne out2o]; exact eout7))
                    rw [e3, this] at nb
                    cases nb
                  · rw [List.getElem?_set_ne (fun z => e2 z.symm)] at e
                    exact hr2 k hk e
                · rw [take_snoc hgz]
                  by_cases e2 : (k : Int) = z
                  · rw [if_pos (by omega), if_pos (List.mem_append.mpr (.inr (List.mem_singleton.mpr e2))), e2]
                  · rw [if_neg (by omega)]
                    have e3 : ((k : Int) ∈ (upP N.ls os u).take t ++ [z]) ↔ (k : Int) ∈ (upP N.ls os u).take t := by
                      rw [List.mem_append, List.mem_singleton]
                      exact ⟨fun h => h.elim id fun q => absurd q e2, .inl⟩
                    simp only [e3]
          · obtain ⟨y10, refs, rfl, s', sb, hr2, hL'⟩ := hP
            rw [List.length_map, List.take_length] at hL'
            have bo : ∀ {a : Addr} {u : HO}, H7 a = some u → a ≠ o → H' a = some u := fun {a u} e ne => but_same _ _ (sb _ _ (by rw [but_ne ne]; exact e))
            refine ⟨_, _, _, out2, ys ++ zs, refs, fun x => if x ∈ upP N.ls os u then nearUp near (upP N.ls os u) x else near x, rfl, s', out2G, bo eout7 out2o, ⟨hT7.len, fun i a b e => ?_⟩, out2o, hr2, hL', near_step ok oo hI hg, fun x h0 h1 => ?_⟩
            · obtain ⟨t, t1, t2⟩ := hT7.at_ i a b e
              refine ⟨t, t1, bo t2 fun z => ?_⟩
              rw [z, hL7.ho] at t2
              cases t2
            · have := hnl x h0 h1
              show ((if x ∈ upP N.ls os u then nearUp near (upP N.ls os u) x else near x) : List Int).length ≤ 1600 + 40 * (i + 1)
              by_cases c : x ∈ upP N.ls os u
              · rw [if_pos c]
                unfold nearUp
                rw [List.length_append]
                have : ((upP N.ls os u).filter fun w => !decide (w = x) && !decide (w ∈ near x)).length ≤ 40 := Nat.le_trans (List.length_filter_le _ _) ulen
                omega
              · rw [if_neg c]
                omega
        · obtain ⟨y8, y9, y10, out, ys, refs, near, rfl, s4, nout, eout, hT, outo, outr, hL4, hI, hnl⟩ := hP
          rw [Int.toNat_natCast, List.take_length] at hT
          exact g_ret (vl_var rfl) (q H4 out ys s4 nout eout hT)
end
/-! ### the program's ranks -/
def spRk (K : PySem.W.Frag) (CN : Addr) : Sp := fun vs H Q E => ∃ (p : Addr) (os : List Int), vs = [.ref p] ∧ SqL K H p (os.map V.int) ∧ os.length ≤ 100 ∧
  match badAt os with
  | some k => RaiseTo E H CN (k : Nat)
  | none => ∀ H' q, Same H H' → H q = none → H' q = some (.lst ((rk os).map V.int)) → Q (.ref q) H'
theorem posOf_new : ∀ {os : List Int} {i : Nat} {x : Int}, os[i]? = some x → x ∉ os.take i → posOf x os = i
  | [], _, _, h, _ => by simp at h
  | y :: ys, 0, x, h, _ => if_pos (Option.some.inj h)
  | y :: ys, i + 1, x, h, hn => by
    have h : ys[i]? = some x := h
    rw [List.take_succ_cons, List.mem_cons, not_or] at hn
    show (if y = x then 0 else posOf x ys + 1) = i + 1
    rw [if_neg (fun z => hn.1 z.symm), posOf_new h hn.2]
def fnd (os : List Int) (i : Nat) : List V := (rng os.length).map fun p => if p ∈ os.take i then V.int (posOf p os) else V.non
theorem fnd_len {os : List Int} {i : Nat} : (fnd os i).length = os.length := by
  unfold fnd
  rw [List.length_map, len_rng, Int.toNat_natCast]
theorem fnd_zero {os : List Int} : fnd os 0 = List.replicate os.length V.non := by
  refine List.ext_getElem (by rw [fnd_len, List.length_replicate]) fun p h1 h2 => ?_
  simp only [fnd, List.getElem_map, List.take_zero, List.not_mem_nil, if_false, List.getElem_replicate]
theorem fnd_get {os : List Int} {i : Nat} {x : Int} (h0 : 0 ≤ x) (h1 : x < (os.length : Int)) : (fnd os i)[x.toNat]? = some (if x ∈ os.take i then V.int (posOf x os) else V.non) := by
  have hl : x.toNat < (rng os.length).length := by
    rw [len_rng, Int.toNat_natCast]
    omega
  unfold fnd
  rw [List.getElem?_map, List.getElem?_eq_getElem hl, rng_get hl, show ((x.toNat : Nat) : Int) = x by omega]
  rfl
theorem fnd_succ {os : List Int} {i : Nat} {x : Int} (hx : 0 ≤ x ∧ x < (os.length : Int)) (h : os[i]? = some x) (hn : x ∉ os.take i) : fnd os (i + 1) = (fnd os i).set x.toNat (V.int i) := by
  refine List.ext_getElem (by rw [List.length_set, fnd_len, fnd_len]) fun p h1 h2 => ?_
  rw [List.getElem_set]
  simp only [fnd, List.getElem_map, rng_get]
  rw [take_snoc h]
  by_cases e : x.toNat = p
  · have e2 : (p : Int) = x := by omega
    rw [if_pos e, e2, if_pos (List.mem_append.mpr (.inr (List.mem_singleton.mpr rfl))), posOf_new h hn]
  · have e2 : ¬ (p : Int) = x := fun z => e (by omega)
    rw [if_neg e]
    by_cases c : (p : Int) ∈ os.take i
    · rw [if_pos c, if_pos (List.mem_append.mpr (.inl c))]
    · rw [if_neg c, if_neg (fun z => by
        rcases List.mem_append.mp z with z | z
        · exact c z
        · exact e2 (List.mem_singleton.mp z))]
theorem fnd_end {os : List Int} (ok : OrdOk os.length os) : fnd os os.length = (rk os).map V.int := by
  unfold fnd rk
  rw [List.take_length, List.map_map]
  exact List.map_congr_left fun p hp => if_pos (ok.mem.mpr (mem_rng.mp hp))
theorem flat_rep {x : V} : ∀ n : Nat, (List.replicate n [x]).flatten = List.replicate n x
  | 0 => rfl
  | n + 1 => by
    rw [List.replicate_succ, List.flatten_cons, flat_rep n]
    rfl
theorem vn_rep {σ : L2.St} {H : Hp} {ta tb : TE} {x : V} {n : Nat} (ha : Vl ta σ H x) (hb2 : ∀ H', Same H H' → Vl tb σ H' (.int (n : Nat))) (hn : n ≤ 1000) : Vn (tOp rRep (tLst (tCons ta tNil)) tb) σ H (List.replicate n x) := fun Q q =>
  ha _ ⟨by show 1 ≤ sizeLine; decide, fun p np => hb2 _ (same_upd np) _ ⟨p, _, _, rfl, rfl, upd_same, by omega, by omega, by
    rw [Int.toNat_natCast]
    show 1 * n ≤ sizeLine
    rw [Nat.one_mul]
    exact Nat.le_trans hn (by decide), fun t nt => by
    rw [Int.toNat_natCast, flat_rep]
    exact q t _ ((same_upd np).trans (same_upd nt)) (Same.free (same_upd np) nt) upd_same⟩⟩
abbrev sRanks : Stmt := topS 7
theorem scRanks : FnScope ["order", "n", "found", "rank", "place"] ["order"] (defScope sRanks) := ⟨rfl, rfl, rfl, by decide +kernel, rfl, by decide +kernel, by decide +kernel⟩
section
variable {P : Program} {w : World} {K : PySem.W.Frag} {mg : Str → Option Value} {base : Heap} {CN fI : Addr}
theorem ok_ranks {f : Addr} {fd : FuncData} (F : Fun K "ranks" "ranks" sRanks f fd) (hN : PySem.LowX.LowTxt K mg "NotAnOrder" CN fI) (ml : mg "len" = none) (me : mg "enumerate" = none) : FnOk P w K mg base (L2.CX P w) 2 f fd ["order"] (spRk K CN) := by
  refine F.okX scRanks (fun vs H Q E h => ?_) (fun cdv A outer s H vs Q E hr h => ?_)
  · obtain ⟨p, os, rfl, _⟩ := h
    rfl
  · obtain ⟨p, os, rfl, hS, hl, q⟩ := h
    refine ⟨_, pss_cons (ps_set (i := 1) scRanks.nd rfl (.inl rfl) (pe_callB call_len_seq (by rfl) ml PySem.boot_len (pa_cons (pv 0) pa_nil)))
      (pss_cons (ps_set (i := 2) scRanks.nd rfl (.inl rfl) (pe_op op_rep (pe_lst (pa_cons pe_non pa_nil)) (pv 1)))
      (pss_cons (ps_for (passes_of rfl) rfl (pi_enum (by rfl) me (pa_cons (pv 0) pa_nil)) (pg_tup rfl (pgs_cons (pg_name (i := 3) scRanks.nd rfl (.inl rfl)) (pgs_cons (pg_name (i := 4) scRanks.nd rfl (.inl rfl)) pgs_nil)))
      (pss_cons (ps_if (PW.pt (pw_or (pt_not (pt_chain op_le op_lt pe_int (pv 4) (pv 1))) (pw_or1 (pt_cmpR op_notN (pe_ix ix_list (pv 2) (pv 4) (fun _ _ => rfl)) pe_non (nomark _)))))
        (pss_one (ps_raiseLow rfl hN hr (takes_of rfl rfl rfl rfl) (by exact (pa_cons (pv 3) pa_nil))))
        pss_nil)
        (pss_one (ps_asg (pv 3) (pg_sub (pv 2) (pv 4) set_list)))))
      (pss_one (ps_ret (pv 2))))), ?_⟩
    refine q_asg (vl_lenI (vl_var rfl) hS) ?_
    refine q_asgN (xs := fnd os 0) (by
      rw [fnd_zero]
      exact vn_rep vl_c (fun _ _ => vl_var rfl) (by omega)) fun o H2 s2 no ho => ?_
    refine ⟨.ref p, rfl, p, _, rfl, s2.seq hS, for_en (xs := os.map V.int)
      (fun i σ H4 => ∃ y3 y4, σ = [some (.ref p), some (.int os.length), some (.ref o), y3, y4] ∧ Same H (but H4 o) ∧ H4 o = some (.lst (fnd os i)) ∧ badAt os = fb os.length (os.take i) (os.drop i) i)
      ⟨none, none, rfl, same_but s2 no, ho, rfl⟩ (fun i σ H4 hP => ?_) (fun i x T2 σ H4 hi hP nT2 => ?_) (fun σ H4 hP => ?_)⟩
    · obtain ⟨_, _, _, s4, _⟩ := hP
      exact (s4.trans but_same).seq hS
    · obtain ⟨y3, y4, rfl, s4, ho4, eb⟩ := hP
      have hi2 : i < os.length := by
        have := (List.getElem?_eq_some_iff.mp hi).1
        rw [List.length_map] at this
        exact this
      have hg : os[i]? = some os[i] := List.getElem?_eq_getElem hi2
      rw [List.getElem?_map, hg] at hi
      cases hi
      have ed : os.drop i = os[i] :: os.drop (i + 1) := List.drop_eq_getElem_cons hi2
      rw [ed] at eb
      generalize os[i] = x at hg eb ⊢
      have eb : badAt os = if (0 ≤ x ∧ x < (os.length : Int)) ∧ x ∉ os.take i then fb os.length (os.take i ++ [x]) (os.drop (i + 1)) (i + 1) else some i := eb
      have sH := s4.trans but_same
      refine ⟨T2, _, rfl, .of upd_same, rfl, _, _, rfl, _, _, rfl, rfl, ?_⟩
      have s6 : Same H4 (upd H4 T2 (.tup [.int (i : Nat), .int x])) := same_upd nT2
      have ho5 := s6 _ _ ho4
      have s46 : Same (but H4 o) (but (upd H4 T2 (.tup [.int (i : Nat), .int x])) o) := but_mono s6
      generalize upd H4 T2 (.tup [.int (i : Nat), .int x]) = H5 at s6 ho5 s46 ⊢
      refine q_when (b := !(decide ((0 : Int) ≤ x) && decide (x < (os.length : Int))) || decide (x ∈ os.take i)) ?_ (fun hb => ?_) (fun hb => ?_)
      · refine an_or (an_not (an_test (vl_chainI vl_c (vl_var rfl) (vl_var rfl)))) fun hk => ?_
        rw [Bool.not_eq_false', Bool.and_eq_true, decide_eq_true_eq, decide_eq_true_eq] at hk
        have g := atI_nat (fnd_get (i := i) hk.1 hk.2)
        rw [show ((x.toNat : Nat) : Int) = x by omega] at g
        refine (an_test (vl_notN (vl_ixL (K := K) (vl_var rfl) (vl_var rfl) (.of ho5) g))).is ?_
        by_cases c : x ∈ os.take i
        · rw [if_pos c, decide_eq_true c]
          rfl
        · rw [if_neg c, decide_eq_false c]
          rfl
      · rw [if_neg (fun c => by
          rw [decide_eq_true c.1.1, decide_eq_true c.1.2, decide_eq_false c.2] at hb
          exact absurd hb (by decide))] at eb
        rw [eb] at q
        exact raise_now (va_cons (vl_var rfl) va_nil) (q.to (sH.trans s6))
      · rw [Bool.or_eq_false_iff, Bool.not_eq_false', Bool.and_eq_true, decide_eq_true_eq, decide_eq_true_eq, decide_eq_false_iff_not] at hb
        rw [if_pos hb] at eb
        refine ⟨.int i, rfl, .ref o, rfl, .int x, rfl, o, _, x, x.toNat, rfl, rfl, ho5, ?_, ?_⟩
        · unfold ixN
          rw [if_pos hb.1.1, fnd_len, if_pos (by omega)]
        · refine ⟨_, _, rfl, ?_, ?_, ?_⟩
          · rw [but_upd]
            exact s4.trans s46
          · rw [upd_same, fnd_succ hb.1 hg hb.2]
          · rw [eb, take_snoc hg]
    · obtain ⟨y3, y4, rfl, s4, ho4, eb⟩ := hP
      rw [List.length_map] at ho4 eb
      rw [List.take_length, List.drop_length] at eb
      have eb : badAt os = none := eb
      rw [eb] at q
      rw [fnd_end (bad_none eb)] at ho4
      exact g_ret (vl_var rfl) (q H4 o (s4.trans but_same) no ho4)
end
end Ovc
namespace CpCmb
def cmbs {α : Type} : List α → List (α × α)
  | [] => []
  | x :: xs => xs.map (fun y => (x, y)) ++ cmbs xs
theorem cmbs_map {α β : Type} (f : α → β) : ∀ xs : List α, cmbs (xs.map f) = (cmbs xs).map fun p => (f p.1, f p.2)
  | [] => rfl
  | x :: xs => by
    show (xs.map f).map (fun y => (f x, y)) ++ cmbs (xs.map f) = (xs.map (fun y => (x, y)) ++ cmbs xs).map fun p => (f p.1, f p.2)
    rw [List.map_append, cmbs_map f xs, List.map_map, List.map_map]
    rfl
theorem mem_cmbs_lt {α : Type} : ∀ (xs : List α) (p : α × α), p ∈ cmbs xs → p.1 ∈ xs ∧ p.2 ∈ xs
  | x :: xs, p, h => by
    rcases List.mem_append.mp h with h | h
    · obtain ⟨y, hy, rfl⟩ := List.mem_map.mp h
      exact ⟨List.mem_cons_self, List.mem_cons_of_mem _ hy⟩
    · have := mem_cmbs_lt xs p h
      exact ⟨List.mem_cons_of_mem _ this.1, List.mem_cons_of_mem _ this.2⟩
def nx2 (n : Nat) (p : Nat × Nat) : Option (Nat × Nat) :=
  if p.2 ≠ n - 1 then some (p.1, p.2 + 1) else if p.1 ≠ n - 2 then some (p.1 + 1, p.1 + 2) else none
theorem nx2_run {n : Nat} : ∀ (m a k : Nat) (p : Nat × Nat), a + m = n → (cmbs (List.range' a m))[k]? = some p → nx2 n p = (cmbs (List.range' a m))[k + 1]?
  | 0, a, k, p, _, h => by cases h
  | m + 1, a, k, p, e, h => by
    have e1 : cmbs (List.range' a (m + 1)) = (List.range' (a + 1) m).map (fun y => (a, y)) ++ cmbs (List.range' (a + 1) m) := by
      rw [List.range'_succ] <;> rfl
    rw [e1] at h ⊢
    have hl : ((List.range' (a + 1) m).map fun y => (a, y)).length = m := by rw [List.length_map, List.length_range']
    by_cases hk : k < m
    · rw [List.getElem?_append_left (by rw [hl]; exact hk), List.getElem?_map, List.getElem?_range' hk] at h
      have hp : p = (a, a + 1 + 1 * k) := (Option.some.inj h).symm
      subst hp
      by_cases hk1 : k + 1 < m
      · rw [List.getElem?_append_left (by rw [hl]; exact hk1), List.getElem?_map, List.getElem?_range' hk1]
        show (if a + 1 + 1 * k ≠ n - 1 then some (a, a + 1 + 1 * k + 1) else _) = _
        rw [if_pos (by omega)]
        show some (a, a + 1 + 1 * k + 1) = some (a, a + 1 + 1 * (k + 1))
        congr 2
      · rw [List.getElem?_append_right (by rw [hl]; omega), hl]
        have ek : k + 1 - m = 0 := by omega
        rw [ek]
        show (if a + 1 + 1 * k ≠ n - 1 then _ else if a ≠ n - 2 then some (a + 1, a + 2) else none) = _
        rw [if_neg (by omega)]
        by_cases hm : m = 1
        · subst hm
          rw [if_neg (by omega)] <;> rfl
        · rw [if_pos (by omega)]
          obtain ⟨m2, rfl⟩ : ∃ m2, m = m2 + 2 := ⟨m - 2, by omega⟩
          rw [List.range'_succ, List.range'_succ] <;> rfl
    · rw [List.getElem?_append_right (by rw [hl]; omega), hl] at h
      rw [List.getElem?_append_right (by rw [hl]; omega), hl, show k + 1 - m = k - m + 1 by omega]
      exact nx2_run m (a + 1) (k - m) p (by omega) h
theorem nx2_at {n k : Nat} {p : Nat × Nat} (h : (cmbs (List.range n))[k]? = some p) : nx2 n p = (cmbs (List.range n))[k + 1]? := by
  rw [List.range_eq_range'] at h ⊢
  exact nx2_run n 0 k p (by omega) h
theorem cmbs_first {n : Nat} (h : 2 ≤ n) : (cmbs (List.range n))[0]? = some (0, 1) := by
  obtain ⟨m, rfl⟩ : ∃ m, n = m + 2 := ⟨n - 2, by omega⟩
  rw [List.range_eq_range', List.range'_succ, List.range'_succ] <;> rfl
theorem cmbs_none {n : Nat} (h : n < 2) : cmbs (List.range n) = [] := by
  match n, h with
  | 0, _ => rfl
  | 1, _ => rfl
theorem map_range_get {α : Type} (d : α) (xs : List α) : (List.range xs.length).map (fun i => xs.getD i d) = xs := by
  apply List.ext_getElem?
  intro i
  rw [List.getElem?_map]
  by_cases h : i < xs.length
  · rw [List.getElem?_range h, List.getElem?_eq_getElem h]
    show some (xs.getD i d) = _
    rw [List.getD_eq_getElem?_getD, List.getElem?_eq_getElem h] <;> rfl
  · rw [List.getElem?_eq_none (by rw [List.length_range]; omega), List.getElem?_eq_none (by omega)] <;> rfl
theorem cmbs_ix {α : Type} (d : α) (xs : List α) : cmbs xs = (cmbs (List.range xs.length)).map fun p => (xs.getD p.1 d, xs.getD p.2 d) := by
  exact (congrArg cmbs (map_range_get d xs)).symm.trans (cmbs_map _ _)
theorem cmbs_len {α : Type} (xs : List α) : (cmbs xs).length = (cmbs (List.range xs.length)).length := by
  cases xs with
  | nil => rfl
  | cons x xs => rw [cmbs_ix x, List.length_map]
end CpCmb
namespace CpCmb
open PySem PySem.Spec
open Sem (wp)
theorem mro_cmb : mroOf (.type "itertools.combinations") = pure [.type "itertools.combinations", .type "object"] := by rw [mroOf_type]; kernel_rfl
theorem lookup_cmb_new : typeLookup (.type "itertools.combinations") "__new__" = pure (some (.builtin "itertools.combinations.__new__")) := by rw [typeLookup_type, builtinLookup_eq_fast]; kernel_rfl
theorem slot_cmb_init : Slot "itertools.combinations" "__init__" "object.__init__" :=
  .of (owner := "object") (n := "__init__") (by rw [typeLookup_type, builtinLookup_eq_fast]; kernel_rfl) (by decide +kernel) (by decide +kernel) (by decide +kernel)
    (by first | exact .inl (by decide +kernel) | exact .inr (by decide +kernel)) (by rw [isSubtype_type]; kernel_rfl)
theorem sub_cmb : isSubtype (.type "itertools.combinations") (.type "itertools.combinations") = pure true := by rw [isSubtype_type]; kernel_rfl
theorem called_cmb : TypeCalled "itertools.combinations" "itertools.combinations.__new__" "object.__init__" :=
  ⟨by decide +kernel, by decide +kernel, ⟨_, _, mro_cmb⟩, madeBy_type mro_cmb lookup_cmb_new (by decide +kernel), by decide +kernel, sub_cmb, slot_cmb_init⟩
theorem plain_cmb_new : plainId "itertools.combinations.__new__" = true := by decide +kernel
theorem typeCall_cmb_2 (a b : Value) : checkTypeCall "itertools.combinations" ⟨[a, b], []⟩ = pure () := by kernel_rfl
theorem newCall_cmb_2 (a b : Value) : checkBuiltinCall "itertools.combinations.__new__" ⟨[.type "itertools.combinations", a, b], []⟩ = pure () := by kernel_rfl
theorem entry_cmb_new : entryFor table "itertools.combinations.__new__" = some Builtin.«itertools.combinations.__new__» := entryFor_of_tree (by kernel_rfl)
theorem slot_cmb_iter : Slot "itertools.combinations" "__iter__" "itertools.combinations.__iter__" :=
  .of (owner := "itertools.combinations") (n := "__iter__") (by rw [typeLookup_type, builtinLookup_eq_fast]; kernel_rfl) (by decide +kernel) (by decide +kernel) (by decide +kernel)
    (by first | exact .inl (by decide +kernel) | exact .inr (by decide +kernel)) sub_cmb
theorem slot_cmb_next : Slot "itertools.combinations" "__next__" "itertools.combinations.__next__" :=
  .of (owner := "itertools.combinations") (n := "__next__") (by rw [typeLookup_type, builtinLookup_eq_fast]; kernel_rfl) (by decide +kernel) (by decide +kernel) (by decide +kernel)
    (by first | exact .inl (by decide +kernel) | exact .inr (by decide +kernel)) sub_cmb
theorem entry_cmb_iter : entryFor table "itertools.combinations.__iter__" = some Builtin.«dict_keyiterator.__iter__» :=
  entryFor_alias (id' := "dict_keyiterator.__iter__") (by kernel_rfl) (by first | rfl | decide +kernel | (unfold String.splitOn; simp +decide [String.splitOnAux])) (by decide +kernel) (by kernel_rfl)
theorem entry_cmb_next : entryFor table "itertools.combinations.__next__" = some Builtin.«itertools.combinations.__next__» := entryFor_of_tree (by kernel_rfl)
theorem owner_cmb : Manifest.owners.lookup (String.ofList ['s', 'n', 'o', 'i', 't', 'a', 'n', 'i', 'b', 'm', 'o', 'c', '.', 's', 'l', 'o', 'o', 't', 'r', 'e', 't', 'i'].reverse) = some Manifest.sig_itertools_combinations := by kernel_rfl
theorem args_cmb_iter (a : Value) : argsOk "itertools.combinations.__iter__" ⟨[a], []⟩ := by
  unfold argsOk; rw [signature?_of (id := "itertools.combinations.__iter__") (n := ['_', '_', 'r', 'e', 't', 'i', '_', '_']) (o := ['s', 'n', 'o', 'i', 't', 'a', 'n', 'i', 'b', 'm', 'o', 'c', '.', 's', 'l', 'o', 'o', 't', 'r', 'e', 't', 'i']) (by kernel_rfl) owner_cmb]; kernel_rfl
theorem args_cmb_next (a : Value) : argsOk "itertools.combinations.__next__" ⟨[a], []⟩ := by
  unfold argsOk; rw [signature?_of (id := "itertools.combinations.__next__") (n := ['_', '_', 't', 'x', 'e', 'n', '_', '_']) (o := ['s', 'n', 'o', 'i', 't', 'a', 'n', 'i', 'b', 'm', 'o', 'c', '.', 's', 'l', 'o', 'o', 't', 'r', 'e', 't', 'i']) (by kernel_rfl) owner_cmb]; kernel_rfl
theorem noDict_cmb : typeHasDict (.type "itertools.combinations") = false := by decide +kernel

/-- the object: the tuple it goes over, where it stands (0 new, 1 going, 2 at its end), the last result, the two numbers -/
abbrev IsCmb (h : Heap) (it pool : Addr) (st : Int) (last : Value) (i j : Nat) : Prop := h.get? it = some { cls := .type "itertools.combinations", dict := none, data := .fields #[.ref pool, .int st 0, last, .int i 0, .int j 0], slots := #[] }
abbrev IsPool (h : Heap) (pool : Addr) (vs : Array Value) : Prop := h.get? pool = some { cls := .type "tuple", data := .seq vs }
section
variable {prog : Program} {w : World} {A : Around} {E : Value → Shared → Prop} {s : Shared}
theorem code_cmb_new {l : Addr} {vs : List Value} {t : Tok} {Q₁ : Value → Shared → Prop} (hl : s.heap.IsList l vs.toArray) (hsz : vs.length ≤ sizeLine)
    (h : ∀ h' it pool, s.heap.objs.size ≤ pool → s.heap.objs.size ≤ it → pool ≠ it → IsPool h' pool vs.toArray → IsCmb h' it pool (if 2 > vs.length then 2 else 0) .none 0 1 → (∀ b o, s.heap.get? b = some o → h'.get? b = some o) → Q₁ (.ref it) { s with heap := h' }) :
    codeAny (model prog w) A (.call (.builtin "itertools.combinations.__new__") ⟨[.type "itertools.combinations", .ref l, .int 2 t], []⟩) (wants Q₁ E) s := by
  refine codeAny_of_tree ?_
  show wpAny _ A.in1 (do checkBuiltinCall "itertools.combinations.__new__" ⟨[.type "itertools.combinations", .ref l, .int 2 t], []⟩; again (.builtin "itertools.combinations.__new__" ⟨[.type "itertools.combinations", .ref l, .int 2 t], []⟩)) _ _ s
  refine wpAny_bind (wpAny_of_eq (newCall_cmb_2 _ _) (wpAny_pure ⟨plainId_quiet plain_cmb_new _, codeAny_builtin entry_cmb_new ?_⟩))
  rw [Around.under_plainId plain_cmb_new _]
  have hsub := sub_cmb
  have hd := noDict_cmb
  obtain ⟨hp, g, dd, tk, os⟩ := s
  have hcol : ∀ (A : Around) (E : Value → Shared → Prop) (Q : List Value → Shared → Prop), Q vs { heap := (hp.push (PyProof.Rows.seqObj "list" #[] 0)).update hp.objs.size (Obj.mapSeq (· ++ vs.toArray)), gens := g, drawn := dd, toks := tk, os := os } → wpAny (model prog w) A (collect (.ref l)) Q E ⟨hp, g, dd, tk, os⟩ :=
    fun A E Q q => PyProof.Rows.collect_list hl q hsz
  have hcat : ("itertools." ++ "combinations" : String) = "itertools.combinations" := by decide +kernel
  refine wpAny_bind ?_
  show wpAny _ _ (Builtin.Itertools.itClassAndRest "combinations" _ >>= _) _ _ _
  refine wpAny_bind ?_
  unfold Builtin.Itertools.itClassAndRest
  simp only [hcat]
  repeat (first
    | (refine hcol _ _ _ ?_)
    | wp_step
    | simp only [List.head?_cons, Option.some_or, List.getElem?_cons_succ, List.getElem?_cons_zero, List.length_cons, List.length_nil, List.forIn_nil])
  have hz : ∀ (h : Heap) (a : Addr) (f : Obj → Obj), (h.update a f).objs.size = h.objs.size := fun h a f => by
    unfold Heap.update
    simp
  refine h _ _ ((hp.push (PyProof.Rows.seqObj "list" #[] 0)).update hp.objs.size (Obj.mapSeq (· ++ vs.toArray))).objs.size ?_ ?_ ?_ (Heap.get?_push_of_some _ (Heap.get?_push_size _ rfl)) (Heap.get?_push_size _ rfl) fun b o e => ?_
  · rw [hz, Heap.size_push]
    exact Nat.le_succ _
  · rw [Heap.size_push, hz, Heap.size_push]
    show hp.objs.size ≤ _
    omega
  · rw [Heap.size_push]
    omega
  · refine Heap.get?_push_of_some _ (Heap.get?_push_of_some _ ?_)
    exact (Heap.get?_update_other _ _ (Nat.ne_of_gt (Heap.lt_size e))).trans (Heap.get?_push_of_some _ e)
theorem call_cmb {l : Addr} {vs : List Value} {t : Tok} {Q : Value → Shared → Prop} (hl : s.heap.IsList l vs.toArray) (hsz : vs.length ≤ sizeLine)
    (h : ∀ h' it pool, s.heap.objs.size ≤ pool → s.heap.objs.size ≤ it → pool ≠ it → IsPool h' pool vs.toArray → IsCmb h' it pool (if 2 > vs.length then 2 else 0) .none 0 1 → (∀ b o, s.heap.get? b = some o → h'.get? b = some o) → Q (.ref it) { s with heap := h' }) :
    wpAny (model prog w) A (call (.type "itertools.combinations") [.ref l, .int 2 t]) Q E s := by
  refine callType_codes (Q₁ := fun obj s₁ => s₁.TypeIs obj "itertools.combinations" ∧ Q obj s₁) called_cmb (typeCall_cmb_2 _ _) F.entry_object_init
    (code_cmb_new (A := A.in1) hl hsz fun h' it pool e1 e2 e3 hp hc hk => ⟨⟨_, hc, rfl⟩, h h' it pool e1 e2 e3 hp hc hk⟩) fun obj s₁ h₁ => ?_
  exact ⟨h₁.1, F.args_object_init_3 obj _ _, object_init_meets called_cmb.init.lookup called_cmb.made (by decide) prog w A.in1 _ s₁ ⟨h₁.1, rfl, h₁.2⟩⟩
theorem iter_cmb {it pool : Addr} {st : Int} {last : Value} {i j : Nat} {Q : Value → Shared → Prop} (hit : IsCmb s.heap it pool st last i j) (h : Q (.ref it) s) : wpAny (model prog w) A (pyIter (.ref it)) Q E s := by
  have hT : s.TypeIs (.ref it) "itertools.combinations" := ⟨_, hit, rfl⟩
  refine wpAny_pyIter_slot hT slot_cmb_iter (wpAny_call_entry slot_cmb_iter hT entry_cmb_iter ?_ (args_cmb_iter _))
  show wpAny _ _ (ret (.ref it)) _ _ s
  exact wpAny_pure ⟨_, rfl, "itertools.combinations", _, hT, slot_cmb_next.lookup, h⟩
/-- what is handed out -/
theorem next_cmb_0 {it pool : Addr} {vs : Array Value} {x y : Value} {last : Value} {i j : Nat} {Q : Option Value → Shared → Prop} (hne : pool ≠ it) (hit : IsCmb s.heap it pool 0 last i j) (hp : IsPool s.heap pool vs) (hx : vs.getD i .none = x) (hy : vs.getD j .none = y)
    (hQ : ∀ h', IsCmb h' it pool 1 (.ref s.heap.objs.size) i j → h'.get? s.heap.objs.size = some { cls := .type "tuple", data := .seq #[x, y] } → (∀ b o, b ≠ it → s.heap.get? b = some o → h'.get? b = some o) → Q (some (.ref s.heap.objs.size)) { s with heap := h' }) :
    wpAny (model prog w) A (pyNext (.ref it)) Q E s := by
  have hT : s.TypeIs (.ref it) "itertools.combinations" := ⟨_, hit, rfl⟩
  unfold pyNext
  refine wpAny_bind (wpAny_attempt (wpAny_callSpecial?_slot (name := Str.ofString "__next__") hT slot_cmb_next (wpAny_call_entry slot_cmb_next hT entry_cmb_next ?_ (args_cmb_next _))))
  show wpAny _ _ (field (.ref it) 0 >>= _) _ _ s
  refine wpAny_bind (wpAny_field hit rfl (x := .ref pool) rfl ?_)
  refine wpAny_bind ?_
  show wpAny _ _ (load it >>= _) _ _ s
  refine wpAny_bind (wpAny_load hit (wpAny_pure ?_))
  refine wpAny_bind ?_
  show wpAny _ _ (field (.ref it) 1 >>= _) _ _ s
  refine wpAny_bind (wpAny_field hit rfl (x := .int 0 0) rfl (wpAny_pure ?_))
  show wpAny _ _ (setField (.ref it) 1 (rawInt 1) >>= _) _ _ s
  refine wpAny_bind (wpAny_setField_rec hit (by simp) fun h₁ hit₁ hs₁ => ?_)
  replace hit₁ : IsCmb h₁ it pool 1 last i j := hit₁
  have hp₁ : IsPool h₁ pool vs := (hs₁.2 _ hne).trans hp
  refine wpAny_bind ?_
  show wpAny _ _ (Builtin.Itertools.itPoolItems (.ref pool) >>= _) _ _ _
  refine wpAny_bind ?_
  show wpAny _ _ (seqItems? (.ref pool) >>= _) _ _ _
  refine wpAny_bind (wpAny_seqItems hp₁ rfl (wpAny_pure ?_))
  show wpAny _ _ (newTuple [vs.getD i .none, vs.getD j .none]) _ _ _
  rw [hx, hy]
  refine wpAny_newTuple ?_ (by show 2 ≤ sizeLine; decide)
  have hit₂ : IsCmb (h₁.push { cls := .type "tuple", data := .seq #[x, y] }) it pool 1 last i j := Heap.get?_push_of_some _ hit₁
  refine wpAny_bind (wpAny_field hit₂ rfl (x := last) rfl ?_)
  refine wpAny_bind (wpAny_setField_rec hit₂ (by simp) fun h₃ hit₃ hs₃ => ?_)
  have hsz : h₁.objs.size = s.heap.objs.size := hs₁.1
  have hlt : it < s.heap.objs.size := Heap.lt_size hit
  refine wpAny_bind (wpAny_letGo ?_)
  refine wpAny_pure ⟨_, rfl, wpAny_pure ?_⟩
  show Q (some (.ref h₁.objs.size)) _
  rw [hsz]
  refine hQ h₃ ?_ ?_ fun b o hb e => ?_
  · replace hit₃ : IsCmb h₃ it pool 1 (.ref h₁.objs.size) i j := hit₃
    rw [← hsz]
    exact hit₃
  · rw [← hsz]
    exact (hs₃.2 _ (by rw [hsz]; exact Nat.ne_of_gt hlt)).trans (Heap.get?_push_size _ rfl)
  · exact (hs₃.2 _ hb).trans (Heap.get?_push_of_some _ ((hs₁.2 _ hb).trans e))
def nc (n : Nat) (indices : List Nat) : Option (List Nat) :=
  let r := indices.length
  match (List.range r).reverse.find? fun i => indices.getD i 0 != i + n - r with
  | none => none
  | some i => some (indices.take i ++ (List.range (r - i)).map (indices.getD i 0 + 1 + ·))
theorem nc_eq {n i j : Nat} (h : 2 ≤ n) : nc n [i, j] = (nx2 n (i, j)).map fun p => [p.1, p.2] := by
  have er : (List.range 2).reverse = [1, 0] := by decide
  have e1 : (1 + n - 2) = n - 1 := by omega
  have e0 : (0 + n - 2) = n - 2 := by omega
  show (match (List.range 2).reverse.find? fun k => [i, j].getD k 0 != k + n - 2 with
    | none => none
    | some k => some ([i, j].take k ++ (List.range (2 - k)).map ([i, j].getD k 0 + 1 + ·))) = _
  rw [er]
  unfold nx2
  by_cases h1 : j = n - 1
  · have b1 : ([i, j].getD 1 0 != 1 + n - 2) = false := by
      show (j != 1 + n - 2) = false
      rw [e1, h1]
      exact bne_self_eq_false _
    by_cases h2 : i = n - 2
    · have b2 : ([i, j].getD 0 0 != 0 + n - 2) = false := by
        show (i != 0 + n - 2) = false
        rw [e0, h2]
        exact bne_self_eq_false _
      rw [List.find?_cons, b1]
      dsimp only
      rw [List.find?_cons, b2]
      dsimp only
      rw [if_neg (by simpa using h1), if_neg (by simpa using h2)] <;> rfl
    · have b2 : ([i, j].getD 0 0 != 0 + n - 2) = true := by
        show (i != 0 + n - 2) = true
        rw [e0]
        exact bne_iff_ne.mpr h2
      rw [List.find?_cons, b1]
      dsimp only
      rw [List.find?_cons, b2]
      dsimp only
      rw [if_neg (by simpa using h1), if_pos (by simpa using h2)] <;> rfl
  · have b1 : ([i, j].getD 1 0 != 1 + n - 2) = true := by
      show (j != 1 + n - 2) = true
      rw [e1]
      exact bne_iff_ne.mpr h1
    rw [List.find?_cons, b1]
    dsimp only
    rw [if_pos (by simpa using h1)] <;> rfl
theorem next_cmb_1 {it pool : Addr} {vs : Array Value} {x y : Value} {last : Value} {i j i' j' : Nat} {Q : Option Value → Shared → Prop} (hne : pool ≠ it) (hit : IsCmb s.heap it pool 1 last i j) (hp : IsPool s.heap pool vs) (h2 : 2 ≤ vs.size) (hn : nx2 vs.size (i, j) = some (i', j')) (hx : vs.getD i' .none = x) (hy : vs.getD j' .none = y)
    (hQ : ∀ h', IsCmb h' it pool 1 (.ref s.heap.objs.size) i' j' → h'.get? s.heap.objs.size = some { cls := .type "tuple", data := .seq #[x, y] } → (∀ b o, b ≠ it → s.heap.get? b = some o → h'.get? b = some o) → Q (some (.ref s.heap.objs.size)) { s with heap := h' }) :
    wpAny (model prog w) A (pyNext (.ref it)) Q E s := by
  have hT : s.TypeIs (.ref it) "itertools.combinations" := ⟨_, hit, rfl⟩
  unfold pyNext
  refine wpAny_bind (wpAny_attempt (wpAny_callSpecial?_slot (name := Str.ofString "__next__") hT slot_cmb_next (wpAny_call_entry slot_cmb_next hT entry_cmb_next ?_ (args_cmb_next _))))
  show wpAny _ _ (field (.ref it) 0 >>= _) _ _ s
  refine wpAny_bind (wpAny_field hit rfl (x := .ref pool) rfl ?_)
  refine wpAny_bind ?_
  show wpAny _ _ (load it >>= _) _ _ s
  refine wpAny_bind (wpAny_load hit (wpAny_pure ?_))
  refine wpAny_bind ?_
  show wpAny _ _ (field (.ref it) 1 >>= _) _ _ s
  refine wpAny_bind (wpAny_field hit rfl (x := .int 1 0) rfl (wpAny_pure ?_))
  show wpAny _ _ (Builtin.Itertools.itPoolItems (.ref pool) >>= _) _ _ _
  refine wpAny_bind ?_
  show wpAny _ _ (seqItems? (.ref pool) >>= _) _ _ _
  refine wpAny_bind (wpAny_seqItems hp rfl (wpAny_pure ?_))
  have hnc : nc vs.size [i, j] = some [i', j'] := by rw [nc_eq h2, hn] <;> rfl
  split
  case h_2 hq => exact absurd (hq.symm.trans hnc) (by simp)
  case h_1 next hq =>
  have en : next = [i', j'] := Option.some.inj (hq.symm.trans hnc)
  subst en
  refine wpAny_bind ?_
  show wpAny _ _ (Builtin.Itertools.itSetNumbersFrom (.ref it) 3 [i', j']) _ _ _
  unfold Builtin.Itertools.itSetNumbersFrom
  try dsimp only
  refine wpAny_updateFields hit rfl ?_ (by rw [Array.size_append]; show _ ≤ sizeLine + 3; simp; decide)
  have hit₁ : IsCmb (s.heap.update it (Obj.mapFields fun fs => fs.extract 0 3 ++ (List.map (fun (n : Nat) => rawInt n) [i', j']).toArray)) it pool 1 last i' j' := by
    refine (Heap.get?_update_self _ hit rfl).trans ?_
    rfl
  have hs₁ : Heap.SameBut it s.heap (s.heap.update it (Obj.mapFields fun fs => fs.extract 0 3 ++ (List.map (fun (n : Nat) => rawInt n) [i', j']).toArray)) := Heap.SameBut.update ..
  generalize s.heap.update it (Obj.mapFields fun fs => fs.extract 0 3 ++ (List.map (fun (n : Nat) => rawInt n) [i', j']).toArray) = h₁ at hit₁ hs₁
  have hp₁ : IsPool h₁ pool vs := (hs₁.2 _ hne).trans hp
  refine wpAny_bind ?_
  show wpAny _ _ (Builtin.Itertools.itPoolItems (.ref pool) >>= _) _ _ _
  refine wpAny_bind ?_
  show wpAny _ _ (seqItems? (.ref pool) >>= _) _ _ _
  refine wpAny_bind (wpAny_seqItems hp₁ rfl (wpAny_pure ?_))
  show wpAny _ _ (newTuple [vs.getD i' .none, vs.getD j' .none]) _ _ _
  rw [hx, hy]
  refine wpAny_newTuple ?_ (by show 2 ≤ sizeLine; decide)
  have hit₂ : IsCmb (h₁.push { cls := .type "tuple", data := .seq #[x, y] }) it pool 1 last i' j' := Heap.get?_push_of_some _ hit₁
  refine wpAny_bind (wpAny_field hit₂ rfl (x := last) rfl ?_)
  refine wpAny_bind (wpAny_setField_rec hit₂ (by simp) fun h₃ hit₃ hs₃ => ?_)
  have hsz : h₁.objs.size = s.heap.objs.size := hs₁.1
  have hlt : it < s.heap.objs.size := Heap.lt_size hit
  refine wpAny_bind (wpAny_letGo ?_)
  refine wpAny_pure ⟨_, rfl, wpAny_pure ?_⟩
  show Q (some (.ref h₁.objs.size)) _
  rw [hsz]
  refine hQ h₃ ?_ ?_ fun b o hb e => ?_
  · replace hit₃ : IsCmb h₃ it pool 1 (.ref h₁.objs.size) i' j' := hit₃
    rw [← hsz]
    exact hit₃
  · rw [← hsz]
    exact (hs₃.2 _ (by rw [hsz]; exact Nat.ne_of_gt hlt)).trans (Heap.get?_push_size _ rfl)
  · exact (hs₃.2 _ hb).trans (Heap.get?_push_of_some _ ((hs₁.2 _ hb).trans e))
theorem stop_cmb {it : Addr} {Q : Option Value → Shared → Prop} (hh : A.handled = none) (hQ : ∀ h', (∀ b o, b ≠ it → s.heap.get? b = some o → h'.get? b = some o) → Q none { s with heap := h' }) :
    wpAny (model prog w) A.in1 (Builtin.Itertools.itStop (α := Fin)) (fun fin s' => ∃ v, fin = Fin.done (Flow.ret v) ∧ wpAny (model prog w) A (match (Except.ok (some v) : Except Value (Option Value)) with
      | Except.ok (some v) => pure (some v)
      | Except.ok none => unsupported "iter:the-iterator's-class-has-lost-its-__next__-amid-the-walk"
      | Except.error e => do
        let __do_lift ← isInstance e (Value.type "StopIteration")
        if __do_lift = true then pure none else throw e) Q E s')
      (fun e s' => wpAny (model prog w) A (match (Except.error e : Except Value (Option Value)) with
      | Except.ok (some v) => pure (some v)
      | Except.ok none => unsupported "iter:the-iterator's-class-has-lost-its-__next__-amid-the-walk"
      | Except.error e => do
        let __do_lift ← isInstance e (Value.type "StopIteration")
        if __do_lift = true then pure none else throw e) Q E s') s := by
  unfold Builtin.Itertools.itStop
  show wpAny _ _ (newExc (.type "StopIteration") [] >>= _) _ _ _
  refine wpAny_bind ?_
  simp only [newExc, newTuple]
  refine wpAny_bind (wpAny_newObj_type ?_ (by size_fits))
  refine wpAny_bind (m := firstArgMember _ _) (wpAny_of_eq (a := Value.none) (by first | rfl | (simp only [firstArgMember]; rfl)) ?_)
  refine wpAny_newObj_type ?_ (by size_fits)
  simp only [raiseNew]
  refine wpAny_bind (wpAny_handled ?_)
  first | rw [show A.in1.handled = none from hh] | rw [hh]
  refine wpAny_bind (wpAny_pure (wpAny_throw ?_))
  refine wpAny_bind (wpAny_isInstance (T := "StopIteration") (b := true) ⟨_, Heap.get?_push_size _ rfl, rfl⟩ isSubtype_stop ?_)
  refine wpAny_pure (hQ _ ?_)
  exact fun b o _ e => Heap.get?_push_of_some _ (Heap.get?_push_of_some _ e)
theorem next_cmb_end {it pool : Addr} {vs : Array Value} {last : Value} {i j : Nat} {Q : Option Value → Shared → Prop} (hh : A.handled = none) (hne : pool ≠ it) (hit : IsCmb s.heap it pool 1 last i j) (hp : IsPool s.heap pool vs) (h2 : 2 ≤ vs.size) (hn : nx2 vs.size (i, j) = none)
    (hQ : ∀ h', (∀ b o, b ≠ it → s.heap.get? b = some o → h'.get? b = some o) → Q none { s with heap := h' }) :
    wpAny (model prog w) A (pyNext (.ref it)) Q E s := by
  have hT : s.TypeIs (.ref it) "itertools.combinations" := ⟨_, hit, rfl⟩
  unfold pyNext
  refine wpAny_bind (wpAny_attempt (wpAny_callSpecial?_slot (name := Str.ofString "__next__") hT slot_cmb_next (wpAny_call_entry slot_cmb_next hT entry_cmb_next ?_ (args_cmb_next _))))
  show wpAny _ _ (field (.ref it) 0 >>= _) _ _ s
  refine wpAny_bind (wpAny_field hit rfl (x := .ref pool) rfl ?_)
  refine wpAny_bind ?_
  show wpAny _ _ (load it >>= _) _ _ s
  refine wpAny_bind (wpAny_load hit (wpAny_pure ?_))
  refine wpAny_bind ?_
  show wpAny _ _ (field (.ref it) 1 >>= _) _ _ s
  refine wpAny_bind (wpAny_field hit rfl (x := .int 1 0) rfl (wpAny_pure ?_))
  show wpAny _ _ (Builtin.Itertools.itPoolItems (.ref pool) >>= _) _ _ _
  refine wpAny_bind ?_
  show wpAny _ _ (seqItems? (.ref pool) >>= _) _ _ _
  refine wpAny_bind (wpAny_seqItems hp rfl (wpAny_pure ?_))
  have hnc : nc vs.size [i, j] = none := by rw [nc_eq h2, hn] <;> rfl
  split
  case h_1 next hq => exact absurd (hq.symm.trans hnc) (by simp)
  refine wpAny_bind (wpAny_setField_rec hit (by simp) fun h₁ hit₁ hs₁ => ?_)
  exact stop_cmb hh fun h' hk => hQ h' fun b o hb e => hk b o hb ((hs₁.2 _ hb).trans e)
theorem next_cmb_end2 {it pool : Addr} {last : Value} {i j : Nat} {Q : Option Value → Shared → Prop} (hh : A.handled = none) (hit : IsCmb s.heap it pool 2 last i j)
    (hQ : ∀ h', (∀ b o, b ≠ it → s.heap.get? b = some o → h'.get? b = some o) → Q none { s with heap := h' }) :
    wpAny (model prog w) A (pyNext (.ref it)) Q E s := by
  have hT : s.TypeIs (.ref it) "itertools.combinations" := ⟨_, hit, rfl⟩
  unfold pyNext
  refine wpAny_bind (wpAny_attempt (wpAny_callSpecial?_slot (name := Str.ofString "__next__") hT slot_cmb_next (wpAny_call_entry slot_cmb_next hT entry_cmb_next ?_ (args_cmb_next _))))
  show wpAny _ _ (field (.ref it) 0 >>= _) _ _ s
  refine wpAny_bind (wpAny_field hit rfl (x := .ref pool) rfl ?_)
  refine wpAny_bind ?_
  show wpAny _ _ (load it >>= _) _ _ s
  refine wpAny_bind (wpAny_load hit (wpAny_pure ?_))
  refine wpAny_bind ?_
  show wpAny _ _ (field (.ref it) 1 >>= _) _ _ s
  refine wpAny_bind (wpAny_field hit rfl (x := .int 2 0) rfl (wpAny_pure ?_))
  refine wpAny_bind (wpAny_rule ?_)
  exact stop_cmb hh hQ
end
end CpCmb
namespace L2
open PySem PySem.Spec PyProof.Rows
/-- the told pairs, each in a new tuple -/
def Itcm (ps : List (V × V)) : It :=
  ⟨fun i _ => i < ps.length, fun i H v H' => ∃ T x y, v = .ref T ∧ H T = none ∧ H' = upd H T (.tup [x, y]) ∧ ps[i]? = some (x, y), fun i _ => ps.length ≤ i⟩
/-- where the object stands ahead of turn k, n things in its tuple -/
def CmbAt (it pool : Addr) (vs : List Value) (k : Nat) (h : Heap) : Prop :=
  pool ≠ it ∧ CpCmb.IsPool h pool vs.toArray ∧ ∃ last i j, (k = 0 ∧ (i = 0 ∧ j = 1) ∧ CpCmb.IsCmb h it pool (if 2 > vs.length then 2 else 0) last i j) ∨ (∃ k', k = k' + 1 ∧ (CpCmb.cmbs (List.range vs.length))[k']? = some (i, j) ∧ CpCmb.IsCmb h it pool 1 last i j)
theorem turn_cmb {P : Program} {w : World} {K : PySem.W.Frag} {tg : Expr} {xs : List V} {vs : List Value} (rv : Vals xs vs) (it pool : Addr) :
    Turn P w K tg (Itcm (CpCmb.cmbs xs)) [it, pool] it (fun k h => CmbAt it pool vs k h) where
  mem := by simp
  obj := fun k h st b hb => by
    obtain ⟨hne, hp, last, i, j, hc⟩ := st
    have hi : ∃ st, CpCmb.IsCmb h it pool st last i j := by
      rcases hc with ⟨_, _, hc⟩ | ⟨_, _, _, hc⟩
      · exact ⟨_, hc⟩
      · exact ⟨_, hc⟩
    obtain ⟨st, hi⟩ := hi
    have e' : b = it ∨ b = pool := by simpa using hb
    rcases e' with z | z
    · rw [z]; exact ⟨_, hi, fun v q => nomatch q⟩
    · rw [z]; exact ⟨_, hp, fun v q => nomatch q⟩
  keep := fun k h h' st kk => by
    obtain ⟨hne, hp, last, i, j, hc⟩ := st
    refine ⟨hne, kk pool (by simp) _ hp, last, i, j, ?_⟩
    rcases hc with ⟨e1, e2, hc⟩ | ⟨k', e1, e2, hc⟩
    · exact .inl ⟨e1, e2, kk it (by simp) _ hc⟩
    · exact .inr ⟨k', e1, e2, kk it (by simp) _ hc⟩
  item := by
    intro X hP hw hK hc k pins s σ H E I hf st hg
    subst hP hw hK
    obtain ⟨hne, hp, last, i, j, hq⟩ := st
    have hlen : xs.length = vs.length := rv.length
    have hk : k < (CpCmb.cmbs (List.range vs.length)).length := by
      have e : k < (CpCmb.cmbs xs).length := hg
      rw [CpCmb.cmbs_len, hlen] at e
      exact e
    obtain ⟨p, hpk⟩ : ∃ p, (CpCmb.cmbs (List.range vs.length))[k]? = some p := ⟨_, List.getElem?_eq_getElem hk⟩
    obtain ⟨a, b⟩ := p
    have hmem := CpCmb.mem_cmbs_lt _ _ (List.mem_of_getElem? hpk)
    have ha : a < vs.length := List.mem_range.mp hmem.1
    have hb : b < vs.length := List.mem_range.mp hmem.2
    have h2 : 2 ≤ vs.length := by
      by_cases h2 : 2 ≤ vs.length
      · exact h2
      · rw [CpCmb.cmbs_none (by omega)] at hk
        exact absurd hk (Nat.not_lt_zero _)
    obtain ⟨u, hu, ru⟩ := rv.get (List.getElem?_eq_getElem (by omega : a < xs.length))
    obtain ⟨v, hv, rv2⟩ := rv.get (List.getElem?_eq_getElem (by omega : b < xs.length))
    have gu : vs.toArray.getD a .none = u := by
      have : vs.toArray[a]? = some u := by simpa using hu
      rw [Array.getD_eq_getD_getElem?, this] <;> rfl
    have gv : vs.toArray.getD b .none = v := by
      have : vs.toArray[b]? = some v := by simpa using hv
      rw [Array.getD_eq_getD_getElem?, this] <;> rfl
    have hxs : (CpCmb.cmbs xs)[k]? = some (xs[a], xs[b]) := by
      have hpk' : (CpCmb.cmbs (List.range xs.length))[k]? = some (a, b) := by
        rw [hlen]
        exact hpk
      rw [CpCmb.cmbs_ix V.non xs, List.getElem?_map, hpk']
      show some (xs.getD a V.non, xs.getD b V.non) = _
      rw [List.getD_eq_getElem?_getD, List.getD_eq_getElem?_getD, List.getElem?_eq_getElem (by omega : a < xs.length), List.getElem?_eq_getElem (by omega : b < xs.length)] <;> rfl
    have fin : ∀ h', CpCmb.IsCmb h' it pool 1 (.ref s.heap.objs.size) a b → h'.get? s.heap.objs.size = some { cls := .type "tuple", data := .seq #[u, v] } → (∀ c o, c ≠ it → s.heap.get? c = some o → h'.get? c = some o) →
        ∃ u', some (Value.ref s.heap.objs.size) = some u' ∧ wpAny (model X.prog X.w) X.A (letOwnedTupleGo tg (.ref it) u') (fun _ s2 => ∃ x H', Inv X pins σ H' s2 ∧ RelV x u' ∧ (Itcm (CpCmb.cmbs xs)).yld k H x H' ∧ CmbAt it pool vs (k + 1) s2.heap ∧ ∀ b ∈ [it, pool], H' b = none) E { s with heap := h' } := by
      intro h' hit' hT hkp
      have hil : it < s.heap.objs.size := by
        rcases hq with ⟨_, _, q⟩ | ⟨_, _, _, q⟩
        · exact Heap.lt_size q
        · exact Heap.lt_size q
      have new : ObjOk X.prog X.w (upd H s.heap.objs.size (.tup [xs[a], xs[b]])) h' s.heap.objs.size (.tup [xs[a], xs[b]]) :=
        ⟨by show 2 ≤ sizeLine; decide, [u, v], .cons ru (.cons rv2 .nil), ⟨_, hT, rfl, _, rfl⟩⟩
      have I1 : Inv X pins σ (upd H s.heap.objs.size (.tup [xs[a], xs[b]])) { s with heap := h' } :=
        I.turnedNew (t' := s.toks) (ch := [it]) (fun c o hc q => hkp c o (fun z => hc (by simp [z])) q) (fun c hc => hf c (by simp at hc; simp [hc])) (Nat.le_refl _) new
      refine ⟨_, rfl, go_of (s := { s with heap := h' }) hit' rfl rfl (by decide) ⟨.ref s.heap.objs.size, _, I1, rfl, ⟨_, _, _, rfl, I.hok.fresh (Nat.le_refl _), rfl, hxs⟩, ⟨hne, hkp pool _ hne hp, _, a, b, .inr ⟨k, rfl, hpk, hit'⟩⟩, fun c hcm => ?_⟩⟩
      have hlt : c < s.heap.objs.size := by
        have e' : c = it ∨ c = pool := by simpa using hcm
        rcases e' with z | z
        · rw [z]; exact hil
        · rw [z]; exact Heap.lt_size hp
      rw [upd_ne (Nat.ne_of_lt hlt)]
      exact (hf c hcm).1
    have hvz : vs.toArray.size = vs.length := List.size_toArray
    rcases hq with ⟨e1, ⟨e2, e3⟩, q⟩ | ⟨k', e1, e2, q⟩
    · subst e1 e2 e3
      rw [if_neg (by omega)] at q
      have e4 := hpk.symm.trans (CpCmb.cmbs_first h2)
      cases e4
      exact CpCmb.next_cmb_0 hne q hp gu gv fin
    · subst e1
      have e3 := CpCmb.nx2_at e2
      rw [hpk] at e3
      exact CpCmb.next_cmb_1 hne q hp (by rw [hvz]; exact h2) (by rw [hvz]; exact e3) gu gv fin
  done := by
    intro X hP hw hK hc k pins s σ H E I hf st hg
    subst hP hw hK
    obtain ⟨hne, hp, last, i, j, hq⟩ := st
    have hlen : xs.length = vs.length := rv.length
    have hk : (CpCmb.cmbs (List.range vs.length)).length ≤ k := by
      have e : (CpCmb.cmbs xs).length ≤ k := hg
      rw [CpCmb.cmbs_len, hlen] at e
      exact e
    have hvz : vs.toArray.size = vs.length := List.size_toArray
    have fin : ∀ h', (∀ b o, b ≠ it → s.heap.get? b = some o → h'.get? b = some o) → (none : Option Value) = none ∧ Inv X pins σ H { s with heap := h' } := fun h' hkp =>
      ⟨rfl, I.turnedL (t' := s.toks) (ch := [it]) (fun c o hc q => hkp c o (fun z => hc (by simp [z])) q) (fun c hc => hf c (by simp at hc; simp [hc]))⟩
    rcases hq with ⟨e1, ⟨e2, e3⟩, q⟩ | ⟨k', e1, e2, q⟩
    · subst e1
      by_cases h2 : 2 > vs.length
      · rw [if_pos h2] at q
        exact CpCmb.next_cmb_end2 (I.ok.hd hc) q fin
      · have e4 := CpCmb.cmbs_first (n := vs.length) (by omega)
        rw [List.getElem?_eq_none hk] at e4
        cases e4
    · subst e1
      have e3 := CpCmb.nx2_at e2
      rw [List.getElem?_eq_none hk] at e3
      have h2 : 2 ≤ vs.length := by
        by_cases h2 : 2 ≤ vs.length
        · exact h2
        · rw [CpCmb.cmbs_none (by omega)] at e2
          cases e2
      exact CpCmb.next_cmb_end (I.ok.hd hc) hne q hp (by rw [hvz]; exact h2) (by rw [hvz]; exact e3) fin
  self := fun A k s Q E st h => by
    obtain ⟨hne, hp, last, i, j, hq⟩ := st
    rcases hq with ⟨_, _, q⟩ | ⟨_, _, _, q⟩
    · exact CpCmb.iter_cmb q h
    · exact CpCmb.iter_cmb q h
def iCmb (K : PySem.W.Frag) (ta : TA) : TI := fun σ H R => ta σ H fun vs H1 => ∃ a xs, vs = [.ref a, .int 2] ∧ SqL K H1 a xs ∧ R (Itcm (CpCmb.cmbs xs)) H1
theorem pi_cmb {X : Cx} {e e2 tg : Expr} {ta : TA} {p pos : Pos} (hg : Gl X "combinations") (hm : X.mg "combinations" = some (.type "itertools.combinations")) (ha : PA X [e, e2] ta)
    (hs : starEach [e, e2] X.env = (false, eval e X.env) :: starEach [e2] X.env := by rfl) (hpl : (backTo pos (starEach [e2] X.env)).any (·.1) = false := by rfl) :
    PI X tg (.Call (.Name "combinations" p) [e, e2] [] pos) (iCmb X.K ta) := by
  refine ⟨fun pins s σ H R I h => ?_⟩
  refine Call_ (ld_glob I hg hm (PyProof.Rows.callWith_type1 (thn (ha.run pos pins s σ H _ I h) fun us s1 ⟨vs, H1, I1, r1, q1⟩ => ?_) hs hpl))
  obtain ⟨a, xs, ex, hq, q⟩ := q1
  subst ex
  cases r1 with
  | cons r rr =>
    cases rr with
    | cons r2 rr =>
      cases rr
      cases r
      obtain ⟨tk, r2⟩ := r2
      subst r2
      obtain ⟨its, rv, p', hz⟩ := I1.list hq
      refine CpCmb.call_cmb p'.isList (by simpa [rv.length] using hz) fun h' it pool e1 e2 e3 hp hc hk => ?_
      have I2 : Inv X pins σ H1 { s1 with heap := h' } := I1.kept (t' := s1.toks) hk
      refine CpCmb.iter_cmb (s := { s1 with heap := h' }) hc ?_
      refine ⟨it, [it, pool], _, _, H1, rfl, I2, turn_cmb rv it pool, ⟨e3, hp, _, 0, 1, .inl ⟨rfl, ⟨rfl, rfl⟩, hc⟩⟩, fun b hb => ?_, q⟩
      have hle : s1.heap.objs.size ≤ b := by
        have e' : b = it ∨ b = pool := by simpa using hb
        rcases e' with z | z
        · rw [z]; exact e2
        · rw [z]; exact e1
      exact I1.fpOk hle (I1.hok.fresh hle)
end L2
namespace Ovc
open PySem PySem.Spec PyProof.Rows L2
/-! ### the program's way to the pairs: a matrix by ranks -/
def oA (os : List Int) (i : Nat) : Int := os.getD i 0
theorem oA_get {os : List Int} {i : Nat} (h : i < os.length) : os[i]? = some (oA os i) := by
  unfold oA
  rw [List.getD_eq_getElem?_getD, List.getElem?_eq_getElem h] <;> rfl
theorem oA_pos {os : List Int} (hn : os.Nodup) {i : Nat} (h : i < os.length) : posOf (oA os i) os = i := posOf_get hn (oA_get h)
theorem oA_of {os : List Int} {x : Int} (h : x ∈ os) : oA os (posOf x os) = x := by
  have := oA_get (pos_len h)
  rw [posOf_lt h] at this
  exact (Option.some.inj this).symm
theorem oA_map (os : List Int) : (List.range os.length).map (oA os) = os := CpCmb.map_range_get 0 os
def Lk (ls : List Lnk) (os : List Int) (t i k : Nat) : Bool := decide (i < k) && adj0 (ls.take t) (oA os i) (oA os k)
open Classical in
noncomputable def Jm (ls : List Lnk) (os : List Int) (m i k : Nat) : Bool := decide (i < k ∧ (adj0 ls (oA os i) (oA os k) = true ∨ ∃ w, w < m ∧ PairP ls os (oA os w) (oA os i) ∧ PairP ls os (oA os w) (oA os k)))
open Classical in
theorem Jm_iff {ls : List Lnk} {os : List Int} {m i k : Nat} : Jm ls os m i k = true ↔ i < k ∧ (adj0 ls (oA os i) (oA os k) = true ∨ ∃ w, w < m ∧ PairP ls os (oA os w) (oA os i) ∧ PairP ls os (oA os w) (oA os k)) := by
  unfold Jm
  rw [decide_eq_true_eq]
theorem Lk_zero {ls : List Lnk} {os : List Int} : Lk ls os 0 = fun _ _ => false := by
  funext i k
  unfold Lk
  rw [List.take_zero]
  exact Bool.and_false _
theorem Lk_end {ls : List Lnk} {os : List Int} : Lk ls os ls.length = Jm ls os 0 := by
  funext i k
  rw [Bool.eq_iff_iff, Jm_iff]
  unfold Lk
  rw [List.take_length, Bool.and_eq_true, decide_eq_true_eq]
  constructor
  · rintro ⟨h1, h2⟩
    exact ⟨h1, .inl h2⟩
  · rintro ⟨h1, h2 | ⟨w, hw, _⟩⟩
    · exact ⟨h1, h2⟩
    · exact absurd hw (Nat.not_lt_zero _)
theorem Lk_succ {ls : List Lnk} {os : List Int} {t i k : Nat} {l : Lnk} (hn : os.Nodup) (hg : ls[t]? = some l) (ha : l.a ∈ os) (hb : l.b ∈ os) (hi : i < os.length) (hk : k < os.length) :
    Lk ls os (t + 1) i k = (Lk ls os t i k || (decide (i = min (posOf l.a os) (posOf l.b os)) && decide (k = max (posOf l.a os) (posOf l.b os)) && decide (l.a ≠ l.b))) := by
  have pa := oA_of ha
  have pb := oA_of hb
  have qi := oA_pos hn hi
  have qk := oA_pos hn hk
  have e : adj0 (ls.take (t + 1)) (oA os i) (oA os k) = (adj0 (ls.take t) (oA os i) (oA os k) || decide ((l.a = oA os i ∧ l.b = oA os k) ∨ (l.a = oA os k ∧ l.b = oA os i))) := by
    unfold adj0
    rw [take_snoc hg, List.any_append, List.any_cons, List.any_nil, Bool.or_false]
  unfold Lk
  rw [e, Bool.and_or_distrib_left]
  congr 1
  rw [Bool.eq_iff_iff, Bool.and_eq_true, Bool.and_eq_true, Bool.and_eq_true, decide_eq_true_eq, decide_eq_true_eq, decide_eq_true_eq, decide_eq_true_eq, decide_eq_true_eq]
  constructor
  · rintro ⟨h1, ⟨h2, h3⟩ | ⟨h2, h3⟩⟩
    · rw [← h2] at qi
      rw [← h3] at qk
      refine ⟨⟨by omega, by omega⟩, fun z => ?_⟩
      rw [z] at qi
      omega
    · rw [← h3] at qi
      rw [← h2] at qk
      refine ⟨⟨by omega, by omega⟩, fun z => ?_⟩
      rw [z] at qk
      omega
  · rintro ⟨⟨h1, h2⟩, h3⟩
    have hne : posOf l.a os ≠ posOf l.b os := fun z => h3 (pos_inj ha hb z)
    rcases Nat.lt_or_gt_of_ne hne with h | h
    · have e1 : i = posOf l.a os := by omega
      have e2 : k = posOf l.b os := by omega
      rw [e1, e2]
      exact ⟨h, .inl ⟨pa.symm, pb.symm⟩⟩
    · have e1 : i = posOf l.b os := by omega
      have e2 : k = posOf l.a os := by omega
      rw [e1, e2]
      exact ⟨h, .inr ⟨pa.symm, pb.symm⟩⟩
section
variable {N : Net} {os : List Int} {m i k : Nat}
theorem PairP.lt (h : PairP N.ls os (oA os i) (oA os k)) (hn : os.Nodup) (hi : i < os.length) (hk : k < os.length) : i < k := by
  have := h.1
  rw [oA_pos hn hi, oA_pos hn hk] at this
  exact this
theorem Jm_row (ok : NetOk N) (oo : OrdOk N.n os) (hm : m < os.length) (hk : k < os.length) : Jm N.ls os m m k = true ↔ PairP N.ls os (oA os m) (oA os k) := by
  rw [Jm_iff, pair_rec ok oo, oA_pos oo.nodup hm, oA_pos oo.nodup hk]
  refine and_congr_right fun _ => or_congr_right ⟨fun ⟨w, _, h1, h2⟩ => ⟨_, h1, h2⟩, fun ⟨w, h1, h2⟩ => ?_⟩
  have hw : w ∈ os := oo.mem.mpr (h1.ins ok).1
  have hl := h1.1
  rw [oA_pos oo.nodup hm] at hl
  exact ⟨posOf w os, hl, by rw [oA_of hw]; exact h1, by rw [oA_of hw]; exact h2⟩
theorem aboveOf (ok : NetOk N) (oo : OrdOk N.n os) (hm : m < os.length) : ((List.range' (m + 1) (os.length - (m + 1))).filter (Jm N.ls os m m)).map (oA os) = upP N.ls os (oA os m) := by
  have e1 : upP N.ls os (oA os m) = (((List.range os.length).map (oA os)).filter fun v => @decide (PairP N.ls os (oA os m) v) (Classical.propDecidable _)) := by
    rw [oA_map]
    rfl
  have e2 : List.range os.length = List.range' 0 (m + 1) ++ List.range' (m + 1) (os.length - (m + 1)) := by
    rw [List.range_eq_range']
    have := List.range'_append_1 (s := 0) (m := m + 1) (n := os.length - (m + 1))
    rw [Nat.zero_add, show m + 1 + (os.length - (m + 1)) = os.length by omega] at this
    exact this.symm
  rw [e1, List.filter_map, e2, List.filter_append]
  have e3 : (List.range' 0 (m + 1)).filter ((fun v => @decide (PairP N.ls os (oA os m) v) (Classical.propDecidable _)) ∘ oA os) = [] := by
    rw [List.filter_eq_nil_iff]
    intro x hx h
    have hx := (List.mem_range'_1.mp hx)
    have h := @of_decide_eq_true _ (Classical.propDecidable _) h
    have := h.lt oo.nodup hm (by omega)
    omega
  rw [e3, List.nil_append]
  congr 1
  refine List.filter_congr fun x hx => ?_
  have hx := List.mem_range'_1.mp hx
  rw [Bool.eq_iff_iff, Jm_row ok oo hm (by omega)]
  exact (@decide_eq_true_iff _ (Classical.propDecidable _)).symm
theorem mem_cmbs : ∀ {l : List Nat} {p : Nat × Nat}, l.Pairwise (· < ·) → (p ∈ CpCmb.cmbs l ↔ p.1 < p.2 ∧ p.1 ∈ l ∧ p.2 ∈ l)
  | [], p, _ => ⟨fun h => (nomatch h), fun h => (nomatch h.2.1)⟩
  | x :: l, (a, b), h => by
    have h1 := List.pairwise_cons.mp h
    show (a, b) ∈ l.map (fun y => (x, y)) ++ CpCmb.cmbs l ↔ _
    rw [List.mem_append, List.mem_map, mem_cmbs h1.2]
    constructor
    · rintro (⟨y, hy, e⟩ | ⟨h2, h3, h4⟩)
      · cases e
        exact ⟨h1.1 _ hy, List.mem_cons_self, List.mem_cons_of_mem _ hy⟩
      · exact ⟨h2, List.mem_cons_of_mem _ h3, List.mem_cons_of_mem _ h4⟩
    · rintro ⟨h2, h3, h4⟩
      rcases List.mem_cons.mp h3 with e | e
      · rcases List.mem_cons.mp h4 with e2 | e2
        · exact absurd h2 (by
            show ¬ a < b
            have e : a = x := e
            have e2 : b = x := e2
            omega)
        · exact .inl ⟨b, e2, by
            have e : a = x := e
            rw [e]⟩
      · rcases List.mem_cons.mp h4 with e2 | e2
        · have := h1.1 _ e
          exact absurd h2 (by
            show ¬ a < b
            have e2 : b = x := e2
            have this : x < a := this
            omega)
        · exact .inr ⟨h2, e, e2⟩
def abv (M : Nat → Nat → Bool) (m n : Nat) : List Nat := (List.range' (m + 1) (n - (m + 1))).filter (M m)
theorem abv_asc {M : Nat → Nat → Bool} {m n : Nat} : (abv M m n).Pairwise (· < ·) := by
  unfold abv
  exact List.Pairwise.filter _ List.pairwise_lt_range'
theorem mem_abv {M : Nat → Nat → Bool} {m n x : Nat} : x ∈ abv M m n ↔ (m < x ∧ x < n) ∧ M m x = true := by
  unfold abv
  rw [List.mem_filter, List.mem_range'_1]
  constructor
  · rintro ⟨h1, h2⟩
    exact ⟨⟨by omega, by omega⟩, h2⟩
  · rintro ⟨h1, h2⟩
    exact ⟨⟨by omega, by omega⟩, h2⟩
theorem Jm_succ (ok : NetOk N) (oo : OrdOk N.n os) (hm : m < os.length) (hi : i < os.length) (hk : k < os.length) : Jm N.ls os (m + 1) i k = (Jm N.ls os m i k || decide ((i, k) ∈ CpCmb.cmbs (abv (Jm N.ls os m) m os.length))) := by
  rw [Bool.eq_iff_iff, Bool.or_eq_true, decide_eq_true_eq, mem_cmbs abv_asc, mem_abv, mem_abv, Jm_iff, Jm_iff, Jm_row ok oo hm hi, Jm_row ok oo hm hk]
  constructor
  · rintro ⟨h1, h2 | ⟨w, hw, h2, h3⟩⟩
    · exact .inl ⟨h1, .inl h2⟩
    · by_cases e : w = m
      · subst e
        exact .inr ⟨h1, ⟨⟨h2.lt oo.nodup hm hi, hi⟩, h2⟩, ⟨h3.lt oo.nodup hm hk, hk⟩, h3⟩
      · exact .inl ⟨h1, .inr ⟨w, by omega, h2, h3⟩⟩
  · rintro (⟨h1, h2 | ⟨w, hw, h2, h3⟩⟩ | ⟨h1, ⟨_, h2⟩, _, h3⟩)
    · exact ⟨h1, .inl h2⟩
    · exact ⟨h1, .inr ⟨w, by omega, h2, h3⟩⟩
    · exact ⟨h1, .inr ⟨m, by omega, h2, h3⟩⟩
end
structure RowsAt (H H' : Hp) (q : Addr) (rs : List V) (N : Net) (os : List Int) : Prop where
  len : rs.length = N.n.toNat
  row : ∀ x : Int, 0 ≤ x → x < N.n → ∃ a, rs[x.toNat]? = some (.ref a) ∧ H a = none ∧ a ≠ q ∧ H' a = some (.lst ((upP N.ls os x).map V.int))
def spUpper (K : PySem.W.Frag) : Sp := fun vs H Q _ => ∃ (v : V) (N : Net) (p : Addr) (os : List Int), vs = [v, .ref p] ∧ Dp K H v (netD N) ∧ NetOk N ∧ SqL K H p (os.map V.int) ∧ OrdOk N.n os ∧ ∀ H' q rs, Same H H' → H q = none → H' q = some (.lst rs) → RowsAt H H' q rs N os → Q (.ref q) H'
/-- what changes -/
noncomputable def msk (T : Addr → Prop) (H : Hp) : Hp := fun b => @ite _ (T b) (Classical.propDecidable _) none (H b)
theorem msk_ne {T : Addr → Prop} {H : Hp} {b : Addr} (h : ¬ T b) : msk T H b = H b := if_neg h
theorem msk_at {T : Addr → Prop} {H : Hp} {b : Addr} (h : T b) : msk T H b = none := if_pos h
theorem msk_same {T : Addr → Prop} {H : Hp} : Same (msk T H) H := fun b x e => by
  by_cases h : T b
  · rw [msk_at h] at e
    cases e
  · rw [msk_ne h] at e
    exact e
theorem msk_mono {T : Addr → Prop} {G H : Hp} (s : Same G H) : Same (msk T G) (msk T H) := fun b x e => by
  by_cases h : T b
  · rw [msk_at h] at e
    cases e
  · rw [msk_ne h] at e ⊢
    exact s b x e
theorem msk_upd {T : Addr → Prop} {H : Hp} {a : Addr} {u : HO} (h : T a) : msk T (upd H a u) = msk T H := by
  funext b
  by_cases hb : T b
  · rw [msk_at hb, msk_at hb]
  · rw [msk_ne hb, msk_ne hb, upd_ne (fun e => hb (by rw [e]; exact h))]
theorem msk_get {T : Addr → Prop} {G H : Hp} {a : Addr} {x : HO} (s : Same (msk T G) (msk T H)) (h : G a = some x) (n : ¬ T a) : H a = some x := msk_same _ _ (s _ _ (by rw [msk_ne n]; exact h))
/-! ### comprehensions that make a list each turn; pairs of a list -/
section
variable {K : PySem.W.Frag} {σ : L2.St} {H : Hp} {te tl : TE} {tr : TA} {tt : TT}
theorem lc_rows {j : Nat} {xs ys : List V} {Q : VK} (hl : ∀ Q : VK, (∀ a H1, Same H H1 → SqL K H1 a xs → Q (.ref a) H1) → tl σ H Q) (hz : xs.length ≤ 1000)
    (he : ∀ x H', Same H H' → Vn te ((σ.set j none).set j (some x)) H' ys)
    (q : ∀ D H' (rw : List Addr), Same H H' → H D = none → H' D = some (.lst (rw.map V.ref)) → rw.length = xs.length → rw.Nodup → D ∉ rw → (∀ a ∈ rw, H a = none ∧ H' a = some (.lst ys)) → Q (.ref D) H') : tLc (iList K tl) (gName j) tYes te [j] σ H Q := by
  refine hl _ fun a H1 s1 hx => ⟨a, rfl, ⟨xs, hx⟩, fun D nD => lc_list (xs := xs) (fun i H' => ∃ rw : List Addr, H' D = some (.lst (rw.map V.ref)) ∧ Same H1 H' ∧ rw.length = i ∧ rw.Nodup ∧ D ∉ rw ∧ ∀ a ∈ rw, H a = none ∧ H' a = some (.lst ys))
    ⟨[], upd_same, same_upd nD, rfl, .nil, List.not_mem_nil, fun _ h => (nomatch h)⟩ (fun i H' _ hP => hP.choose_spec.2.1.seq hx) (fun i x H2 hi hP => ?_) (fun H2 hP => ?_)⟩
  · obtain ⟨rw_, hD, s2, hlen, hnd, hDn, hr⟩ := hP
    have hi2 := (List.getElem?_eq_some_iff.mp hi).1
    refine ⟨?_, ?_⟩
    · show ((σ.set j none).set j (some x)).set j none = σ.set j none
      rw [List.set_set, List.set_set]
    · refine iteT (B := ∃ rw : List Addr, H2 D = some (.lst (rw.map V.ref)) ∧ Same H1 H2 ∧ rw.length = i + 1 ∧ rw.Nodup ∧ D ∉ rw ∧ ∀ a ∈ rw, H a = none ∧ H2 a = some (.lst ys)) (he x H2 (s1.trans s2) _ fun p H3 s3 np hp => ⟨_, s3 _ _ hD, ?_, rw_ ++ [p], ?_, ?_, ?_, ?_, ?_, fun b hb => ?_⟩)
      · rw [List.length_map]
        exact Nat.lt_of_le_of_lt (m := 1000000) (by omega) (by decide)
      · rw [upd_same, List.map_append]
        rfl
      · exact same_upd' (s2.trans s3) nD
      · rw [List.length_append, hlen]
        rfl
      · refine List.nodup_append.mpr ⟨hnd, List.nodup_cons.mpr ⟨List.not_mem_nil, .nil⟩, fun x hx y hy e => ?_⟩
        rw [List.mem_singleton.mp hy] at e
        have := (hr x hx).2
        rw [e, np] at this
        cases this
      · intro h
        rcases List.mem_append.mp h with h | h
        · exact hDn h
        · have e := List.mem_singleton.mp h
          rw [e, np] at hD
          cases hD
      · rcases List.mem_append.mp hb with h | h
        · exact ⟨(hr b h).1, by
            rw [upd_ne (fun e => hDn (by rw [← e]; exact h))]
            exact s3 _ _ (hr b h).2⟩
        · have e := List.mem_singleton.mp h
          refine ⟨by rw [e]; exact Same.free (s1.trans s2) np, ?_⟩
          rw [e, upd_ne (fun z => by rw [← z, np] at hD; cases hD)]
          exact hp
  · obtain ⟨rw_, hD, s2, hlen, hnd, hDn, hr⟩ := hP
    exact q D H2 rw_ (s1.trans s2) (Same.free s1 nD) hD hlen hnd hDn hr
theorem vn_lcR2 {j lo hi : Nat} {pb : Nat → Bool} {f : Nat → V} (hl : Va tr σ H [.int (lo : Nat), .int (hi : Nat)]) (hz : lo ≤ 1000 ∧ hi ≤ 1000)
    (ht : ∀ x : Nat, lo ≤ x → x < hi → ∀ H', Same H H' → An tt ((σ.set j none).set j (some (.int (x : Nat)))) H' (pb x)) (he : ∀ x : Nat, lo ≤ x → x < hi → ∀ H', Same H H' → Vl te ((σ.set j none).set j (some (.int (x : Nat)))) H' (f x)) :
    Vn (tLc (iRng2 tr) (gName j) tt te [j]) σ H (((List.range' lo (hi - lo)).filter pb).map f) := fun Q q => by
  have en : ((hi : Int) - (lo : Int)).toNat = hi - lo := by omega
  refine hl _ ⟨_, _, rfl, ⟨by omega, by omega, by omega, by omega⟩, fun D nD => ?_⟩
  rw [en]
  refine lc_range (fun i H' => H' D = some (.lst (((List.range' lo i).filter pb).map f)) ∧ Same H H') ⟨upd_same, same_upd nD⟩ (fun i H2 hi2 hP => ?_) (fun H2 hP => ?_)
  · obtain ⟨hD, s2⟩ := hP
    have e0 : (lo : Int) + (i : Int) = ((lo + i : Nat) : Int) := by omega
    rw [e0]
    have e : (List.range' lo (i + 1)).filter pb = (List.range' lo i).filter pb ++ [lo + i].filter pb := by
      rw [List.range'_concat, Nat.one_mul]
      exact List.filter_append ..
    refine ⟨?_, ht (lo + i) (by omega) (by omega) H2 s2 _ ?_⟩
    · show ((σ.set j none).set j (some (V.int _))).set j none = σ.set j none
      rw [List.set_set, List.set_set]
    · cases hp : pb (lo + i) with
      | true =>
        have e2 : [lo + i].filter pb = [lo + i] := by
          rw [List.filter_cons, hp]
          rfl
        refine iteT (B := H2 D = some (.lst (((List.range' lo (i + 1)).filter pb).map f)) ∧ Same H H2) (he (lo + i) (by omega) (by omega) H2 s2 _ ⟨_, hD, ?_, ?_, same_upd' s2 nD⟩)
        · rw [List.length_map]
          have h1 : ((List.range' lo i).filter pb).length ≤ i := Nat.le_trans (List.length_filter_le _ _) (by rw [List.length_range']; exact Nat.le_refl _)
          exact Nat.lt_of_le_of_lt (m := 1000000) (by omega) (by decide)
        · rw [upd_same, e, e2, List.map_append]
          rfl
      | false =>
        have e2 : [lo + i].filter pb = [] := by
          rw [List.filter_cons, hp]
          rfl
        refine iteF ⟨?_, s2⟩
        rw [e, e2, List.append_nil]
        exact hD
  · exact q D H2 hP.2 nD hP.1
/-- for x, y in combinations(xs, 2) -/
theorem for_cm {ps : List (V × V)} {g : TG} {tb : TS} {D : Ends} (Pv : Nat → L2.St → Hp → Prop) (h0 : Pv 0 σ H)
    (hs : ∀ (i : Nat) x y T σ H, ps[i]? = some (x, y) → Pv i σ H → H T = none → g (.ref T) σ (upd H T (.tup [x, y])) fun σ2 H2 => tb { D with nx := Pv (i + 1), ct := Pv (i + 1), bk := D.nx } σ2 H2) (hd : ∀ σ H, Pv ps.length σ H → D.nx σ H) :
    ∃ W : Nat → Nat → L2.St → Hp → Prop, (∃ m, W 0 m σ H) ∧ ∀ i m σ H, W i m σ H → ((Itcm ps).stop i H ∧ D.nx σ H) ∨
      ((Itcm ps).go i H ∧ ∃ N : L2.St → Hp → Prop, (∀ σ' H', N σ' H' → ∃ m', m' < m ∧ W (i + 1) m' σ' H') ∧ ∀ v H', (Itcm ps).yld i H v H' → g v σ H' fun σ2 H2 => tb { D with nx := N, ct := N, bk := D.nx } σ2 H2) := by
  refine ⟨fun i m σ H => m + i = ps.length ∧ Pv i σ H, ⟨ps.length, rfl, h0⟩, fun i m σ H hW => ?_⟩
  obtain ⟨em, p⟩ := hW
  by_cases hlt : i < ps.length
  · refine .inr ⟨hlt, Pv (i + 1), fun σ' H' p' => ⟨m - 1, by omega, by omega, p'⟩, fun v H' yy => ?_⟩
    obtain ⟨T, x, y, rfl, hT, rfl, f1⟩ := yy
    exact hs i x y T σ H f1 p hT
  · have e : i = ps.length := by omega
    rw [e] at p
    exact .inl ⟨by rw [e]; exact Nat.le_refl _, hd σ H p⟩
end
theorem q_par {σ : L2.St} {H : Hp} {ta : TA} {D : Ends} {tw : TS} {x y : V} {i j : Nat} (h : Va ta σ H [x, y]) (k : tw D ((σ.set i (some x)).set j (some y)) H) : tSeq (tPar i j ta) tw D σ H := h _ ⟨x, y, rfl, k⟩
theorem g_asgG {σ : L2.St} {H : Hp} {te : TE} {g : TG} {D : Ends} {xs : List V} (h : Vn te σ H xs) (k : ∀ p H', Same H H' → H p = none → H' p = some (.lst xs) → g (.ref p) σ H' D.nx) : tAsg te g D σ H := h _ k
/-- joined[x][y] = True -/
theorem g_setM {K : PySem.W.Frag} {σ : L2.St} {H : Hp} {t0 t1 t2 : TE} {D : Ends} {j a : Addr} {xs ys : List V} {x y : Nat} {v : V} (h0 : Vl t0 σ H (.ref j)) (h1 : Vl t1 σ H (.int (x : Nat))) (h2 : Vl t2 σ H (.int (y : Nat))) (hj : SqL K H j xs) (hx : xs[x]? = some (.ref a)) (ha : H a = some (.lst ys)) (hy : y < ys.length)
    (k : D.nx σ (upd H a (.lst (ys.set y v)))) : tAsg (tC v) (gSub (tOp (rIxL K) t0 t1) t2 rSetL) D σ H :=
  (vl_ixL (K := K) h0 h1 hj (atI_nat hx)) _ (h2 _ ⟨a, ys, (y : Nat), y, rfl, rfl, ha, by
    unfold ixN
    rw [if_pos (by omega), if_pos (by omega)]
    rw [Int.toNat_natCast], k⟩)
/-! ### the matrix -/
structure MatAt (H : Hp) (j : Addr) (rw : List Addr) (n : Nat) (M : Nat → Nat → Bool) : Prop where
  top : H j = some (.lst (rw.map V.ref))
  len : rw.length = n
  nd : rw.Nodup
  jn : j ∉ rw
  row : ∀ (i : Nat) a, rw[i]? = some a → H a = some (.lst ((List.range n).map fun k => V.bl (M i k)))
theorem MatAt.to {H H' : Hp} {j : Addr} {rw : List Addr} {n : Nat} {M : Nat → Nat → Bool} (h : MatAt H j rw n M) (s : Same H H') : MatAt H' j rw n M := ⟨s _ _ h.top, h.len, h.nd, h.jn, fun i a e => s _ _ (h.row i a e)⟩
theorem MatAt.is {H : Hp} {j : Addr} {rw : List Addr} {n : Nat} {M M' : Nat → Nat → Bool} (h : MatAt H j rw n M) (e : ∀ i k, i < n → k < n → M' i k = M i k) : MatAt H j rw n M' := ⟨h.top, h.len, h.nd, h.jn, fun i a g => by
  rw [h.row i a g]
  have hi := (List.getElem?_eq_some_iff.mp g).1
  rw [h.len] at hi
  congr 2
  exact List.map_congr_left fun k hk => by rw [e i k hi (List.mem_range.mp hk)]⟩
theorem MatAt.set {H : Hp} {j : Addr} {rw : List Addr} {n : Nat} {M M' : Nat → Nat → Bool} {x y : Nat} {a : Addr} (h : MatAt H j rw n M) (ha : rw[x]? = some a) (hy : y < n) (e : ∀ i k, i < n → k < n → M' i k = (M i k || (decide (i = x) && decide (k = y)))) :
    MatAt (upd H a (.lst (((List.range n).map fun k => V.bl (M x k)).set y (.bl true)))) j rw n M' where
  top := by
    rw [upd_ne (fun z => h.jn (by rw [z]; exact List.mem_of_getElem? ha))]
    exact h.top
  len := h.len
  nd := h.nd
  jn := h.jn
  row := fun i b hb => by
    have hi := (List.getElem?_eq_some_iff.mp hb).1
    rw [h.len] at hi
    by_cases c : i = x
    · subst c
      cases hb.symm.trans ha
      rw [upd_same]
      congr 2
      refine List.ext_getElem (by rw [List.length_set, List.length_map, List.length_map]) fun k h1 h2 => ?_
      rw [List.length_map, List.length_range] at h2
      rw [List.getElem_set]
      simp only [List.getElem_map, List.getElem_range]
      rw [e i k hi h2, decide_eq_true rfl, Bool.true_and]
      by_cases d : y = k
      · rw [if_pos d, decide_eq_true d.symm, Bool.or_true]
      · rw [if_neg d, decide_eq_false (fun z => d z.symm), Bool.or_false]
    · have hne : b ≠ a := fun z => by
        rw [z, ← ha] at hb
        exact c ((List.getElem?_inj (by rw [h.len]; exact hi) h.nd).mp hb)
      rw [upd_ne hne, h.row i b hb]
      congr 2
      exact List.map_congr_left fun k hk => by rw [e i k hi (List.mem_range.mp hk), decide_eq_false c, Bool.false_and, Bool.or_false]
theorem MatAt.at_ {H : Hp} {j : Addr} {rw : List Addr} {n : Nat} {M : Nat → Nat → Bool} {x : Nat} (h : MatAt H j rw n M) (hx : x < n) : ∃ a, rw[x]? = some a ∧ (rw.map V.ref)[x]? = some (.ref a) ∧ H a = some (.lst ((List.range n).map fun k => V.bl (M x k))) := by
  have hx2 : x < rw.length := by
    rw [h.len]
    exact hx
  have e : rw[x]? = some rw[x] := List.getElem?_eq_getElem hx2
  exact ⟨_, e, by rw [List.getElem?_map, e] <;> rfl, h.row x _ e⟩
abbrev sUpper : Stmt := topS 10
theorem scUpper : FnScope ["net", "order", "n", "links", "rank", "joined", "link", "a", "b", "found", "low", "place", "above", "first", "second", "_", "high"] ["net", "order"] (defScope sUpper) := ⟨rfl, rfl, rfl, by decide +kernel, rfl, by decide +kernel, by decide +kernel⟩
section
variable {P : Program} {w : World} {K : PySem.W.Frag} {mg : Str → Option Value} {base : Heap} {CN fI : Addr}
theorem ok_upper {f : Addr} {fd : FuncData} {k : Nat} (F : Fun K "upper" "upper" sUpper f fd) (c_ranks : KalX P w K mg base k "ranks" ["order"] (spRk K CN)) (ml : mg "len" = none) (me : mg "enumerate" = none) (mr : mg "range" = none) (mm : mg "min" = none) (mx : mg "max" = none) (mcmb : mg "combinations" = some (.type "itertools.combinations")) : FnOk P w K mg base CX0 (k + 1) f fd ["net", "order"] (spUpper K) := by
  refine F.ok scUpper (fun vs H Q E h => ?_) (fun cdv A outer s H vs Q E hr h => ?_)
  · obtain ⟨v, N, p, os, rfl, _⟩ := h
    rfl
  · obtain ⟨v, N, p, os, rfl, hN, okN, hS, oo, q⟩ := h
    refine ⟨_, pss_cons (ps_asg (pv 0) (pg_tup rfl (pgs_cons (pg_name (i := 2) scUpper.nd rfl (.inr rfl)) (pgs_cons (pg_name (i := 3) scUpper.nd rfl (.inl rfl)) pgs_nil))))
      (pss_cons (ps_set (i := 4) scUpper.nd rfl (.inl rfl) (pe_kx (E := fun _ _ _ => False) c_ranks hr (by first | decide | omega) (by rfl) takes0 (pa_cons (pv 1) pa_nil)))
      (pss_cons (ps_set (i := 5) scUpper.nd rfl (.inr rfl) (pe_lc (own := [("_", 15)]) (g := gName 15) (tt := tYes) (te := (tOp rRep (tLst (tCons (tC (.bl false)) tNil)) (tVar 2))) (by rfl) scUpper.nd (pi_list (pv 1)) (blkOk_by (own := [("_", 15)]) (N := ["net", "order", "n", "links", "rank", "joined", "link", "a", "b", "found", "low", "place", "above", "first", "second", "_", "high"]) (sc := defScope sUpper) (by decide +kernel)) (fun _ _ _ _ _ => pg_name (i := 15) scUpper.nd rfl (Or.inl rfl)) (fun _ _ _ _ _ => by exact pts_nil) (fun _ _ _ _ _ => by exact (pe_op op_rep (pe_lst (pa_cons pe_bl pa_nil)) (pv 2)))))
      (pss_cons (ps_for PassesOwn.never rfl (pi_list (pv 3)) (pg_name (i := 6) scUpper.nd rfl (.inl rfl))
      (pss_cons (ps_par (i := 7) (j := 8) (by rfl) scUpper.nd rfl rfl (by decide) rfl rfl (pa_cons (pe_ix ix_list (pv 4) (pe_ix ix_tup (pv 6) pe_int (fun _ _ => rfl)) (fun _ _ => rfl)) (pa_cons (pe_ix ix_list (pv 4) (pe_ix ix_tup (pv 6) pe_int (fun _ _ => rfl)) (fun _ _ => rfl)) pa_nil)) (by rfl))
        (pss_one (ps_asg pe_bl (pg_sub (pe_ix ix_list (pv 5) (pe_callB (call_min2 rfl) (by rfl) mm (by decide +kernel) (pa_cons (pv 7) (pa_cons (pv 8) pa_nil))) (fun _ _ => rfl)) (pe_callB (call_max2 rfl) (by rfl) mx (by decide +kernel) (pa_cons (pv 7) (pa_cons (pv 8) pa_nil))) set_list)))))
      (pss_cons (ps_setLc (i := 9) (own := [("_", 15)]) (g := gName 15) (tt := tYes) (te := (tLst tNil)) (by rfl) scUpper.nd rfl rfl (sw_true rfl rfl rfl (by decide +kernel)) (pi_list (pv 1)) (blkOk_by (own := [("_", 15)]) (N := ["net", "order", "n", "links", "rank", "joined", "link", "a", "b", "found", "low", "place", "above", "first", "second", "_", "high"]) (sc := defScope sUpper) (by decide +kernel)) (fun _ _ _ _ _ => pg_name (i := 15) scUpper.nd rfl (Or.inl rfl)) (fun _ _ _ _ _ => by exact pts_nil) (fun _ _ _ _ _ => by exact (pe_lst pa_nil)))
      (pss_cons (ps_for PassesOwn.never rfl (pi_enum (by rfl) me (pa_cons (pv 1) pa_nil)) (pg_tup rfl (pgs_cons (pg_name (i := 10) scUpper.nd rfl (.inr rfl)) (pgs_cons (pg_name (i := 11) scUpper.nd rfl (.inl rfl)) pgs_nil)))
      (pss_cons (ps_setLc (i := 12) (own := [("high", 16)]) (g := gName 16) (tt := (tTest (tOp (rIxL K) (tOp (rIxL K) (tVar 5) (tVar 10)) (tVar 16)))) (te := (tVar 16)) (by rfl) scUpper.nd rfl rfl (sw_true rfl rfl rfl (by decide +kernel)) (pi_range2 (by rfl) mr (pa_cons (pe_op op_add (pv 10) pe_int) (pa_cons (pv 2) pa_nil))) (blkOk_by (own := [("high", 16)]) (N := ["net", "order", "n", "links", "rank", "joined", "link", "a", "b", "found", "low", "place", "above", "first", "second", "_", "high"]) (sc := defScope sUpper) (by decide +kernel)) (fun _ _ _ _ _ => pg_name (i := 16) scUpper.nd rfl (Or.inl rfl)) (fun _ _ _ _ _ => by exact (pts_one (pt_val (pe_ix ix_list (pe_ix ix_list (pv 5) (pv 10) (fun _ _ => rfl)) (pv 16) (fun _ _ => rfl))))) (fun _ _ _ _ _ => by exact (pv 16)))
        (pss_cons (ps_for PassesOwn.never rfl (pi_cmb (by rfl) mcmb (pa_cons (pv 12) (pa_cons pe_int pa_nil))) (pg_tup rfl (pgs_cons (pg_name (i := 13) scUpper.nd rfl (.inl rfl)) (pgs_cons (pg_name (i := 14) scUpper.nd rfl (.inl rfl)) pgs_nil)))
        (pss_one (ps_asg pe_bl (pg_sub (pe_ix ix_list (pv 5) (pv 13) (fun _ _ => rfl)) (pv 14) set_list))))
        (pss_one (ps_asg (pe_lc (own := [("high", 16)]) (g := gName 16) (tt := tYes) (te := (tOp (rIxL K) (tVar 1) (tVar 16))) (by rfl) scUpper.nd (pi_list (pv 12)) (blkOk_by (own := [("high", 16)]) (N := ["net", "order", "n", "links", "rank", "joined", "link", "a", "b", "found", "low", "place", "above", "first", "second", "_", "high"]) (sc := defScope sUpper) (by decide +kernel)) (fun _ _ _ _ _ => pg_name (i := 16) scUpper.nd rfl (Or.inl rfl)) (fun _ _ _ _ _ => by exact pts_nil) (fun _ _ _ _ _ => by exact (pe_ix ix_list (pv 1) (pv 16) (fun _ _ => rfl)))) (pg_sub (pv 9) (pv 11) set_list))))))
      (pss_one (ps_ret (pv 9)))))))), ?_⟩
    obtain ⟨p0, c, xs, rfl, hp0, hc, hx⟩ := Dp.net_inv hN
    have on := oo.len
    have n40 := okN.n40
    have n1 := okN.n1
    have l16 := okN.len
    have hnd := oo.nodup
    have hbad : badAt os = none := bad_iff.mpr (by
      rw [show (os.length : Int) = N.n by omega]
      exact oo)
    have lx := DpAll.len hx
    rw [List.length_map] at lx
    refine q_asgT2 (vl_var rfl) hp0 ?_
    refine q_asgE ⟨.ref p, rfl, p, os, rfl, hS, by omega, ?_⟩
    rw [hbad]
    intro G r sG nr er
    -- the matrix
    refine q_asgE (lc_rows (ys := List.replicate os.length (.bl false)) (vx_list (vl_var rfl) (sG.seq hS)) (by rw [List.length_map]; omega) (fun x H' s' => ?_) fun j H1 rw_ s1 nj ej rl rnd jn rr => ?_)
    · exact vn_rep vl_c (fun _ _ => (vl_var rfl).is (by rw [show N.n = ((os.length : Nat) : Int) by omega])) (by omega)
    have hM1 : MatAt H1 j rw_ os.length (Lk N.ls os 0) := ⟨ej, by rw [rl, List.length_map], rnd, jn, fun i a e => by
      rw [(rr a (List.mem_of_getElem? e)).2, Lk_zero]
      congr 2
      exact List.ext_getElem (by simp) fun k h1 h2 => by simp⟩
    have hrG : ∀ a ∈ rw_, G a = none := fun a h => (rr a h).1
    refine q_forLk (j := 6) (Hb := G) (vl_var rfl) (sG.seq hc) (DpAll.to hx sG) s1
      (fun i σ H3 => ∃ y6 y7 y8, σ = [some (.ref p0), some (.ref p), some (.int N.n), some (.ref c), some (.ref r), some (.ref j), y6, y7, y8, none, none, none, none, none, none, none, none] ∧ Same G H3 ∧ MatAt H3 j rw_ os.length (Lk N.ls os i))
      ⟨none, none, none, rfl, s1, hM1⟩ (fun i σ H3 hP => ?_) (fun i l t σ H3 hl ht hP => ?_) (fun σ H3 hP => ?_)
    · obtain ⟨_, _, _, _, s3, _⟩ := hP
      exact s3
    · obtain ⟨y6, y7, y8, rfl, s3, hM⟩ := hP
      have hlm := okN.ok l (List.mem_of_getElem? hl)
      have a0 := hlm.a0
      have ab := hlm.ab
      have bn := hlm.bn
      have ha : l.a ∈ os := oo.mem.mpr (by omega)
      have hb : l.b ∈ os := oo.mem.mpr (by omega)
      have rka : (rk os)[l.a.toNat]? = some (posOf l.a os : Int) := by
        unfold rk
        rw [List.getElem?_map, List.getElem?_eq_getElem (by rw [len_rng]; omega), rng_get (by rw [len_rng]; omega), show ((l.a.toNat : Nat) : Int) = l.a by omega] <;> rfl
      have rkb : (rk os)[l.b.toNat]? = some (posOf l.b os : Int) := by
        unfold rk
        rw [List.getElem?_map, List.getElem?_eq_getElem (by rw [len_rng]; omega), rng_get (by rw [len_rng]; omega), show ((l.b.toNat : Nat) : Int) = l.b by omega] <;> rfl
      have pa := pos_len ha
      have pb := pos_len hb
      generalize hA : posOf l.a os = A1 at rka pa
      generalize hB : posOf l.b os = B1 at rkb pb
      refine q_par (va_cons (vl_ixI (K := K) (vl_var rfl) ((vl_ixT (vl_var rfl) vl_c (seqT s3 ht) (atI_nat (j := 0) rfl)).is (by rw [show ((l.a.toNat : Nat) : Int) = l.a by omega])) (.of (s3 _ _ er)) rka) (va_cons (vl_ixI (K := K) (vl_var rfl) ((vl_ixT (vl_var rfl) vl_c (seqT s3 ht) (atI_nat (j := 1) rfl)).is (by rw [show ((l.b.toNat : Nat) : Int) = l.b by omega])) (.of (s3 _ _ er)) rkb) va_nil)) ?_
      obtain ⟨a1, e1, e2, e3⟩ := hM.at_ (x := min A1 B1) (by omega)
      refine g_setM (x := min A1 B1) (y := max A1 B1) (vl_var rfl) ((vl_min2 (vl_var rfl) (vl_var rfl)).is ?_) ((vl_max2 (vl_var rfl) (vl_var rfl)).is ?_) (.of hM.top) e2 e3 (by rw [List.length_map, List.length_range]; omega) ⟨_, _, _, rfl, same_upd' s3 (hrG a1 (List.mem_of_getElem? e1)), hM.set e1 (by omega) fun i' k' hi hk => ?_⟩
      · congr 1
        split <;> omega
      · congr 1
        split <;> omega
      · rw [Lk_succ hnd hl ha hb hi hk, hA, hB, decide_eq_true (show l.a ≠ l.b by omega), Bool.and_true]
    · obtain ⟨y6, y7, y8, rfl, s3, hM⟩ := hP
      rw [Lk_end] at hM
      -- found
      refine q_asgE (lc_rows (ys := []) (vx_list (vl_var rfl) ((sG.trans s3).seq hS)) (by rw [List.length_map]; omega) (fun x H' s' => vn_lst va_nil (Nat.zero_le _)) fun fo H4 fr s4 nf ef fl fnd_ fn ff => ?_)
      have hfG := Same.free s3 nf
      have hfr : fo ∉ rw_ := fun h => by
        obtain ⟨i, hi⟩ := List.mem_iff_getElem?.mp h
        rw [hM.row i fo hi] at nf
        cases nf
      have hfj : j ≠ fo := fun z => by
        have := hM.top
        rw [z, nf] at this
        cases this
      refine ⟨.ref p, rfl, p, _, rfl, (sG.trans (s3.trans s4)).seq hS, for_en (xs := os.map V.int)
        (fun m σ H5 => ∃ y6 y7 y8 y10 y11 y12 y13 y14 fs, σ = [some (.ref p0), some (.ref p), some (.int N.n), some (.ref c), some (.ref r), some (.ref j), y6, y7, y8, some (.ref fo), y10, y11, y12, y13, y14, none, none] ∧ Same G H5 ∧ MatAt H5 j rw_ os.length (Jm N.ls os m) ∧
          H5 fo = some (.lst fs) ∧ fs.length = os.length ∧ ∀ w, w < m → ∃ a, fs[(oA os w).toNat]? = some (.ref a) ∧ G a = none ∧ a ≠ fo ∧ a ∉ rw_ ∧ H5 a = some (.lst ((upP N.ls os (oA os w)).map V.int)))
        ⟨_, _, _, none, none, none, none, none, _, rfl, s3.trans s4, hM.to s4, ef, by rw [List.length_map, fl, List.length_map], fun w hw => absurd hw (Nat.not_lt_zero _)⟩ (fun m σ H5 hP => ?_) (fun m x T2 σ H5 hi hP nT2 => ?_) (fun σ H5 hP => ?_)⟩
      · obtain ⟨_, _, _, _, _, _, _, _, _, _, s5, _⟩ := hP
        exact (sG.trans s5).seq hS
      · obtain ⟨y6, y7, y8, y10, y11, y12, y13, y14, fs, rfl, s5, hM5, ef5, fl5, hrow⟩ := hP
        have hm : m < os.length := by
          have := (List.getElem?_eq_some_iff.mp hi).1
          rw [List.length_map] at this
          exact this
        rw [List.getElem?_map, oA_get hm] at hi
        cases hi
        refine ⟨T2, _, rfl, .of upd_same, rfl, _, _, rfl, _, _, rfl, rfl, ?_⟩
        have s6 : Same H5 (upd H5 T2 (.tup [.int (m : Nat), .int (oA os m)])) := same_upd nT2
        have s56 := s5.trans s6
        have hM6 := hM5.to s6
        have ef6 := s6 _ _ ef5
        have hrow6 : ∀ w, w < m → ∃ a, fs[(oA os w).toNat]? = some (.ref a) ∧ G a = none ∧ a ≠ fo ∧ a ∉ rw_ ∧ upd H5 T2 (.tup [.int (m : Nat), .int (oA os m)]) a = some (.lst ((upP N.ls os (oA os w)).map V.int)) := fun w hw => by
          obtain ⟨a, z1, z2, z3, z4, z5⟩ := hrow w hw
          exact ⟨a, z1, z2, z3, z4, s6 _ _ z5⟩
        clear hrow hM5 ef5 nT2
        generalize upd H5 T2 (.tup [.int (m : Nat), .int (oA os m)]) = H6 at s6 s56 hM6 ef6 hrow6 ⊢
        -- above
        obtain ⟨am, g1, g2, g3⟩ := hM6.at_ hm
        refine q_asgN (xs := (abv (Jm N.ls os m) m os.length).map fun k => V.int (k : Nat)) (vn_lcR2 (lo := m + 1) (hi := os.length) (va_cons ((vl_I0 (vl_var rfl) vl_c).is (by
          show V.int ((m : Int) + 1) = V.int ((m + 1 : Nat) : Int)
          rfl)) (va_cons ((vl_var rfl).is (by rw [show N.n = ((os.length : Nat) : Int) by omega])) va_nil)) ⟨by omega, by omega⟩ (fun x h1 h2 H' s' => ?_) (fun x h1 h2 H' s' => vl_var rfl)) fun ab H7 s7 nab eab => ?_
        · exact an_test (vl_ixL (K := K) (vl_ixL (K := K) (vl_var rfl) (vl_var rfl) (.of (s' _ _ hM6.top)) (atI_nat g2)) (vl_var rfl) (.of (s' _ _ g3)) (atI_nat (by rw [List.getElem?_map, List.getElem?_range h2] <;> rfl)))
        have hM7 := hM6.to s7
        have ef7 := s7 _ _ ef6
        have s57 := s56.trans s7
        have hrow7 : ∀ w, w < m → ∃ a, fs[(oA os w).toNat]? = some (.ref a) ∧ G a = none ∧ a ≠ fo ∧ a ∉ rw_ ∧ H7 a = some (.lst ((upP N.ls os (oA os w)).map V.int)) := fun w hw => by
          obtain ⟨a, z1, z2, z3, z4, z5⟩ := hrow6 w hw
          exact ⟨a, z1, z2, z3, z4, s7 _ _ z5⟩
        have habr : ab ∉ rw_ := fun h => by
          obtain ⟨i, hi⟩ := List.mem_iff_getElem?.mp h
          rw [hM6.row i ab hi] at nab
          cases nab
        clear hrow6 hM6 ef6 g3
        -- the pairs of above
        refine ⟨.ref ab, rfl, ab, _, rfl, .of eab, for_cm
          (fun t σ H8 => ∃ y13 y14, σ = [some (.ref p0), some (.ref p), some (.int N.n), some (.ref c), some (.ref r), some (.ref j), y6, y7, y8, some (.ref fo), some (.int (m : Nat)), some (.int (oA os m)), some (.ref ab), y13, y14, none, none] ∧ Same G H8 ∧ Same (msk (· ∈ rw_) H7) (msk (· ∈ rw_) H8) ∧
            MatAt H8 j rw_ os.length (fun i k => Jm N.ls os m i k || decide ((i, k) ∈ (CpCmb.cmbs (abv (Jm N.ls os m) m os.length)).take t)))
          ⟨_, _, rfl, s57, Same.refl _, hM7.is fun i k _ _ => by rw [List.take_zero, decide_eq_false (by exact List.not_mem_nil), Bool.or_false]⟩ (fun t x y T3 σ H8 ht hP nT3 => ?_) (fun σ H8 hP => ?_)⟩
        · obtain ⟨y13, y14, rfl, s8, k8, hM8⟩ := hP
          rw [CpCmb.cmbs_map, List.getElem?_map] at ht
          cases hq : (CpCmb.cmbs (abv (Jm N.ls os m) m os.length))[t]? with
          | none =>
            rw [hq] at ht
            cases ht
          | some xy =>
            obtain ⟨i1, k1⟩ := xy
            rw [hq] at ht
            cases ht
            have hmem := (mem_cmbs abv_asc).mp (List.mem_of_getElem? hq)
            have hi1 := (mem_abv.mp hmem.2.1).1.2
            have hk1 := (mem_abv.mp hmem.2.2).1.2
            refine ⟨T3, _, rfl, .of upd_same, rfl, _, _, rfl, _, _, rfl, rfl, ?_⟩
            have s9 : Same H8 (upd H8 T3 (.tup [.int (i1 : Nat), .int (k1 : Nat)])) := same_upd nT3
            have s89 := s8.trans s9
            have k89 := k8.trans (msk_mono s9)
            have hM9 := hM8.to s9
            generalize upd H8 T3 (.tup [.int (i1 : Nat), .int (k1 : Nat)]) = H9 at s9 s89 k89 hM9 ⊢
            obtain ⟨a1, e1, e2, e3⟩ := hM9.at_ hi1
            refine g_setM (x := i1) (y := k1) (vl_var rfl) (vl_var rfl) (vl_var rfl) (.of hM9.top) e2 e3 (by rw [List.length_map, List.length_range]; exact hk1) ⟨_, _, rfl, same_upd' s89 (hrG a1 (List.mem_of_getElem? e1)), by
              rw [msk_upd (List.mem_of_getElem? e1)]
              exact k89, hM9.set e1 hk1 fun i' k' _ _ => ?_⟩
            rw [take_snoc hq, Bool.eq_iff_iff]
            simp only [List.mem_append, List.mem_singleton, Prod.mk.injEq, Bool.or_eq_true, Bool.and_eq_true, decide_eq_true_eq, or_assoc]
        · obtain ⟨y13, y14, rfl, s8, k8, hM8⟩ := hP
          have ef8 := msk_get k8 ef7 hfr
          have eab8 := msk_get k8 eab habr
          have hrow8 : ∀ w, w < m → ∃ a, fs[(oA os w).toNat]? = some (.ref a) ∧ G a = none ∧ a ≠ fo ∧ a ∉ rw_ ∧ H8 a = some (.lst ((upP N.ls os (oA os w)).map V.int)) := fun w hw => by
            obtain ⟨a, z1, z2, z3, z4, z5⟩ := hrow7 w hw
            exact ⟨a, z1, z2, z3, z4, msk_get k8 z5 z4⟩
          have hxm := oo.mem.mp (List.mem_of_getElem? (oA_get hm))
          have hM10 : MatAt H8 j rw_ os.length (Jm N.ls os (m + 1)) := hM8.is fun i k hi hk => by
            rw [Jm_succ okN oo hm hi hk, show ((CpCmb.cmbs ((abv (Jm N.ls os m) m os.length).map fun k => V.int (k : Nat))).length) = (CpCmb.cmbs (abv (Jm N.ls os m) m os.length)).length by rw [CpCmb.cmbs_map, List.length_map], List.take_length]
          refine g_asgG (xs := (upP N.ls os (oA os m)).map V.int) (vn_lc (xs := (abv (Jm N.ls os m) m os.length).map fun k => V.int (k : Nat)) (ys := (upP N.ls os (oA os m)).map V.int) (vx_list (vl_var rfl) (.of eab8)) (by
            rw [← aboveOf okN oo hm, List.length_map, List.length_map, List.length_map]
            rfl) (by rw [List.length_map]; have := up_len (u := oA os m) okN oo; omega) fun i x y H' s' hx' hy' => ?_) fun rq H11 s11 nrq erq => ?_
          · rw [← aboveOf okN oo hm, List.map_map, List.getElem?_map] at hy'
            rw [List.getElem?_map] at hx'
            unfold abv at hx'
            cases e : ((List.range' (m + 1) (os.length - (m + 1))).filter (Jm N.ls os m m))[i]? with
            | none =>
              rw [e] at hx'
              cases hx'
            | some z =>
              rw [e] at hx' hy'
              cases hx'
              cases hy'
              have hz := (mem_abv (M := Jm N.ls os m) (m := m) (n := os.length)).mp (List.mem_of_getElem? e)
              exact ve_of (vl_ixI (K := K) (vl_var rfl) (vl_var rfl) ((sG.trans (s8.trans s')).seq hS) (oA_get hz.1.2))
          · have hrr : rq ∉ rw_ := fun h => by
              obtain ⟨i, hi⟩ := List.mem_iff_getElem?.mp h
              rw [hM8.row i rq hi] at nrq
              cases nrq
            have hrf : rq ≠ fo := fun z => by
              rw [z, ef8] at nrq
              cases nrq
            refine ⟨.ref fo, rfl, .int (oA os m), rfl, fo, fs, oA os m, (oA os m).toNat, rfl, rfl, s11 _ _ ef8, ?_, ?_⟩
            · unfold ixN
              rw [if_pos hxm.1, if_pos (by omega)]
            · refine ⟨_, _, _, _, _, _, _, _, _, rfl, same_upd' (s8.trans s11) hfG, ?_, upd_same, by rw [List.length_set]; exact fl5, fun w hw => ?_⟩
              · have := hM10.to s11
                exact ⟨by
                  rw [upd_ne hfj]
                  exact this.top, this.len, this.nd, this.jn, fun i a e => by
                  rw [upd_ne (fun z => hfr (by rw [← z]; exact List.mem_of_getElem? e))]
                  exact this.row i a e⟩
              · by_cases e : w = m
                · subst e
                  refine ⟨rq, ?_, Same.free s8 nrq, hrf, hrr, ?_⟩
                  · rw [List.getElem?_set_self (by omega)]
                  · rw [upd_ne hrf]
                    exact erq
                · obtain ⟨a, z1, z2, z3, z4, z5⟩ := hrow8 w (by omega)
                  refine ⟨a, ?_, z2, z3, z4, ?_⟩
                  · have hxw := oo.mem.mp (List.mem_of_getElem? (oA_get (os := os) (i := w) (by omega)))
                    rw [List.getElem?_set_ne (fun z => ?_)]
                    · exact z1
                    · have e3 : oA os m = oA os w := by omega
                      have p1 := oA_pos hnd hm
                      have p2 := oA_pos hnd (i := w) (by omega)
                      rw [e3, p2] at p1
                      exact e p1
                  · rw [upd_ne z3]
                    exact s11 _ _ z5
      · obtain ⟨y6, y7, y8, y10, y11, y12, y13, y14, fs, rfl, s5, hM5, ef5, fl5, hrow⟩ := hP
        refine g_ret (vl_var rfl) (q H5 fo fs (sG.trans s5) (Same.free sG hfG) ef5 ⟨by omega, fun x h0 h1 => ?_⟩)
        have hx := oo.mem.mpr ⟨h0, h1⟩
        obtain ⟨a, z1, z2, z3, z4, z5⟩ := hrow (posOf x os) (by rw [List.length_map]; exact pos_len hx)
        rw [oA_of hx] at z1 z5
        exact ⟨a, z1, Same.free sG z2, z3, z5⟩
end
def spPairs (K : PySem.W.Frag) : Sp := fun vs H Q _ => ∃ (v : V) (N : Net) (p : Addr) (os : List Int), vs = [v, .ref p] ∧ Dp K H v (netD N) ∧ NetOk N ∧ SqL K H p (os.map V.int) ∧ OrdOk N.n os ∧ ∀ H' q ts, Same H H' → H q = none → H' q = some (.lst ts) → TupsAt H' ts (pairsL N.ls os) → Q (.ref q) H'
theorem yes_of {σ : L2.St} {H : Hp} {Q : Bool → Hp → Prop} (h : Q true H) : tYes σ H Q := h
abbrev sPairs : Stmt := topS 9
theorem scPairs : FnScope ["net", "order", "above", "low", "high"] ["net", "order"] (defScope sPairs) := ⟨rfl, rfl, rfl, by decide +kernel, rfl, by decide +kernel, by decide +kernel⟩
section
variable {P : Program} {w : World} {K : PySem.W.Frag} {mg : Str → Option Value} {base : Heap} {CN fI : Addr}
theorem ok_pairs {f : Addr} {fd : FuncData} {k : Nat} (F : Fun K "pairs" "pairs" sPairs f fd) (c_upper : Kal P w K mg base k "upper" ["net", "order"] (spUpper K)) : FnOk P w K mg base CX0 (k + 1) f fd ["net", "order"] (spPairs K) := by
  refine F.ok scPairs (fun vs H Q E h => ?_) (fun cdv A outer s H vs Q E hr h => ?_)
  · obtain ⟨v, N, p, os, rfl, _⟩ := h
    rfl
  · obtain ⟨v, N, p, os, rfl, hN, okN, hS, oo, q⟩ := h
    refine ⟨_, pss_cons (ps_set (i := 2) scPairs.nd rfl (.inr rfl) (pe_k c_upper hr (by first | decide | omega) (by rfl) (pa_cons (pv 0) (pa_cons (pv 1) pa_nil))))
      (pss_one (ps_ret (pe_lc2 (own := [("low", 3), ("high", 4)]) (vs1 := [4]) (g := gName 3) (tt := tYes) (wi1 := (iList K (tOp (rIxL K) (tVar 2) (tVar 3)))) (g1 := gName 4) (tt1 := tYes) (te := (tTup (tCons (tVar 3) (tCons (tVar 4) tNil)))) (by rfl) scPairs.nd (pi_list (pv 1)) (blkOk_by (own := [("low", 3), ("high", 4)]) (N := ["net", "order", "above", "low", "high"]) (sc := defScope sPairs) (by decide +kernel)) (by decide) (fun _ _ _ _ _ => pg_name (i := 3) scPairs.nd rfl (Or.inl rfl)) (fun _ _ _ _ _ => by exact pts_nil) (fun _ _ _ _ _ => by exact (pi_list (pe_ix ix_list (pv 2) (pv 3) (fun _ _ => rfl)))) (fun _ _ _ _ _ => pg_name (i := 4) scPairs.nd rfl (Or.inl rfl)) (fun _ _ _ _ _ => by exact pts_nil) (fun _ _ _ _ _ => by exact (pe_tup (pa_cons (pv 3) (pa_cons (pv 4) pa_nil))))))), ?_⟩
    refine q_asgE ⟨v, rfl, .ref p, rfl, v, N, p, os, rfl, hN, okN, hS, oo, fun H1 ap rs s1 nap eap hrow => ?_⟩
    have on := oo.len
    have hS1 := s1.seq hS
    refine ⟨.ref p, rfl, p, rfl, ⟨_, hS1⟩, fun D nD => ?_⟩
    have snD : Same H1 (upd H1 D (.lst [])) := same_upd nD
    -- what stands ahead of turn i
    refine ⟨fun i m H2 => m + i = os.length ∧ Same H1 H2 ∧ ∃ ts, H2 D = some (.lst ts) ∧ TupsAt H2 ts ((os.take i).flatMap fun u => (upP N.ls os u).map fun v => (u, v)), ⟨os.length, rfl, snD, [], upd_same, TupsAt.nil⟩, fun i m H2 hW => ?_⟩
    obtain ⟨em, s2, ts, hD, hT⟩ := hW
    by_cases hi : i < os.length
    · refine .inr ⟨⟨_, _, s2.seq hS1, by rw [List.getElem?_map, List.getElem?_eq_getElem hi] <;> rfl⟩, fun H' => Same H1 H' ∧ ∃ ts, H' D = some (.lst ts) ∧ TupsAt H' ts ((os.take (i + 1)).flatMap fun u => (upP N.ls os u).map fun v => (u, v)), fun H' hx => ⟨m - 1, by omega, by omega, hx.1, hx.2⟩, fun x H' hy => ?_⟩
      obtain ⟨rfl, hy⟩ := hy
      have hy := hy _ (s2.seq hS1)
      have hg : os[i]? = some os[i] := List.getElem?_eq_getElem hi
      rw [List.getElem?_map, hg] at hy
      generalize os[i] = u at hg hy
      cases hy
      have hu := oo.mem.mp (List.mem_of_getElem? hg)
      obtain ⟨a, z1, z2, z3, z4⟩ := hrow.row u hu.1 hu.2
      have e0 : (os.take (i + 1)).flatMap (fun u => (upP N.ls os u).map fun v => (u, v)) = ((os.take i).flatMap fun u => (upP N.ls os u).map fun v => (u, v)) ++ (upP N.ls os u).map fun v => (u, v) := by
        rw [take_snoc hg, List.flatMap_append]
        simp
      have hlen : ((os.take i).flatMap fun u => (upP N.ls os u).map fun v => (u, v)).length + (upP N.ls os u).length ≤ 1600 := by
        have h1 := pairsL_len okN oo
        have h2 : (os.take (i + 1)).flatMap (fun u => (upP N.ls os u).map fun v => (u, v)) <+: pairsL N.ls os := by
          unfold pairsL
          exact ⟨(os.drop (i + 1)).flatMap fun u => (upP N.ls os u).map fun v => (u, v), by rw [← List.flatMap_append, List.take_append_drop]⟩
        have h3 := h2.length_le
        rw [e0, List.length_append, List.length_map] at h3
        omega
      refine ⟨rfl, ?_⟩
      refine yes_of ?_
      dsimp only
      rw [if_pos rfl]
      have za := s2 _ _ z4
      have eap2 := s2 _ _ eap
      refine (vl_ixL (K := K) (σ := [some v, some (.ref p), some (.ref ap), some (.int u), none]) (vl_var rfl) (vl_var rfl) (.of eap2) (by
        have := atI_nat z1
        rw [show ((u.toNat : Nat) : Int) = u by omega] at this
        exact this)) _ ⟨a, rfl, ⟨_, .of za⟩, fun j k H3 => k + j = (upP N.ls os u).length ∧ Same H1 H3 ∧ ∃ ts, H3 D = some (.lst ts) ∧ TupsAt H3 ts (((os.take i).flatMap fun u => (upP N.ls os u).map fun v => (u, v)) ++ ((upP N.ls os u).take j).map fun v => (u, v)), ⟨_, rfl, s2, ts, hD, by
          rw [List.take_zero, List.map_nil, List.append_nil]
          exact hT⟩, fun j k H3 hW => ?_⟩
      obtain ⟨ek, s3, ts3, hD3, hT3⟩ := hW
      have za3 := s3 _ _ z4
      by_cases hj : j < (upP N.ls os u).length
      · refine .inr ⟨⟨_, _, .of za3, by rw [List.getElem?_map, List.getElem?_eq_getElem hj] <;> rfl⟩, fun H' => Same H1 H' ∧ ∃ ts, H' D = some (.lst ts) ∧ TupsAt H' ts (((os.take i).flatMap fun u => (upP N.ls os u).map fun v => (u, v)) ++ ((upP N.ls os u).take (j + 1)).map fun v => (u, v)), fun H' hx => ⟨k - 1, by omega, by omega, hx.1, hx.2⟩, fun x H' hy => ?_⟩
        obtain ⟨rfl, hy⟩ := hy
        have hy := hy _ (.of za3)
        have hg2 : (upP N.ls os u)[j]? = some (upP N.ls os u)[j] := List.getElem?_eq_getElem hj
        rw [List.getElem?_map, hg2] at hy
        generalize (upP N.ls os u)[j] = z at hg2 hy
        cases hy
        refine ⟨rfl, ?_⟩
        refine yes_of ?_
        dsimp only
        rw [if_pos rfl]
        refine ⟨_, rfl, _, rfl, by show 2 ≤ sizeLine; decide, fun T nT => ⟨ts3, same_upd nT _ _ hD3, ?_, same_upd' (s3.trans (same_upd nT)) nD, _, upd_same, ?_⟩⟩
        · rw [hT3.len, List.length_append, List.length_map, List.length_take]
          exact Nat.lt_of_le_of_lt (m := 10000) (by omega) (by decide)
        · rw [take_snoc hg2, List.map_append, ← List.append_assoc]
          exact ((hT3.to (same_upd nT)).app (TupsAt.one upd_same)).upd (same_upd nT _ _ hD3)
      · refine .inl ⟨⟨_, .of za3, by rw [List.length_map]; omega⟩, s3, ts3, hD3, ?_⟩
        rw [e0]
        rw [List.take_of_length_le (l := upP N.ls os u) (i := j) (by omega)] at hT3
        exact hT3
    · refine .inl ⟨⟨_, s2.seq hS1, by rw [List.length_map]; omega⟩, ?_⟩
      rw [List.take_of_length_le (by omega)] at hT
      exact q H2 D ts (s1.trans s2) (Same.free s1 nD) hD hT
end
theorem room65 {k : Nat} {A : Around} (r : Room k A) : A.units + 65 < cLine := by
  have := r.un
  omega
/-! ### the price of a link, the places lower than both -/
def linkW : List Lnk → Int → Int → Option Int
  | [], _, _ => none
  | l :: r, x, y => if l.a = x ∧ l.b = y then l.t else if l.b = x ∧ l.a = y then l.k else linkW r x y
abbrev sLLink : Stmt := topS 24
abbrev sLower : Stmt := topS 25
theorem scLLink : FnScope ["net", "x", "y", "a", "b", "there", "back"] ["net", "x", "y"] (defScope sLLink) := ⟨rfl, rfl, rfl, by decide +kernel, rfl, by decide +kernel, by decide +kernel⟩
def spLLink (K : PySem.W.Frag) : Sp := fun vs H Q _ => ∃ (v : V) (N : Net) (x y : Int), vs = [v, .int x, .int y] ∧ Dp K H v (netD N) ∧ ∀ H', Same H H' → Q (oV (linkW N.ls x y)) H'
section
variable {P : Program} {w : World} {K : PySem.W.Frag} {mg : Str → Option Value} {base : Heap}
theorem ok_llink {f : Addr} {fd : FuncData} {k : Nat} (F : Fun K "_law_link" "_law_link" sLLink f fd) : FnOk P w K mg base CX0 (k + 1) f fd ["net", "x", "y"] (spLLink K) := by
  refine F.ok scLLink (fun vs H Q E h => ?_) (fun cdv A outer s H vs Q E hr h => ?_)
  · obtain ⟨v, N, x, y, rfl, _⟩ := h
    rfl
  · obtain ⟨v, N, x, y, rfl, hN, q⟩ := h
    refine ⟨_, pss_cons (ps_for PassesOwn.never rfl (pi_list (pe_ix ix_tup (pv 0) pe_int (fun _ _ => rfl))) (pg_tup rfl (pgs_cons (pg_name (i := 3) scLLink.nd rfl (.inl rfl)) (pgs_cons (pg_name (i := 4) scLLink.nd rfl (.inl rfl)) (pgs_cons (pg_name (i := 5) scLLink.nd rfl (.inl rfl)) (pgs_cons (pg_name (i := 6) scLLink.nd rfl (.inl rfl)) pgs_nil)))))
      (pss_cons (ps_if (pt_cmpR (op_eqD hr.units) (pe_tup (pa_cons (pv 3) (pa_cons (pv 4) pa_nil))) (pe_tup (pa_cons (pv 1) (pa_cons (pv 2) pa_nil))) (nomark _))
        (pss_one (ps_ret (pv 5)))
        pss_nil)
        (pss_one (ps_if (pt_cmpR (op_eqD hr.units) (pe_tup (pa_cons (pv 4) (pa_cons (pv 3) pa_nil))) (pe_tup (pa_cons (pv 1) (pa_cons (pv 2) pa_nil))) (nomark _))
        (pss_one (ps_ret (pv 6)))
        pss_nil))))
      (pss_one (ps_ret pe_non)), ?_⟩
    obtain ⟨p, c, xs, rfl, hp, hc, hx⟩ := Dp.net_inv hN
    refine (q_forLnk (vl_ixT (K := K) (vl_var rfl) vl_c hp (atI_nat (j := 1) rfl)) hc hx (Same.refl H) (fun i σ H' => Same H H' ∧ (∃ y3 y4 y5 y6, σ = [some (.ref p), some (.int x), some (.int y), y3, y4, y5, y6]) ∧ linkW N.ls x y = linkW (N.ls.drop i) x y) ⟨Same.refl H, ⟨none, none, none, none, rfl⟩, rfl⟩ (fun _ _ _ h => h.1) (fun i l σ H1 hi hP => ?_) (fun σ H1 hP => ?_))
    · obtain ⟨s1, ⟨y3, y4, y5, y6, rfl⟩, he⟩ := hP
      have hd : N.ls.drop i = l :: N.ls.drop (i + 1) := by
        obtain ⟨hlt, e⟩ := List.getElem?_eq_some_iff.mp hi
        rw [List.drop_eq_getElem_cons hlt, e]
      rw [hd] at he
      refine q_whenx (ax_eqTT (fun _ _ => vl_var rfl) (fun _ _ => vl_var rfl) (fun _ _ => vl_var rfl) (fun _ _ => vl_var rfl)) (fun hb H2 s2 => ?_) (fun hb H2 s2 => ?_)
      · refine g_ret (vl_var rfl) ?_
        have z : linkW N.ls x y = l.t := he.trans (if_pos (of_decide_eq_true hb))
        rw [← z]
        exact q H2 (s1.trans s2)
      · have n1 := of_decide_eq_false hb
        refine g_whenx (ax_eqTT (fun _ _ => vl_var rfl) (fun _ _ => vl_var rfl) (fun _ _ => vl_var rfl) (fun _ _ => vl_var rfl)) (fun hb H3 s3 => ?_) (fun hb H3 s3 => ?_)
        · refine g_ret (vl_var rfl) ?_
          have z : linkW N.ls x y = l.k := he.trans ((if_neg n1).trans (if_pos (of_decide_eq_true hb)))
          rw [← z]
          exact q H3 ((s1.trans s2).trans s3)
        · have n2 := of_decide_eq_false hb
          exact ⟨(s1.trans s2).trans s3, ⟨_, _, _, _, rfl⟩, he.trans ((if_neg n1).trans (if_neg n2))⟩
    · obtain ⟨s1, _, he⟩ := hP
      rw [List.drop_length] at he
      have z : linkW N.ls x y = none := he
      refine g_ret (v := oV (linkW N.ls x y)) ?_ (q H1 s1)
      rw [z]
      exact vl_c
end
section
variable {K : PySem.W.Frag} {σ : L2.St} {H : Hp} {ta tb te tl : TE} {tt : TT} {v : V}
/-- [f x for x in xs if ..], the test makes objects on its way -/
theorem vn_lcIX {j : Nat} {ns : List Int} {pb : Int → Bool} {f : Int → V} (hl : ∀ Q : VK, (∀ a H1, Same H H1 → SqL K H1 a (ns.map V.int) → Q (.ref a) H1) → tl σ H Q) (hz : ns.length ≤ 1000000)
    (ht : ∀ x ∈ ns, ∀ H', Same H H' → Ax tt ((σ.set j none).set j (some (.int x))) H' (pb x)) (he : ∀ x ∈ ns, ∀ H', Same H H' → Vl te ((σ.set j none).set j (some (.int x))) H' (f x)) :
    Vn (tLc (iList K tl) (gName j) tt te [j]) σ H ((ns.filter pb).map f) := fun Q q => by
  refine hl _ fun a H1 s1 hx => ⟨a, rfl, ⟨_, hx⟩, fun D nD => lc_list (xs := ns.map V.int) (fun i H' => H' D = some (.lst (((ns.take i).filter pb).map f)) ∧ Same H1 H') ⟨upd_same, same_upd nD⟩ (fun i H' _ hP => hP.2.seq hx) (fun i x H2 hi hP => ?_) (fun H2 hP => ?_)⟩
  · obtain ⟨hD, s2⟩ := hP
    rw [List.getElem?_map] at hi
    cases hg : ns[i]? with
    | none =>
      rw [hg] at hi
      cases hi
    | some n =>
      rw [hg] at hi
      cases hi
      have hm := List.mem_of_getElem? hg
      have e : (ns.take (i + 1)).filter pb = (ns.take i).filter pb ++ [n].filter pb := by
        rw [take_snoc hg]
        exact List.filter_append ..
      refine ⟨?_, ht n hm H2 (s1.trans s2) _ fun H3 s3 => ?_⟩
      · show ((σ.set j none).set j (some (V.int n))).set j none = σ.set j none
        rw [List.set_set, List.set_set]
      · cases hp : pb n with
        | true =>
          have e2 : [n].filter pb = [n] := by
            rw [List.filter_cons, hp]
            rfl
          refine iteT (B := H3 D = some (.lst (((ns.take (i + 1)).filter pb).map f)) ∧ Same H1 H3) (he n hm H3 ((s1.trans s2).trans s3) _ ⟨_, s3 _ _ hD, ?_, ?_, same_upd' (s2.trans s3) nD⟩)
          · rw [List.length_map]
            have h1 : ((ns.take i).filter pb).length ≤ ns.length := Nat.le_trans (List.length_filter_le _ _) (by rw [List.length_take]; exact Nat.min_le_right _ _)
            exact Nat.lt_of_le_of_lt (m := 1000000) (by omega) (by decide)
          · rw [upd_same, e, e2, List.map_append]
            rfl
        | false =>
          have e2 : [n].filter pb = [] := by
            rw [List.filter_cons, hp]
            rfl
          refine iteF ⟨?_, s2.trans s3⟩
          rw [e, e2, List.append_nil]
          exact s3 _ _ hD
  · obtain ⟨hD, s2⟩ := hP
    rw [show ns.take (ns.map V.int).length = ns by rw [List.length_map, List.take_length]] at hD
    exact q D H2 (s1.trans s2) (Same.free s1 nD) hD
theorem lay_pairs : ∀ L : List (Int × Int), PyData.canLayAll0 (L.map pairD2) = true ∧ PyData.depthAll (L.map pairD2) ≤ 1
  | [] => ⟨rfl, Nat.zero_le _⟩
  | x :: L => by
    have ih := lay_pairs L
    constructor
    · show ((true && (true && true)) && PyData.canLayAll0 (L.map pairD2)) = true
      rw [ih.1]
      rfl
    · show max (max 0 (max 0 0) + 1) (PyData.depthAll (L.map pairD2)) ≤ 1
      have := ih.2
      simp only [Nat.max_self, Nat.zero_add]
      omega
theorem shaped_pairs (L : List (Int × Int)) : SeqAt.shaped (.list (L.map pairD2)) = true := by
  have h := lay_pairs L
  show (PyData.canLayAll0 (L.map pairD2) && decide (PyData.depthAll (L.map pairD2) + 1 ≤ 64)) = true
  rw [h.1, decide_eq_true (show PyData.depthAll (L.map pairD2) + 1 ≤ 64 by
    have := h.2
    omega)]
  rfl
theorem any_pairs (L : List (Int × Int)) (p q : Int) : ((L.map pairD2).any fun z => PyData.eqv z (.tuple [.int p, .int q])) = decide ((p, q) ∈ L) := by
  rw [Bool.eq_iff_iff, List.any_eq_true, decide_eq_true_eq]
  have e : ∀ x : Int × Int, PyData.eqv (pairD2 x) (.tuple [.int p, .int q]) = decide (x = (p, q)) := fun x => by
    obtain ⟨a, b⟩ := x
    show (a == p && (b == q && true)) = _
    rw [Bool.and_true, Bool.eq_iff_iff]
    simp
  constructor
  · rintro ⟨z, hz, hq⟩
    obtain ⟨x, hx, rfl⟩ := List.mem_map.mp hz
    rw [e, decide_eq_true_eq] at hq
    rw [← hq]
    exact hx
  · intro h
    refine ⟨_, List.mem_map_of_mem h, ?_⟩
    rw [e, decide_eq_true rfl]
theorem ax_inP {p q : Int} {f : V} {L : List (Int × Int)} {tf : TE} (ha : ∀ H', Same H H' → Vl ta σ H' (.int p)) (hb : ∀ H', Same H H' → Vl tb σ H' (.int q)) (hf : ∀ H', Same H H' → Vl tf σ H' f) (hd : Dp K H f (.list (L.map pairD2))) :
    Ax (tTest (tOp (rInD K) (tTup (tCons ta (tCons tb tNil))) tf)) σ H (decide ((p, q) ∈ L)) := fun Q k =>
  ha H (Same.refl H) _ (hb H (Same.refl H) _ ⟨by show 2 ≤ sizeLine; decide, fun T nT => by
    have s1 : Same H (upd H T (.tup [.int p, .int q])) := same_upd nT
    refine hf _ s1 _ ⟨.tuple [.int p, .int q], L.map pairD2, .tup (.of upd_same) (.cons (.int _) (.cons (.int _) .nil)), Dp.to hd s1, by rfl, shaped_pairs L, _, rfl, ?_⟩
    rw [any_pairs]
    exact k _ s1⟩)
end
theorem scLower : FnScope ["found", "order", "low", "high", "w"] ["found", "order", "low", "high"] (defScope sLower) := ⟨rfl, rfl, rfl, by decide +kernel, rfl, by decide +kernel, by decide +kernel⟩
def lowerL (L : List (Int × Int)) (os : List Int) (u v : Int) : List Int := os.filter fun w => decide ((w, u) ∈ L) && decide ((w, v) ∈ L)
def spLower (K : PySem.W.Frag) : Sp := fun vs H Q _ => ∃ (f : V) (L : List (Int × Int)) (o : Addr) (os : List Int) (u v : Int), vs = [f, .ref o, .int u, .int v] ∧ Dp K H f (.list (L.map pairD2)) ∧ SqL K H o (os.map V.int) ∧ os.length ≤ 1000 ∧
  ∀ p H', Same H H' → H p = none → H' p = some (.lst ((lowerL L os u v).map V.int)) → Q (.ref p) H'
section
variable {P : Program} {w : World} {K : PySem.W.Frag} {mg : Str → Option Value} {base : Heap}
theorem ok_lower {f : Addr} {fd : FuncData} {k : Nat} (F : Fun K "_law_lower" "_law_lower" sLower f fd) : FnOk P w K mg base CX0 (k + 1) f fd ["found", "order", "low", "high"] (spLower K) := by
  refine F.ok scLower (fun vs H Q E h => ?_) (fun cdv A outer s H vs Q E hr h => ?_)
  · obtain ⟨f, L, o, os, u, v, rfl, _⟩ := h
    rfl
  · obtain ⟨f, L, o, os, u, v, rfl, hF, hO, hz, q⟩ := h
    refine ⟨_, pss_one (ps_ret (pe_lc (own := [("w", 4)]) (g := gName 4) (tt := (tAnd (tTest (tOp (rInD K) (tTup (tCons (tVar 4) (tCons (tVar 2) tNil))) (tVar 0))) (tTest (tOp (rInD K) (tTup (tCons (tVar 4) (tCons (tVar 3) tNil))) (tVar 0))))) (te := (tVar 4)) (by rfl) scLower.nd (pi_list (pv 1)) (blkOk_by (own := [("w", 4)]) (N := ["found", "order", "low", "high", "w"]) (sc := defScope sLower) (by decide +kernel)) (fun _ _ _ _ _ => pg_name (i := 4) scLower.nd rfl (Or.inl rfl)) (fun _ _ _ _ _ => by exact (pts_one (PW.pt (pw_and (pt_cmpR (op_inD (room65 hr)) (pe_tup (pa_cons (pv 4) (pa_cons (pv 2) pa_nil))) (pv 0) (by rfl)) (pw_and1 (pt_cmpR (op_inD (room65 hr)) (pe_tup (pa_cons (pv 4) (pa_cons (pv 3) pa_nil))) (pv 0) (by rfl))))))) (fun _ _ _ _ _ => by exact (pv 4)))), ?_⟩
    refine (vn_lcIX (f := V.int) (pb := fun w => decide ((w, u) ∈ L) && decide ((w, v) ∈ L)) (vx_list (vl_var rfl) hO) (by omega) (fun x _ H1 s1 => ax_and (ax_inP (fun _ _ => vl_var rfl) (fun _ _ => vl_var rfl) (fun _ _ => vl_var rfl) (Dp.to hF s1)) (fun _ H2 s2 => ax_inP (fun _ _ => vl_var rfl) (fun _ _ => vl_var rfl) (fun _ _ => vl_var rfl) (Dp.to hF (s1.trans s2)))) (fun x _ H1 _ => vl_var rfl)) _ fun p H' s' np e => q p H' s' np e
end
end Ovc
namespace PySem.W
open PySem PySem.Calls PyProof.Rows PySem.Spec
section
variable {prog : Program} {w : World} {K : Type} [DecidableEq K] {knd : HeapKind prog w K} {A : Around} {E : Value → Shared → Prop} {s : Shared} {a b : Addr} {xs ys : List (K × Addr × Value)}
def HitsH (prog : Program) (w : World) (A : Around) (s : Shared) (xs ys : List (K × Addr × Value)) : Prop := ∀ x ∈ xs, (∃ (j : Nat) (p : Addr × Value), ys[j]? = some (x.1, p)) ∧ ∀ (j : Nat) (p : Addr × Value), ys[j]? = some (x.1, p) → SeqAt.EqP prog w A s x.2.2 p.2 true
/-- the dicts whose keys stand in the heap, all their values equal -/
theorem samePairsH {nm : String} {Q : Bool → Shared → Prop} (ha : (a == sysModules) = false) (hb : (b == sysModules) = false) (da : s.heap.DictOfH knd a xs) (db : s.heap.DictOfH knd b ys) (hu : knd.room A) (hl : xs.length = ys.length) (hits : HitsH prog w A s xs ys) (h : Q true s) :
    wpAny (model prog w) A (Builtin.Dict.samePairs nm a b) Q E s := by
  obtain ⟨oa, es, ep, hoa, _, hda, hea, hia, hna⟩ := da
  obtain ⟨ob, es', ep', hob, _, hdb, heb, hib, hnb⟩ := db
  have hla := size_of_entries hea
  have hlb := size_of_entries heb
  unfold Builtin.Dict.samePairs Builtin.Dict.showsAll
  rw [if_neg (show ¬ (a == sysModules) = true by rw [ha]; exact Bool.false_ne_true), if_neg (show ¬ (b == sysModules) = true by rw [hb]; exact Bool.false_ne_true)]
  refine wpAny_bind (wpAny_pure (wpAny_bind (wpAny_pure ?_)))
  refine wpAny_bind (wpAny_dictEntries hoa hda ?_)
  dsimp only
  refine wpAny_bind (wpAny_dictEntries hob hdb ?_)
  have hsz : es.size = es'.size := by omega
  rw [if_neg (by rw [hsz]; simp)]
  refine wpAny_bind (wpAny_dictEpoch hoa hda ?_)
  refine wpAny_bind ?_
  rw [Std.Legacy.Range.forIn_eq_forIn_range']
  simp only [Std.Legacy.Range.size, Nat.sub_zero, Nat.add_sub_cancel, Nat.div_one]
  refine wpAny_forIn_list _ (fun rest q s' => s' = s ∧ q = (none, ()) ∧ ∃ i, rest = List.range' i (es.size - i) ∧ i ≤ es.size) _ ?_ ?_ _ _ ⟨rfl, rfl, 0, by simp, Nat.zero_le _⟩
  · rintro x rest q s' ⟨rfl, rfl, i, hr, hi⟩
    have hlt : i < es.size := by
      rcases Nat.lt_or_ge i es.size with h | h
      · exact h
      · rw [Nat.sub_eq_zero_of_le h] at hr
        simp at hr
    obtain ⟨rfl, hrest⟩ : x = i ∧ rest = List.range' (i + 1) (es.size - (i + 1)) := by
      have e : es.size - i = (es.size - (i + 1)) + 1 := by omega
      rw [e, List.range'_succ] at hr
      injection hr with h1 h2
      exact ⟨h1, h2⟩
    have hx' : x < xs.length := by omega
    have hm : xs[x] ∈ xs := List.getElem_mem hx'
    have hx : es[x]? = some (entryOfKey knd xs[x]) := by
      rw [entry_at hea, List.getElem?_eq_getElem hx']
      rfl
    refine wpAny_bind (wpAny_dictEntries hoa hda ?_)
    rw [hx]
    show wpAny _ _ (holding [(entryOfKey knd xs[x]).key, (entryOfKey knd xs[x]).val] _ >>= _) _ _ _
    refine wpAny_bind (wpAny_holding (wpAny_bind (wpAny_dictFind_heap hu (hia _ hm) hob hdb heb hib hnb (fun hno => ?_) (fun j p hj => ?_))))
    · obtain ⟨⟨j, p, hj⟩, _⟩ := hits _ hm
      exact absurd hj (hno j p)
    · have hy : es'[j]? = some (entryOfKey knd (xs[x].1, p)) := by
        rw [entry_at heb, hj]
        rfl
      refine wpAny_bind (wpAny_dictEntries hob hdb ?_)
      rw [hy]
      refine wpAny_holding ((hits _ hm).2 j p hj _ _ ?_)
      show wpAny _ _ (if (!true) = true then _ else _) _ _ _
      rw [if_neg (by decide)]
      refine wpAny_bind (wpAny_dictEpoch hoa hda ?_)
      rw [if_neg (by simp)]
      exact wpAny_pure ⟨rfl, rfl, x + 1, hrest, hlt⟩
  · rintro q s' ⟨rfl, rfl, i, hr, hi⟩
    refine wpAny_pure ?_
    exact h
theorem eqH_dicts {Q : Value → Shared → Prop} (ha : (a == sysModules) = false) (hb : (b == sysModules) = false) (da : s.heap.DictOfH knd a xs) (db : s.heap.DictOfH knd b ys) (hu : A.units < cLine) (hr : knd.room A.in1) (hl : xs.length = ys.length)
    (hits : HitsH prog w A.in1 s xs ys) (h : Q (.bool true) s) : wpAny (model prog w) A (compareOp .Eq (.ref a) (.ref b)) Q E s := by
  refine wpAny_richCompare_same_room (op := .Eq) da.typeIs db.typeIs PySem.F.slot_dict_eq (wpAny_call_entry PySem.F.slot_dict_eq da.typeIs PySem.F.entry_dict_eq ?_ (PySem.F.args_dict_eq_2 _ _)) hu
  show wpAny _ _ (Builtin.Dict.dictSlotArgs "__eq__" ⟨[.ref a, .ref b], []⟩ >>= _) _ _ s
  refine wpAny_bind ?_
  unfold Builtin.Dict.dictSlotArgs
  refine wpAny_bind (wpAny_notOrdered_dict da.typeIs ?_)
  show wpAny _ _ (pure (Value.ref a, Value.ref b)) _ _ s
  refine wpAny_pure ?_
  refine wpAny_bind (wpAny_isInstance (T := "dict") db.typeIs PySem.F.sub_dict_dict ?_)
  simp only [Bool.not_true, Bool.false_eq_true, if_false]
  refine wpAny_bind (wpAny_pure (wpAny_bind (wpAny_pure ?_)))
  refine wpAny_bind (samePairsH ha hb da db hr hl hits ?_)
  refine wpAny_pure ⟨_, rfl, ?_, ?_⟩
  · exact fun x => nomatch x
  · simpa using h
theorem neH_dicts {Q : Value → Shared → Prop} (ha : (a == sysModules) = false) (hb : (b == sysModules) = false) (da : s.heap.DictOfH knd a xs) (db : s.heap.DictOfH knd b ys) (hu : A.units < cLine) (hr : knd.room A.in1) (hl : xs.length = ys.length)
    (hits : HitsH prog w A.in1 s xs ys) (h : Q (.bool false) s) : wpAny (model prog w) A (compareOp .NotEq (.ref a) (.ref b)) Q E s := by
  refine wpAny_richCompare_same_room (op := .NotEq) da.typeIs db.typeIs PySem.F.slot_dict_ne (wpAny_call_entry PySem.F.slot_dict_ne da.typeIs PySem.F.entry_dict_ne ?_ (PySem.F.args_dict_ne_2 _ _)) hu
  show wpAny _ _ (Builtin.Dict.dictSlotArgs "__ne__" ⟨[.ref a, .ref b], []⟩ >>= _) _ _ s
  refine wpAny_bind ?_
  unfold Builtin.Dict.dictSlotArgs
  refine wpAny_bind (wpAny_notOrdered_dict da.typeIs ?_)
  show wpAny _ _ (pure (Value.ref a, Value.ref b)) _ _ s
  refine wpAny_pure ?_
  refine wpAny_bind (wpAny_isInstance (T := "dict") db.typeIs PySem.F.sub_dict_dict ?_)
  simp only [Bool.not_true, Bool.false_eq_true, if_false]
  refine wpAny_bind (wpAny_pure (wpAny_bind (wpAny_pure ?_)))
  refine wpAny_bind (samePairsH ha hb da db hr hl hits ?_)
  refine wpAny_pure ⟨_, rfl, ?_, ?_⟩
  · exact fun x => nomatch x
  · simpa using h
end
end PySem.W
namespace L2
open PySem PySem.Spec PyProof.Rows
section
variable {X : Cx} {pins : List (Addr × Obj)} {σ : L2.St} {H : Hp} {s : Shared} {a b : Addr} {ks ls : List (List L2.Key × V)}
theorem atKey_get {K : Type} [DecidableEq K] {xs : List (K × Addr × Value)} {k : K} {p : Addr × Value} (h : atKey xs k = some p) : ∃ j : Nat, xs[j]? = some (k, p) := by
  unfold atKey at h
  obtain ⟨x, hx, e⟩ := Option.map_eq_some_iff.mp h
  have hm := List.mem_of_find?_eq_some hx
  have hk := List.find?_some hx
  obtain ⟨j, hj⟩ := List.mem_iff_getElem?.mp hm
  refine ⟨j, ?_⟩
  rw [hj]
  obtain ⟨k', p'⟩ := x
  have e1 : k' = k := of_decide_eq_true hk
  have e2 : p' = p := e
  rw [e1, e2]
/-- two dicts by tuples that are equal -/
def EqT (K : PySem.W.Frag) (H : Hp) (ks ls : List (List L2.Key × V)) : Prop := ks.length = ls.length ∧ ∀ p ∈ ks, ∃ u, valV ls p.1 = some u ∧ EqV K H 50 p.2 u
theorem hitsT (I : Inv X pins σ H s) {A : Around} (hu : A.units + 50 < cLine) : ∀ {ks : List (List L2.Key × V)} {xs : List (List L2.Key × Addr × Value)}, KT H ks xs → ∀ {ys : List (List L2.Key × Addr × Value)}, KT H ls ys → (ys.map (·.1)).Nodup → (∀ p ∈ ks, ∃ u, valV ls p.1 = some u ∧ EqV X.K H 50 p.2 u) →
    PySem.W.HitsH X.prog X.w A s xs ys := by
  intro ks xs q
  induction q with
  | nil => intro ys _ _ _ x hx; exact nomatch hx
  | @cons p q ps qs hq t ih =>
    intro ys hy hn hp x hx
    rcases List.mem_cons.mp hx with e | hx
    · subst e
      obtain ⟨e1, _, r1⟩ := hq
      obtain ⟨u, hv, he⟩ := hp p List.mem_cons_self
      obtain ⟨w', hw, rw'⟩ := RelO.some_of (v := u) (o := (atKey ys p.1).map (·.2)) (by rw [← hv]; exact KT.val hy p.1)
      obtain ⟨pr, hpr, hp2⟩ := Option.map_eq_some_iff.mp hw
      constructor
      · obtain ⟨j, hj⟩ := atKey_get hpr
        exact ⟨j, pr, by rw [← e1]; exact hj⟩
      · intro j pr' hj
        have e2 : atKey ys p.1 = some pr' := by
          rw [e1]
          exact atKey_of_get hn hj
        rw [hpr] at e2
        cases e2
        refine eqV_run I 50 A hu p.2 u _ _ he r1 ?_
        rw [hp2]
        exact rw'
    · exact ih hy hn (fun p' hm => hp p' (List.mem_cons_of_mem _ hm)) x hx
def rEqT (K : PySem.W.Frag) : R2 := fun x y H Q => ∃ a b ks ls, x = .ref a ∧ y = .ref b ∧ H a = some (.dT ks) ∧ H b = some (.dT ls) ∧ EqT K H ks ls ∧ Q (.bl true) H
def rNeT (K : PySem.W.Frag) : R2 := fun x y H Q => ∃ a b ks ls, x = .ref a ∧ y = .ref b ∧ H a = some (.dT ks) ∧ H b = some (.dT ls) ∧ EqT K H ks ls ∧ Q (.bl false) H
theorem op_eqT (hu : X.A.units + 64 < cLine) : OpR X (compareOp .Eq) (rEqT X.K) := by
  intro pins s σ H x y v u Q I rx ry h
  obtain ⟨a, b, ks, ls, rfl, rfl, ea, eb, ⟨hl, hp⟩, q⟩ := h
  obtain rfl : v = Value.ref a := rx
  obtain rfl : u = Value.ref b := ry
  obtain ⟨_, ya, xs, ra, da⟩ := dt_of I.hok ea
  obtain ⟨_, yb, ys, rb, db⟩ := dt_of I.hok eb
  have hn := db
  obtain ⟨_, _, _, _, _, _, _, _, hn⟩ := hn
  exact PySem.W.eqH_dicts ya yb da db (by omega) (tupleKind_room_in1 (by omega)) (by rw [← ra.length, ← rb.length]; exact hl) (hitsT I (A := X.A.in1) (by show X.A.units + 1 + 50 < cLine; omega) ra rb hn hp) ⟨.bl true, H, I, rfl, q⟩
theorem op_neT (hu : X.A.units + 64 < cLine) : OpR X (compareOp .NotEq) (rNeT X.K) := by
  intro pins s σ H x y v u Q I rx ry h
  obtain ⟨a, b, ks, ls, rfl, rfl, ea, eb, ⟨hl, hp⟩, q⟩ := h
  obtain rfl : v = Value.ref a := rx
  obtain rfl : u = Value.ref b := ry
  obtain ⟨_, ya, xs, ra, da⟩ := dt_of I.hok ea
  obtain ⟨_, yb, ys, rb, db⟩ := dt_of I.hok eb
  have hn := db
  obtain ⟨_, _, _, _, _, _, _, _, hn⟩ := hn
  exact PySem.W.neH_dicts ya yb da db (by omega) (tupleKind_room_in1 (by omega)) (by rw [← ra.length, ← rb.length]; exact hl) (hitsT I (A := X.A.in1) (by show X.A.units + 1 + 50 < cLine; omega) ra rb hn hp) ⟨.bl false, H, I, rfl, q⟩
end
end L2
namespace Ovc
open PySem PySem.Spec PyProof.Rows L2
end Ovc
namespace Ovc
open PySem PySem.Spec PyProof.Rows L2
/-! ### how long a text of data is -/
theorem textFrom_le : ∀ (ts : List Str) (k : Nat) (acc : Str), (textFrom k acc ts).length ≤ acc.length + piled ts
  | [], k, acc => Nat.le_add_right _ _
  | t :: r, k, acc => by
    have h := textFrom_le r (k + 1) (acc ++ (if k > 0 then ", " else "" : String) ++ t)
    have e : (acc ++ (if k > 0 then ", " else "" : String) ++ t).length ≤ acc.length + 2 + t.length := by
      rw [strLen_append, strLen_append]
      split
      · have : (Str.ofString ", ").length = 2 := by decide +kernel
        omega
      · have : (Str.ofString "").length = 0 := by decide +kernel
        omega
    show (textFrom (k + 1) _ r).length ≤ acc.length + piled (t :: r)
    rw [piled_cons]
    omega
theorem listText_le (ts : List Str) : (listText ts).length ≤ piled ts + 2 := by
  unfold listText
  rw [strLen_append]
  have h := textFrom_le ts 0 "["
  have e1 : ("[" : Str).length = 1 := by decide +kernel
  have e2 : ("]" : Str).length = 1 := by decide +kernel
  omega
theorem tupleText_le (ts : List Str) : (tupleText ts).length ≤ piled ts + 4 := by
  unfold tupleText
  rw [strLen_append, strLen_append]
  have e1 : ("(" : Str).length = 1 := by decide +kernel
  have e2 : ((if ts.length == 1 then ",)" else ")" : String) : Str).length ≤ 2 := by
    split
    · exact Nat.le_of_eq (by decide +kernel)
    · exact Nat.le_trans (Nat.le_of_eq (by decide +kernel)) (show 1 ≤ 2 by decide)
  by_cases h : ts = []
  · subst h
    have e3 : (Str.join ", " []).length = 0 := by decide +kernel
    omega
  · have := join_length_add ts h
    omega
theorem piled_le {ds : List PyData} {m : Nat} (h : ∀ d ∈ ds, d.shown.length ≤ m) : piled (PyData.shownAll ds) ≤ ds.length * (m + 2) := by
  induction ds with
  | nil => exact Nat.zero_le _
  | cons d r ih =>
    show piled (d.shown :: PyData.shownAll r) ≤ _
    rw [piled_cons, List.length_cons, Nat.succ_mul]
    have h1 := h d List.mem_cons_self
    have h2 := ih fun x hx => h x (List.mem_cons_of_mem _ hx)
    omega
theorem shown_int {i : Int} (h0 : 0 ≤ i) (h1 : i ≤ 10000000) : (PyData.int i).shown.length ≤ 10 := PySem.W.KT.len_num h0 (by omega)
theorem shown_o {o : Option Int} (h : PriceOk o) : (oD o).shown.length ≤ 10 := by
  cases o with
  | none =>
    show ("None" : Str).length ≤ 10
    decide +kernel
  | some x =>
    have := h x rfl
    exact shown_int (by omega) (by omega)
theorem showable_int {i : Int} (h0 : 0 ≤ i) (h1 : i ≤ 10000000) : (PyData.int i).showable = true := by
  refine decide_eq_true ?_
  by_cases hz : i.natAbs = 0
  · rw [hz]
    decide
  · rw [Nat.log2_lt hz]
    have h : i.natAbs < 2 ^ 24 := by omega
    exact Nat.lt_of_lt_of_le h (Nat.pow_le_pow_right (by decide : 2 > 0) (show 24 ≤ 1920 by decide))
theorem showable_o {o : Option Int} (h : PriceOk o) : (oD o).showable = true := by
  cases o with
  | none => rfl
  | some x =>
    have := h x rfl
    exact showable_int (by omega) (by omega)
theorem showable_all {ds : List PyData} (h : ∀ d ∈ ds, d.showable = true) : PyData.showableAll ds = true := by
  induction ds with
  | nil => rfl
  | cons d r ih =>
    show (d.showable && PyData.showableAll r) = true
    rw [h d List.mem_cons_self, ih fun x hx => h x (List.mem_cons_of_mem _ hx)]
    rfl
/-- what repr asks of data -/
structure ShowOk (d : PyData) (m : Nat) : Prop where
  sh : d.showable = true
  nd : d.hasDict = false
  dep : d.depth ≤ 10
  len : d.shown.length ≤ m
theorem showOk_net {N : Net} (ok : NetOk N) : ShowOk (netD N) 200000 := by
  have n1 := ok.n1
  have n40 := ok.n40
  have l16 := ok.len
  have hl : ∀ d ∈ N.ls.map lnkD, d.shown.length ≤ 60 ∧ d.showable = true := fun d hd => by
    obtain ⟨l, hl, rfl⟩ := List.mem_map.mp hd
    have h := ok.ok l hl
    have a0 := h.a0
    have ab := h.ab
    have bn := h.bn
    have s1 := shown_int (i := l.a) (by omega) (by omega)
    have s2 := shown_int (i := l.b) (by omega) (by omega)
    have s3 := shown_o h.t
    have s4 := shown_o h.k
    constructor
    · show (tupleText (PyData.shownAll [.int l.a, .int l.b, oD l.t, oD l.k])).length ≤ 60
      have := tupleText_le (PyData.shownAll [.int l.a, .int l.b, oD l.t, oD l.k])
      have p := piled_le (ds := [.int l.a, .int l.b, oD l.t, oD l.k]) (m := 10) (fun d hd => by
        simp only [List.mem_cons, List.not_mem_nil, or_false] at hd
        rcases hd with rfl | rfl | rfl | rfl <;> assumption)
      have e : ([.int l.a, .int l.b, oD l.t, oD l.k] : List PyData).length = 4 := rfl
      rw [e] at p
      omega
    · show (PyData.showableAll [.int l.a, .int l.b, oD l.t, oD l.k]) = true
      refine showable_all fun d hd => ?_
      simp only [List.mem_cons, List.not_mem_nil, or_false] at hd
      rcases hd with rfl | rfl | rfl | rfl
      · exact showable_int (by omega) (by omega)
      · exact showable_int (by omega) (by omega)
      · exact showable_o h.t
      · exact showable_o h.k
  have p := piled_le (ds := N.ls.map lnkD) (m := 60) fun d hd => (hl d hd).1
  rw [List.length_map] at p
  have q := listText_le (PyData.shownAll (N.ls.map lnkD))
  have s1 := shown_int (i := N.n) (by omega) (by omega)
  refine ⟨?_, PyData.hasDict_of_canLay _ (lay_net N).1, Nat.le_trans (lay_net N).2 (by decide), ?_⟩
  · show (PyData.showableAll [.int N.n, .list (N.ls.map lnkD)]) = true
    refine showable_all fun d hd => ?_
    simp only [List.mem_cons, List.not_mem_nil, or_false] at hd
    rcases hd with rfl | rfl
    · exact showable_int (by omega) (by omega)
    · exact showable_all fun d hd => (hl d hd).2
  · show (tupleText (PyData.shownAll [.int N.n, .list (N.ls.map lnkD)])).length ≤ 200000
    have := tupleText_le (PyData.shownAll [.int N.n, .list (N.ls.map lnkD)])
    have p2 := piled_le (ds := [.int N.n, .list (N.ls.map lnkD)]) (m := 99902) (fun d hd => by
      simp only [List.mem_cons, List.not_mem_nil, or_false] at hd
      rcases hd with rfl | rfl
      · omega
      · show (listText (PyData.shownAll (N.ls.map lnkD))).length ≤ 99902
        omega)
    have e : ([.int N.n, .list (N.ls.map lnkD)] : List PyData).length = 2 := rfl
    rw [e] at p2
    omega
theorem showOk_ints {ns : List Int} (h : ∀ x ∈ ns, 0 ≤ x ∧ x ≤ 10000000) (hl : ns.length ≤ 1000) : ShowOk (.list (ns.map PyData.int)) 20000 := by
  have p := piled_le (ds := ns.map PyData.int) (m := 10) fun d hd => by
    obtain ⟨x, hx, rfl⟩ := List.mem_map.mp hd
    exact shown_int (h x hx).1 (h x hx).2
  rw [List.length_map] at p
  have q := listText_le (PyData.shownAll (ns.map PyData.int))
  refine ⟨?_, PyData.hasDict_of_canLay _ ((lay_ints ns).1), ?_, ?_⟩
  · refine showable_all fun d hd => ?_
    obtain ⟨x, hx, rfl⟩ := List.mem_map.mp hd
    exact showable_int (h x hx).1 (h x hx).2
  · show PyData.depthAll (ns.map PyData.int) + 1 ≤ 10
    rw [(lay_ints ns).2]
    decide
  · show (listText (PyData.shownAll (ns.map PyData.int))).length ≤ 20000
    omega
theorem showOk_pair {a b : PyData} {m : Nat} (ha : ShowOk a m) (hb : ShowOk b m) : (PyData.tuple [a, b]).showable = true ∧ (PyData.tuple [a, b]).hasDict = false ∧ (PyData.tuple [a, b]).depth ≤ 60 ∧ (PyData.tuple [a, b]).shown.length ≤ 2 * (m + 2) + 4 := by
  refine ⟨?_, ?_, ?_, ?_⟩
  · show (PyData.showableAll [a, b]) = true
    exact showable_all fun d hd => by
      simp only [List.mem_cons, List.not_mem_nil, or_false] at hd
      rcases hd with rfl | rfl
      · exact ha.sh
      · exact hb.sh
  · show (a.hasDict || (b.hasDict || false)) = false
    rw [ha.nd, hb.nd]
    rfl
  · show max a.depth (max b.depth 0) + 1 ≤ 60
    have := ha.dep
    have := hb.dep
    omega
  · have := tupleText_le (PyData.shownAll [a, b])
    have p := piled_le (ds := [a, b]) (m := m) (fun d hd => by
      simp only [List.mem_cons, List.not_mem_nil, or_false] at hd
      rcases hd with rfl | rfl
      · exact ha.len
      · exact hb.len)
    have e : ([a, b] : List PyData).length = 2 := rfl
    rw [e] at p
    show (tupleText (PyData.shownAll [a, b])).length ≤ _
    omega
/-! ### the rows of a filling -/
structure Row where
  u : Int
  v : Int
  up : Option Int
  dn : Option Int
  um : Option Int
  dm : Option Int
def rowV (r : Row) : List V := [.int r.u, .int r.v, oV r.up, oV r.dn, oV r.um, oV r.dm]
def rowD (r : Row) : PyData := .tuple [.int r.u, .int r.v, oD r.up, oD r.dn, oD r.um, oD r.dm]
def prR (rows : List Row) (x y : Int) : Option Int :=
  match rows.find? (fun r => decide (r.u = x ∧ r.v = y)) with
  | some r => r.up
  | none => match rows.find? (fun r => decide (r.u = y ∧ r.v = x)) with
    | some r => r.dn
    | none => none
def addO : Option Int → Option Int → Option Int
  | some a, some b => some (a + b)
  | _, _ => none
def bestStep (s : Int → Option Int) (acc : Option Int × Option Int) (w : Int) : Option Int × Option Int :=
  match s w with
  | none => acc
  | some t => match acc.1 with
    | none => (some t, some w)
    | some b => if t < b then (some t, some w) else acc
/-- the least of what stands first and of all s w, the first w of it -/
def bestF (o : Option Int) (s : Int → Option Int) (ws : List Int) : Option Int × Option Int := ws.foldl (bestStep s) (o, none)
structure FillOk (N : Net) (os : List Int) (rows : List Row) : Prop where
  pairs : rows.map (fun r => (r.u, r.v)) = pairsL N.ls os
  up : ∀ r ∈ rows, (r.up, r.um) = bestF (linkW N.ls r.u r.v) (fun w => addO (prR rows r.u w) (prR rows w r.v)) (lowerL (pairsL N.ls os) os r.u r.v)
  dn : ∀ r ∈ rows, (r.dn, r.dm) = bestF (linkW N.ls r.v r.u) (fun w => addO (prR rows r.v w) (prR rows w r.u)) (lowerL (pairsL N.ls os) os r.u r.v)
theorem prR_some {rows : List Row} {x y c : Int} (h : prR rows x y = some c) : (∃ r ∈ rows, r.u = x ∧ r.v = y ∧ r.up = some c) ∨ ∃ r ∈ rows, r.u = y ∧ r.v = x ∧ r.dn = some c := by
  unfold prR at h
  cases e : rows.find? (fun r => decide (r.u = x ∧ r.v = y)) with
  | some r =>
    rw [e] at h
    have h1 : r.u = x ∧ r.v = y := by simpa using List.find?_some e
    exact .inl ⟨r, List.mem_of_find?_eq_some e, h1.1, h1.2, h⟩
  | none =>
    rw [e] at h
    cases e2 : rows.find? (fun r => decide (r.u = y ∧ r.v = x)) with
    | some r =>
      rw [e2] at h
      have h1 : r.u = y ∧ r.v = x := by simpa using List.find?_some e2
      exact .inr ⟨r, List.mem_of_find?_eq_some e2, h1.1, h1.2, h⟩
    | none =>
      rw [e2] at h
      cases h
theorem addO_some {a b : Option Int} {c : Int} (h : addO a b = some c) : ∃ x y, a = some x ∧ b = some y ∧ c = x + y := by
  cases a with
  | none => cases h
  | some x =>
    cases b with
    | none => cases h
    | some y =>
      cases h
      exact ⟨x, y, rfl, rfl, rfl⟩
/-- what holds of all that is compared holds of the best -/
theorem best_all {P : Int → Prop} {M : Int → Prop} {s : Int → Option Int} : ∀ (ws : List Int) (acc : Option Int × Option Int), (∀ c, acc.1 = some c → P c) → (∀ w, acc.2 = some w → M w) → (∀ w ∈ ws, (∀ c, s w = some c → P c) ∧ M w) →
    (∀ c, (ws.foldl (bestStep s) acc).1 = some c → P c) ∧ ∀ w, (ws.foldl (bestStep s) acc).2 = some w → M w
  | [], acc, h1, h2, _ => ⟨h1, h2⟩
  | w :: ws, acc, h1, h2, h3 => by
    have hw := h3 w List.mem_cons_self
    refine best_all ws (bestStep s acc w) ?_ ?_ (fun x hx => h3 x (List.mem_cons_of_mem _ hx))
    · intro c hc
      unfold bestStep at hc
      cases e : s w with
      | none =>
        rw [e] at hc
        exact h1 c hc
      | some t =>
        rw [e] at hc
        cases e2 : acc.1 with
        | none =>
          simp only [e2] at hc
          cases hc
          exact hw.1 _ e
        | some b =>
          simp only [e2] at hc
          by_cases l : t < b
          · rw [if_pos l] at hc
            cases hc
            exact hw.1 _ e
          · rw [if_neg l] at hc
            exact h1 c hc
    · intro m hm
      unfold bestStep at hm
      cases e : s w with
      | none =>
        rw [e] at hm
        exact h2 m hm
      | some t =>
        rw [e] at hm
        cases e2 : acc.1 with
        | none =>
          simp only [e2] at hm
          cases hm
          exact hw.2
        | some b =>
          simp only [e2] at hm
          by_cases l : t < b
          · rw [if_pos l] at hm
            cases hm
            exact hw.2
          · rw [if_neg l] at hm
            exact h2 m hm
theorem linkW_ok : ∀ {ls : List Lnk} {n x y c : Int}, (∀ l ∈ ls, LnkOk n l) → linkW ls x y = some c → 1 ≤ c ∧ c ≤ 1000000
  | [], _, _, _, _, _, h => nomatch h
  | l :: r, n, x, y, c, ok, h => by
    unfold linkW at h
    have hl := ok l List.mem_cons_self
    by_cases c1 : l.a = x ∧ l.b = y
    · rw [if_pos c1] at h
      exact hl.t c h
    · rw [if_neg c1] at h
      by_cases c2 : l.b = x ∧ l.a = y
      · rw [if_pos c2] at h
        exact hl.k c h
      · rw [if_neg c2] at h
        exact linkW_ok (fun z hz => ok z (List.mem_cons_of_mem _ hz)) h
theorem mem_lowerL {L : List (Int × Int)} {os : List Int} {u v w : Int} : w ∈ lowerL L os u v ↔ w ∈ os ∧ (w, u) ∈ L ∧ (w, v) ∈ L := by
  unfold lowerL
  rw [List.mem_filter, Bool.and_eq_true, decide_eq_true_eq, decide_eq_true_eq]
section
variable {N : Net} {os : List Int} {rows : List Row}
theorem FillOk.pair (ok : NetOk N) (oo : OrdOk N.n os) (h : FillOk N os rows) {r : Row} (hr : r ∈ rows) : PairP N.ls os r.u r.v := by
  have e : (r.u, r.v) ∈ rows.map (fun r => (r.u, r.v)) := List.mem_map.mpr ⟨r, hr, rfl⟩
  rw [h.pairs] at e
  exact (mem_pairsL ok oo).mp e
/-- no price is more than doubled from one place to the next -/
theorem FillOk.bound (ok : NetOk N) (oo : OrdOk N.n os) (h : FillOk N os rows) : ∀ (k : Nat) (r : Row), r ∈ rows → posOf r.u os ≤ k → (∀ c, r.up = some c → 1 ≤ c ∧ c ≤ 1000000 * 2 ^ k) ∧ (∀ c, r.dn = some c → 1 ≤ c ∧ c ≤ 1000000 * 2 ^ k) ∧ (∀ w, r.um = some w → w ∈ os) ∧ ∀ w, r.dm = some w → w ∈ os := by
  intro k
  induction k with
  | zero =>
    intro r hr hk
    have base : ∀ w ∈ lowerL (pairsL N.ls os) os r.u r.v, False := fun w hw => by
      have p := (mem_pairsL ok oo).mp (mem_lowerL.mp hw).2.1
      have := p.1
      omega
    have b1 := best_all (P := fun c => 1 ≤ c ∧ c ≤ 1000000 * 2 ^ 0) (M := fun w => w ∈ os) (s := fun w => addO (prR rows r.u w) (prR rows w r.v)) (lowerL (pairsL N.ls os) os r.u r.v) (linkW N.ls r.u r.v, none) (fun c hc => by
      have := linkW_ok ok.ok hc
      omega) (fun w hw => nomatch hw) (fun w hw => (base w hw).elim)
    have b2 := best_all (P := fun c => 1 ≤ c ∧ c ≤ 1000000 * 2 ^ 0) (M := fun w => w ∈ os) (s := fun w => addO (prR rows r.v w) (prR rows w r.u)) (lowerL (pairsL N.ls os) os r.u r.v) (linkW N.ls r.v r.u, none) (fun c hc => by
      have := linkW_ok ok.ok hc
      omega) (fun w hw => nomatch hw) (fun w hw => (base w hw).elim)
    have e1 := h.up r hr
    have e2 := h.dn r hr
    unfold bestF at e1 e2
    rw [← e1] at b1
    rw [← e2] at b2
    exact ⟨b1.1, b2.1, b1.2, b2.2⟩
  | succ k ih =>
    intro r hr hk
    have pw : (1000000 : Int) * 2 ^ (k + 1) = 2 * (1000000 * 2 ^ k) := by
      rw [Int.pow_succ]
      omega
    have pos : (1 : Int) ≤ 2 ^ k := by
      have h0 : (0 : Int) < 2 ^ k := Int.pow_pos (by decide)
      omega
    have price : ∀ w z, w ∈ lowerL (pairsL N.ls os) os r.u r.v → (z = r.u ∨ z = r.v) → (∀ c, prR rows z w = some c → 1 ≤ c ∧ c ≤ 1000000 * 2 ^ k) ∧ ∀ c, prR rows w z = some c → 1 ≤ c ∧ c ≤ 1000000 * 2 ^ k := by
      intro w z hw hz
      have hm := mem_lowerL.mp hw
      have pu := (mem_pairsL ok oo).mp hm.2.1
      have pv := (mem_pairsL ok oo).mp hm.2.2
      have lz : posOf w os < posOf z os := by
        rcases hz with rfl | rfl
        · exact pu.1
        · exact pv.1
      have lw : posOf w os ≤ k := by
        have := pu.1
        omega
      have key : ∀ q ∈ rows, ((q.u = z ∧ q.v = w) → False) := fun q hq e => by
        have := (h.pair ok oo hq).1
        rw [e.1, e.2] at this
        omega
      constructor
      · intro c hc
        rcases prR_some hc with ⟨q, hq, e1, e2, _⟩ | ⟨q, hq, e1, e2, e3⟩
        · exact (key q hq ⟨e1, e2⟩).elim
        · exact (ih q hq (by rw [e1]; exact lw)).2.1 c e3
      · intro c hc
        rcases prR_some hc with ⟨q, hq, e1, e2, e3⟩ | ⟨q, hq, e1, e2, _⟩
        · exact (ih q hq (by rw [e1]; exact lw)).1 c e3
        · exact (key q hq ⟨e1, e2⟩).elim
    have b1 := best_all (P := fun c => 1 ≤ c ∧ c ≤ 1000000 * 2 ^ (k + 1)) (M := fun w => w ∈ os) (s := fun w => addO (prR rows r.u w) (prR rows w r.v)) (lowerL (pairsL N.ls os) os r.u r.v) (linkW N.ls r.u r.v, none) (fun c hc => by
      have := linkW_ok ok.ok hc
      omega) (fun w hw => nomatch hw) (fun w hw => ⟨fun c hc => by
        obtain ⟨x, y, hx, hy, rfl⟩ := addO_some hc
        have q1 := (price w r.u hw (.inl rfl)).1 x hx
        have q2 := (price w r.v hw (.inr rfl)).2 y hy
        omega, (mem_lowerL.mp hw).1⟩)
    have b2 := best_all (P := fun c => 1 ≤ c ∧ c ≤ 1000000 * 2 ^ (k + 1)) (M := fun w => w ∈ os) (s := fun w => addO (prR rows r.v w) (prR rows w r.u)) (lowerL (pairsL N.ls os) os r.u r.v) (linkW N.ls r.v r.u, none) (fun c hc => by
      have := linkW_ok ok.ok hc
      omega) (fun w hw => nomatch hw) (fun w hw => ⟨fun c hc => by
        obtain ⟨x, y, hx, hy, rfl⟩ := addO_some hc
        have q1 := (price w r.v hw (.inr rfl)).1 x hx
        have q2 := (price w r.u hw (.inl rfl)).2 y hy
        omega, (mem_lowerL.mp hw).1⟩)
    have e1 := h.up r hr
    have e2 := h.dn r hr
    unfold bestF at e1 e2
    rw [← e1] at b1
    rw [← e2] at b2
    exact ⟨b1.1, b2.1, b1.2, b2.2⟩
end
/-! ### the program's promises of a filling -/
def spFill (K : PySem.W.Frag) : Sp := fun vs H Q _ => ∃ (v : V) (N : Net) (p : Addr) (os : List Int), vs = [v, .ref p] ∧ Dp K H v (netD N) ∧ NetOk N ∧ SqL K H p (os.map V.int) ∧ OrdOk N.n os ∧
  ∀ H' q ts rows, Same H H' → H q = none → H' q = some (.lst ts) → DpAll K H' ts (rows.map rowD) → FillOk N os rows → Q (.ref q) H'
/-- the dict of lower places, its lists new in H' -/
structure LowD (H H' : Hp) (d : Addr) (kvs : List (List L2.Key × V)) (L : List (Int × Int)) (os : List Int) : Prop where
  d : H' d = some (.dT kvs)
  len : kvs.length = L.length
  all : ∀ p ∈ kvs, ∃ u v a, (u, v) ∈ L ∧ p = ([Sum.inl u, Sum.inl v], .ref a) ∧ H a = none ∧ H' a = some (.lst ((lowerL L os u v).map V.int))
  has : ∀ u v, (u, v) ∈ L → ∃ y, valV kvs [Sum.inl u, Sum.inl v] = some y
def spLowerPl (K : PySem.W.Frag) : Sp := fun vs H Q _ => ∃ (v : V) (N : Net) (p : Addr) (os : List Int) (rows : List Row), vs = [v, .ref p] ∧ Dp K H v (.list (rows.map rowD)) ∧ NetOk N ∧ SqL K H p (os.map V.int) ∧ OrdOk N.n os ∧ FillOk N os rows ∧
  ∀ H' d kvs, Same H H' → H d = none → LowD H H' d kvs (pairsL N.ls os) os → Q (.ref d) H'
def spCheckFill (K : PySem.W.Frag) : Sp := fun vs H Q _ => ∃ (v r : V) (N : Net) (p : Addr) (os : List Int) (rows : List Row), vs = [v, .ref p, r] ∧ Dp K H v (netD N) ∧ NetOk N ∧ SqL K H p (os.map V.int) ∧ OrdOk N.n os ∧ Dp K H r (.list (rows.map rowD)) ∧ rows.length ≤ 10000 ∧
  ∀ H' b, Same H H' → (b = true ↔ FillOk N os rows) → Q (.bl b) H'
/-! ### what repr asks of the rows -/
theorem shown_big {i : Int} (h0 : 0 ≤ i) (h1 : i ≤ 8192000000) : (PyData.int i).shown.length ≤ 10 := PySem.W.KT.len_num h0 (by omega)
theorem showable_big {i : Int} (h0 : 0 ≤ i) (h1 : i ≤ 8192000000) : (PyData.int i).showable = true := by
  refine decide_eq_true ?_
  by_cases hz : i.natAbs = 0
  · rw [hz]
    decide
  · rw [Nat.log2_lt hz]
    have h : i.natAbs < 2 ^ 33 := by omega
    exact Nat.lt_of_lt_of_le h (Nat.pow_le_pow_right (by decide : 2 > 0) (show 33 ≤ 1920 by decide))
theorem show_oB {o : Option Int} (h : ∀ c, o = some c → 0 ≤ c ∧ c ≤ 8192000000) : (oD o).shown.length ≤ 10 ∧ (oD o).showable = true := by
  cases o with
  | none =>
    refine ⟨?_, rfl⟩
    show ("None" : Str).length ≤ 10
    decide +kernel
  | some x =>
    have := h x rfl
    exact ⟨shown_big this.1 this.2, showable_big this.1 this.2⟩
theorem lay_row (r : Row) : (rowD r).canLay0 = true ∧ (rowD r).depth = 1 := by
  have h1 := lay_o r.up
  have h2 := lay_o r.dn
  have h3 := lay_o r.um
  have h4 := lay_o r.dm
  constructor
  · show (true && (true && ((oD r.up).canLay0 && ((oD r.dn).canLay0 && ((oD r.um).canLay0 && ((oD r.dm).canLay0 && true)))))) = true
    rw [h1.1, h2.1, h3.1, h4.1]
    rfl
  · show max 0 (max 0 (max (oD r.up).depth (max (oD r.dn).depth (max (oD r.um).depth (max (oD r.dm).depth 0))))) + 1 = 1
    rw [h1.2, h2.2, h3.2, h4.2]
    rfl
theorem lay_rows : ∀ rows : List Row, PyData.canLayAll0 (rows.map rowD) = true ∧ PyData.depthAll (rows.map rowD) ≤ 1
  | [] => ⟨rfl, Nat.zero_le _⟩
  | r :: rows => by
    have h := lay_row r
    have ih := lay_rows rows
    constructor
    · show ((rowD r).canLay0 && PyData.canLayAll0 (rows.map rowD)) = true
      rw [h.1, ih.1]
      rfl
    · show max (rowD r).depth (PyData.depthAll (rows.map rowD)) ≤ 1
      rw [h.2]
      have := ih.2
      omega
theorem showOk_rows {N : Net} {os : List Int} {rows : List Row} (ok : NetOk N) (oo : OrdOk N.n os) (h : FillOk N os rows) (hn : N.n ≤ 13) : ShowOk (.list (rows.map rowD)) 200000 := by
  have n1 := ok.n1
  have n40 := ok.n40
  have hlen : rows.length ≤ 1600 := by
    have e := congrArg List.length h.pairs
    rw [List.length_map] at e
    rw [e]
    exact pairsL_len ok oo
  have one : ∀ r ∈ rows, (rowD r).shown.length ≤ 76 ∧ (rowD r).showable = true := fun r hr => by
    have pp := h.pair ok oo hr
    have pi := pp.ins ok
    have hv : r.v ∈ os := oo.mem.mpr pi.2
    have lv := posOf_lt hv
    have lv2 : posOf r.v os < os.length := (List.getElem?_eq_some_iff.mp lv).1
    have ol := oo.len
    have p1 := pp.1
    have b := h.bound ok oo 13 r hr (by omega)
    have e13 : (1000000 : Int) * 2 ^ 13 = 8192000000 := by decide
    rw [e13] at b
    have mid : ∀ o : Option Int, (∀ w, o = some w → w ∈ os) → ∀ c, o = some c → 0 ≤ c ∧ c ≤ 8192000000 := fun o ho c hc => by
      have := oo.mem.mp (ho c hc)
      omega
    have s1 := show_oB (o := r.up) fun c hc => by
      have := b.1 c hc
      omega
    have s2 := show_oB (o := r.dn) fun c hc => by
      have := b.2.1 c hc
      omega
    have s3 := show_oB (mid r.um b.2.2.1)
    have s4 := show_oB (mid r.dm b.2.2.2)
    have each : ∀ d ∈ [PyData.int r.u, .int r.v, oD r.up, oD r.dn, oD r.um, oD r.dm], d.shown.length ≤ 10 ∧ d.showable = true := fun d hd => by
      simp only [List.mem_cons, List.not_mem_nil, or_false] at hd
      rcases hd with rfl | rfl | rfl | rfl | rfl | rfl
      · exact ⟨shown_big (by omega) (by omega), showable_big (by omega) (by omega)⟩
      · exact ⟨shown_big (by omega) (by omega), showable_big (by omega) (by omega)⟩
      · exact s1
      · exact s2
      · exact s3
      · exact s4
    constructor
    · show (tupleText (PyData.shownAll [.int r.u, .int r.v, oD r.up, oD r.dn, oD r.um, oD r.dm])).length ≤ 76
      have t := tupleText_le (PyData.shownAll [.int r.u, .int r.v, oD r.up, oD r.dn, oD r.um, oD r.dm])
      have p := piled_le (m := 10) fun d hd => (each d hd).1
      have e : ([.int r.u, .int r.v, oD r.up, oD r.dn, oD r.um, oD r.dm] : List PyData).length = 6 := rfl
      rw [e] at p
      omega
    · show (PyData.showableAll [.int r.u, .int r.v, oD r.up, oD r.dn, oD r.um, oD r.dm]) = true
      exact showable_all fun d hd => (each d hd).2
  have p := piled_le (ds := rows.map rowD) (m := 76) fun d hd => by
    obtain ⟨r, hr, rfl⟩ := List.mem_map.mp hd
    exact (one r hr).1
  rw [List.length_map] at p
  have q := listText_le (PyData.shownAll (rows.map rowD))
  have ly := lay_rows rows
  refine ⟨?_, PyData.hasDict_of_canLay _ ly.1, ?_, ?_⟩
  · refine showable_all fun d hd => ?_
    obtain ⟨r, hr, rfl⟩ := List.mem_map.mp hd
    exact (one r hr).2
  · show PyData.depthAll (rows.map rowD) + 1 ≤ 10
    have := ly.2
    omega
  · show (listText (PyData.shownAll (rows.map rowD))).length ≤ 200000
    omega
/-! ### pairs are told once -/
theorem nodup_pairs {f : Int → List Int} (hf : ∀ u, (f u).Nodup) : ∀ us : List Int, us.Nodup → (us.flatMap fun u => (f u).map fun v => (u, v)).Nodup
  | [], _ => by
    show ([] : List (Int × Int)).Nodup
    exact List.nodup_nil
  | u :: us, h => by
    rw [List.nodup_cons] at h
    rw [List.flatMap_cons, List.nodup_append]
    refine ⟨?_, nodup_pairs hf us h.2, fun a ha b hb e => ?_⟩
    · exact List.Pairwise.map _ (fun a b hab e => hab (congrArg Prod.snd e)) (hf u)
    · subst e
      obtain ⟨v, _, rfl⟩ := List.mem_map.mp ha
      obtain ⟨u', hu', hv'⟩ := List.mem_flatMap.mp hb
      obtain ⟨v', _, e⟩ := List.mem_map.mp hv'
      have : u' = u := congrArg Prod.fst e
      subst this
      exact h.1 hu'
theorem pairsL_nodup {n : Int} {ls : List Lnk} {os : List Int} (oo : OrdOk n os) : (pairsL ls os).Nodup := by
  unfold pairsL
  exact nodup_pairs (fun u => by
    unfold upP
    exact List.Pairwise.filter _ oo.nodup) os oo.nodup
section
variable {K : PySem.W.Frag} {σ : L2.St} {H : Hp} {a : Addr} {D : Ends} {tz tw : TS}
/-- for u, v in a list of pairs -/
theorem g_forP {j1 j2 : Nat} {xs : List V} {L : List (Int × Int)} {tl : TE} (h : Vl tl σ H (.ref a)) (hx : SqL K H a xs) (hlen : xs.length = L.length) (Pv : Nat → L2.St → Hp → Prop) (h0 : Pv 0 σ H) (hl : ∀ i σ' H', Pv i σ' H' → SqL K H' a xs ∧ TupsAt H' xs L)
    (hs : ∀ (i : Nat) u v t σ H, L[i]? = some (u, v) → H t = some (.tup [.int u, .int v]) → Pv i σ H → tz { D with nx := Pv (i + 1), ct := Pv (i + 1), bk := D.nx } ((σ.set j1 (some (.int u))).set j2 (some (.int v))) H) (hd : ∀ σ H, Pv L.length σ H → D.nx σ H) :
    tFor (iList K tl) (gTup K 2 (gCons (gName j1) (gCons (gName j2) gNil))) tz D σ H := h _ ⟨a, rfl, ⟨_, hx⟩, for_list (xs := xs) Pv h0 (fun i σ H _ p => (hl i σ H p).1) (fun i x σ H hi p => by
      have hlt := (List.getElem?_eq_some_iff.mp hi).1
      have hg : L[i]? = some L[i] := List.getElem?_eq_getElem (by omega)
      obtain ⟨t, h1, h2⟩ := (hl i σ H p).2.at_ i L[i].1 L[i].2 hg
      cases hi.symm.trans h1
      exact ⟨t, _, rfl, .of h2, rfl, _, _, rfl, _, _, rfl, rfl, hs i _ _ t σ H hg h2 p⟩) (fun σ H p => by
      rw [hlen] at p
      exact hd σ H p)⟩
theorem q_forP {j1 j2 : Nat} {xs : List V} {L : List (Int × Int)} {tl : TE} (h : Vl tl σ H (.ref a)) (hx : SqL K H a xs) (hlen : xs.length = L.length) (Pv : Nat → L2.St → Hp → Prop) (h0 : Pv 0 σ H) (hl : ∀ i σ' H', Pv i σ' H' → SqL K H' a xs ∧ TupsAt H' xs L)
    (hs : ∀ (i : Nat) u v t σ H, L[i]? = some (u, v) → H t = some (.tup [.int u, .int v]) → Pv i σ H → tz { D with nx := Pv (i + 1), ct := Pv (i + 1), bk := tw D } ((σ.set j1 (some (.int u))).set j2 (some (.int v))) H) (hd : ∀ σ H, Pv L.length σ H → tw D σ H) :
    tSeq (tFor (iList K tl) (gTup K 2 (gCons (gName j1) (gCons (gName j2) gNil))) tz) tw D σ H := g_forP (D := { D with nx := tw D }) h hx hlen Pv h0 hl hs hd
end
theorem eqV_ints {K : PySem.W.Frag} {H : Hp} {a b : Addr} {ns : List Int} (h1 : H a = some (.lst (ns.map V.int))) (h2 : H b = some (.lst (ns.map V.int))) : EqV K H 50 (.ref a) (.ref b) := by
  refine .inr (.inr (.inl ⟨a, b, _, _, rfl, rfl, .of h1, .of h2, ?_⟩))
  clear h1 h2
  induction ns with
  | nil => exact .nil
  | cons n r ih => exact .cons (.inl ⟨rfl, rfl⟩) ih
/-! ### the dict that the law makes of the lower places -/
structure DueL (G H : Hp) (o : Addr) (kvs : List (List L2.Key × V)) (L : List (Int × Int)) (os : List Int) (i : Nat) : Prop where
  d : H o = some (.dT kvs)
  sm : Same G (but H o)
  len : kvs.length = i
  of : ∀ u v, (u, v) ∈ L.take i → ∃ a, valV kvs [Sum.inl u, Sum.inl v] = some (.ref a) ∧ but H o a = some (.lst ((lowerL L os u v).map V.int)) ∧ G a = none
  un : ∀ u v y, valV kvs [Sum.inl u, Sum.inl v] = some y → (u, v) ∈ L.take i
theorem DueL.step {G H H9 : Hp} {o al T : Addr} {kvs : List (List L2.Key × V)} {L : List (Int × Int)} {os : List Int} {i : Nat} {u v : Int} (h : DueL G H o kvs L os i) (hn : L.Nodup) (hi : L[i]? = some (u, v)) (s9 : Same H H9) (nal : H al = none) (hal : H9 al = some (.lst ((lowerL L os u v).map V.int))) (nT : H9 T = none) :
    DueL G (upd (upd H9 T (.tup [.int u, .int v])) o (.dT (putK kvs [Sum.inl u, Sum.inl v] (.ref al)))) o (putK kvs [Sum.inl u, Sum.inl v] (.ref al)) L os (i + 1) := by
  have hlt := (List.getElem?_eq_some_iff.mp hi).1
  have new : (u, v) ∉ L.take i := fun hm => by
    obtain ⟨j, hj, ej⟩ := List.getElem_of_mem hm
    rw [List.length_take] at hj
    have pw := List.pairwise_iff_getElem.mp hn
    have e1 : L[j]'(by omega) = (u, v) := by rw [← ej, List.getElem_take]
    have e2 : L[i] = (u, v) := (List.getElem?_eq_some_iff.mp hi).2
    exact pw j i (by omega) hlt (by omega) (e1.trans e2.symm)
  have vn : valV kvs [Sum.inl u, Sum.inl v] = none := by
    cases e : valV kvs [Sum.inl u, Sum.inl v] with
    | none => rfl
    | some y => exact absurd (h.un u v y e) new
  have tk : L.take (i + 1) = L.take i ++ [(u, v)] := take_snoc hi
  have sT : Same H9 (upd H9 T (.tup [.int u, .int v])) := same_upd nT
  have sB : Same (but H o) (but (upd H9 T (.tup [.int u, .int v])) o) := but_mono (s9.trans sT)
  have oal : al ≠ o := fun e => by
    rw [e, h.d] at nal
    cases nal
  refine ⟨upd_same, ?_, ?_, fun x y hm => ?_, fun x y z hz => ?_⟩
  · rw [but_upd]
    exact h.sm.trans sB
  · unfold putK
    rw [valV_any, vn, if_neg (by simp), List.length_append, h.len]
    rfl
  · rw [valV_put, but_upd]
    rw [tk, List.mem_append, List.mem_singleton] at hm
    rcases hm with hm | hm
    · have ne : ¬ ([Sum.inl x, Sum.inl y] : List L2.Key) = [Sum.inl u, Sum.inl v] := fun e => by
        injection e with e1 e2
        injection e2 with e2 _
        have e1 := Sum.inl.inj e1
        have e2 := Sum.inl.inj e2
        subst e1
        subst e2
        exact new hm
      rw [if_neg ne]
      obtain ⟨a, h1, h2, h3⟩ := h.of x y hm
      exact ⟨a, h1, sB _ _ h2, h3⟩
    · cases hm
      rw [if_pos rfl]
      refine ⟨al, rfl, ?_, ?_⟩
      · rw [but_ne oal]
        exact sT _ _ hal
      · cases e : G al with
        | none => rfl
        | some z =>
          have := h.sm _ _ e
          rw [but_ne oal, nal] at this
          cases this
  · rw [valV_put] at hz
    rw [tk, List.mem_append, List.mem_singleton]
    by_cases e : ([Sum.inl x, Sum.inl y] : List L2.Key) = [Sum.inl u, Sum.inl v]
    · injection e with e1 e2
      injection e2 with e2 _
      rw [Sum.inl.inj e1, Sum.inl.inj e2]
      exact .inr rfl
    · rw [if_neg e] at hz
      exact .inl (h.un x y z hz)
/-! ### a heap without some addresses -/
open Classical in
noncomputable def mask (T : Addr → Prop) (H : Hp) : Hp := fun b => if T b then none else H b
theorem mask_ne {T : Addr → Prop} {H : Hp} {b : Addr} (h : ¬ T b) : mask T H b = H b := if_neg h
theorem mask_at {T : Addr → Prop} {H : Hp} {b : Addr} (h : T b) : mask T H b = none := if_pos h
theorem mask_same {T : Addr → Prop} {H : Hp} : Same (mask T H) H := fun b x e => by
  by_cases h : T b
  · rw [mask_at h] at e
    cases e
  · rw [mask_ne h] at e
    exact e
theorem same_mask {T : Addr → Prop} {G H : Hp} (s : Same G H) (h : ∀ b, T b → G b = none) : Same G (mask T H) := fun b x e => by
  have hb : ¬ T b := fun z => by
    rw [h b z] at e
    cases e
  rw [mask_ne hb]
  exact s b x e
theorem mask_mono {T : Addr → Prop} {G H : Hp} (s : Same G H) : Same (mask T G) (mask T H) := fun b x e => by
  by_cases h : T b
  · rw [mask_at h] at e
    cases e
  · rw [mask_ne h] at e ⊢
    exact s b x e
theorem mask_upd {T : Addr → Prop} {H : Hp} {a : Addr} {u : HO} (h : T a) : mask T (upd H a u) = mask T H := by
  funext b
  by_cases hb : T b
  · rw [mask_at hb, mask_at hb]
  · rw [mask_ne hb, mask_ne hb, upd_ne (fun e => hb (by rw [e]; exact h))]
end Ovc
namespace L2
open PySem PySem.Spec PyProof.Rows
/-! ### a dict comprehension whose keys are tuples -/
theorem dictSetT {X : Cx} {pins : List (Addr × Obj)} {σ : St} {H : Hp} {s : Shared} {E : Value → Shared → Prop} {D b : Addr} {kvs : List (List Key × V)} {k : List Key} {v : V} {r : Value} {Q : Unit → Shared → Prop} (hu : X.A.units + 1 < cLine) (I : Inv X pins σ H s)
    (hD : H D = some (.dT kvs)) (hb : H b = some (.tup (k.map kV))) (hz : kvs.length < sizeLine) (rv : RelV v r) (done : ∀ s', Inv X pins σ (upd H D (.dT (putK kvs k v))) s' → Q () s') : wpAny (model X.prog X.w) X.A (dictSet D (.ref b) r) Q E s := by
  obtain ⟨_, notSys, us, rel, dof⟩ := dt_of I.hok hD
  have us_small : us.length ≤ sizeLine := by
    have := Paired.length rel
    omega
  have put_small : (putK kvs k v).length ≤ sizeLine := by
    have := length_putK kvs k v
    omega
  refine wpAny_dictSet_heap (hsz := us_small) (Nat.lt_of_succ_lt hu) (key_of I.hok hb) dof fun h' after same => done _ ?_
  obtain ⟨ob, es, ep, at_, e2, e3, e4, _, e6⟩ := after
  refine d_write I (by rw [hD] <;> exact True.intro) same ⟨ob, at_⟩ ⟨put_small, notSys, _, (rel.put k hb rv).keeps fun c ys ec => ?_, ob, es, ep, at_, e2, e3, e4, e6⟩
  rw [upd_ne (ne_of ec hD (fun z => nomatch z))]
  exact ec
section
variable {X : Cx}
/-- the reading: D the new dict; y the key, a tuple of ints and texts -/
def tDcT (wi : TI) (g : TG) (tt : TT) (tk tv : TE) (vs : List Nat) : TE := fun σ H Q => wi σ H fun J H1 => ∀ D, H1 D = none → ∃ W : Nat → Nat → Hp → Prop, (∃ m, W 0 m (upd H1 D (.dT []))) ∧ ∀ i m H, W i m H →
  (J.stop i H ∧ Q (.ref D) H) ∨ (J.go i H ∧ ∃ Nx : Hp → Prop, (∀ H', Nx H' → ∃ m', m' < m ∧ W (i + 1) m' H') ∧ ∀ x H', J.yld i H x H' → g x (wipe σ vs) H' fun σ2 H2 => wipe σ2 vs = wipe σ vs ∧ tt σ2 H2 fun c H3 =>
    if c = true then tk σ2 H3 fun y H4 => tv σ2 H4 fun z H5 => ∃ kvs k b, y = .ref b ∧ H5 b = some (.tup (k.map kV)) ∧ H5 D = some (.dT kvs) ∧ kvs.length < sizeLine ∧ Nx (upd H5 D (.dT (putK kvs k z))) else Nx H3)
theorem dcT_core {pins : List (Addr × Obj)} {s : Shared} {σ : St} {H : Hp} {Q : VK} {kx vx tg iter : Expr} {ifs : List Expr} {scope : Scope} {own : List (Str × Nat)} {pos pos' : Pos} {wi : TI} {g : TG} {tt : TT} {tk tv : TE} {use : Option (Value → Sem Unit)} {Qf : Value → Shared → Prop} (hu : X.A.units + 1 < cLine) (calm : X.calm = true) (nd : X.N.Nodup) (src : PI X tg iter wi) (ok : BlkOk X.N X.env.scope scope own)
    (pg : ∀ (s : Shared) (H : Hp) (C : Addr) (cl : List (Str × Addr)) (fp : List Addr), PG (X.blk s H scope (compEnvC scope cl C X.env) fp) tg g)
    (pt : ∀ (s : Shared) (H : Hp) (C : Addr) (cl : List (Str × Addr)) (fp : List Addr), PTs (X.blk s H scope (compEnvC scope cl C X.env) fp) ifs tt)
    (pk : ∀ (s : Shared) (H : Hp) (C : Addr) (cl : List (Str × Addr)) (fp : List Addr), PE (X.blk s H scope (compEnvC scope cl C X.env) fp) kx tk)
    (pv : ∀ (s : Shared) (H : Hp) (C : Addr) (cl : List (Str × Addr)) (fp : List Addr), PE (X.blk s H scope (compEnvC scope cl C X.env) fp) vx tv) (I : Inv X pins σ H s) (hs : ∀ x, foldedSetIterable iter X.env x = pure x)
    (want : tDcT wi g tt tk tv (own.map (·.2)) σ H Q)
    (back : ∀ D C s' m H', Inv X pins σ H' s' → Q (.ref D) H' → s'.heap.Ns C m → FpOk X pins H' C → compPost (model X.prog X.w) X.A X.xe use Qf (.ref D) C (.ok .next) s') :
    wpAny (model X.prog X.w) X.A (comprehension (.DictComp kx vx [⟨tg, iter, ifs, 0⟩] scope pos) scope X.env pos' newDict false (eval iter X.env) use) Qf X.xe s := by
  have cells : ∀ y ∈ scope.names, y.2 = .free → ∃ c, X.env.cells.lookup y.1 = some c := fun y hy e => I.ok.has _ (ok.free y hy e)
  refine wpAny_comprehension_free (use := use) rfl hs (closure_ok cells) ok.kind (fun y hy e => by rw [ok.uniq y hy, e]) (thn (src.run pins s σ H _ I want) fun xv s1 r1 => thn r1 fun itv s2 r2 => ?_)
  obtain ⟨it, fp, tn, J, Hi, rfl, Ii, T, t0, own0, reading⟩ := r2
  refine wpAny_newObj_type (newEnv_comp ?_)
  -- the new dict stands at D
  generalize eD : s2.heap.objs.size = D
  have freeD : Hi D = none := Ii.hok.fresh (Nat.le_of_eq eD)
  obtain ⟨W, ⟨m0, begin_⟩, turn⟩ := reading D freeD
  generalize e3 : (Shared.mk (s2.heap.push { cls := .type "dict", data := .dict #[] }) s2.gens s2.drawn s2.toks s2.os) = s3
  have heap3 : s3.heap = s2.heap.push { cls := .type "dict", data := .dict #[] } := by rw [← e3]
  have I3 : Inv X pins σ (upd Hi D (.dT [])) s3 := by
    rw [← e3]
    refine Ii.laid (t' := s2.toks) (fun b o q => Heap.get?_push_of_some _ q) (Nat.le_of_eq eD) ?_
    have := dt_empty (P := X.prog) (w := X.w) (H := upd Hi D (.dT [])) s2.heap Ii.big
    rw [eD] at this
    exact this
  have below : ∀ b ∈ fp, b < s2.heap.objs.size := fun b hb => let ⟨_, q, _⟩ := T.obj _ _ t0 b hb; Heap.lt_size q
  have own3 : ∀ b ∈ fp, FpOk X pins (upd Hi D (.dT [])) b ∧ b < s3.heap.objs.size := fun b hb => by
    have lt := below b hb
    constructor
    · refine ⟨?_, (own0 b hb).2⟩
      rw [upd_ne (by rw [← eD] <;> exact Nat.ne_of_lt lt)]
      exact (own0 b hb).1
    · rw [heap3, Heap.size_push]
      exact Nat.lt_succ_of_lt lt
  have t3 : tn 0 s3.heap := T.keep _ _ _ t0 fun b _ o q => by
    rw [heap3]
    exact Heap.get?_push_of_some _ q
  have I4 := block_start I3 ok nd own3
  have none3 : ∀ b ∈ fp, (upd Hi D (.dT [])) b = none := fun b hb => (own3 b hb).1.1
  show codeAny _ _ (.compStart (.DictComp kx vx [⟨tg, iter, ifs, 0⟩] scope pos) 0 (.ref it) (.ref D) (compEnvC scope (cellsFrom (s3.heap.objs.size + 1) scope.names (cloFrom X.env.cells scope.names [])) s3.heap.objs.size X.env)) _ { s3 with heap := pushCells (s3.heap.push { cls := .type "dict", data := .dict #[] }) scope.names }
  have pg' := pg s3 (upd Hi D (.dT [])) s3.heap.objs.size (cellsFrom (s3.heap.objs.size + 1) scope.names (cloFrom X.env.cells scope.names [])) fp
  have pt' := pt s3 (upd Hi D (.dT [])) s3.heap.objs.size (cellsFrom (s3.heap.objs.size + 1) scope.names (cloFrom X.env.cells scope.names [])) fp
  have pk' := pk s3 (upd Hi D (.dT [])) s3.heap.objs.size (cellsFrom (s3.heap.objs.size + 1) scope.names (cloFrom X.env.cells scope.names [])) fp
  have pv' := pv s3 (upd Hi D (.dT [])) s3.heap.objs.size (cellsFrom (s3.heap.objs.size + 1) scope.names (cloFrom X.env.cells scope.names [])) fp
  generalize ece : compEnvC scope (cellsFrom (s3.heap.objs.size + 1) scope.names (cloFrom X.env.cells scope.names [])) s3.heap.objs.size X.env = ce at I4 pg' pt' pk' pv' ⊢
  have loc : ce.locals = s3.heap.objs.size := by rw [← ece] <;> rfl
  generalize upd Hi D (.dT []) = H3 at I3 I4 pg' pt' pk' pv' begin_ none3 own3
  generalize e4 : ({ s3 with heap := pushCells (s3.heap.push { cls := .type "dict", data := .dict #[] }) scope.names } : Shared) = s4 at I4 ⊢
  have t4 : tn 0 s4.heap := T.keep _ _ _ t3 fun b _ o q => by
    rw [← e4]
    exact pushCells_keeps _ _ _ _ (Heap.get?_push_of_some _ q)
  have mine : ∀ {σ' : St} {H' : Hp} {s' : Shared}, Inv (X.blk s3 H3 scope ce fp) [] σ' H' s' → (∀ b ∈ fp, H' b = none) → ∀ b ∈ fp, FpOk (X.blk s3 H3 scope ce fp) [] H' b := fun {σ' H' s'} J' hn b hb =>
    ⟨hn b hb, (J'.ok.exf b hb).1, J'.ok.exfs b hb, .inl hb, fun x c e => (J'.ok.exf b hb).2 x c e, fun p hp => by cases hp⟩
  refine codeAny_compStart_dict ?goes (T.self X.A 0 _ _ _ t4 ?goes)
  refine compLoop_anyD (fun n s' => ∃ i H', Inv (X.blk s3 H3 scope ce fp) [] (wipe σ (own.map (·.2))) H' s' ∧ tn i s'.heap ∧ (∀ b ∈ fp, H' b = none) ∧ W i n H') ?_ m0 ⟨0, H3, I4, t4, none3, begin_⟩
  rintro n s5 ⟨i, H5, I5, t5, n5, w5⟩
  rcases turn i n H5 w5 with ⟨over, q⟩ | ⟨goes, Nx, next, step⟩
  · refine thnF (T.done (X.blk s3 H3 scope ce fp) rfl rfl rfl calm i [] s5 _ H5 (fun _ _ => False) I5 (mine I5 n5) t5 over) fun r s6 ⟨hr, I6⟩ => ?_
    subst hr
    have out : Inv X pins σ H5 s6 := I3.call' (ch := fp) I6.os I6.base I6.hok I6.bare fun b hb => let f := (own3 b hb).1; ⟨f.2.2.2.1, f.2.1, f.2.2.2.2.1, f.2.2.2.2.2⟩
    have nC : H5 s3.heap.objs.size = none := by
      rw [← loc]
      exact I6.free
    obtain ⟨m, ns, _⟩ := I6.loc
    have ns : s6.heap.Ns ce.locals m := ns
    rw [loc] at ns
    exact back D s3.heap.objs.size s6 m H5 out q ns (I3.fpOk (Nat.le_refl _) nC)
  · refine thnF (T.item (X.blk s3 H3 scope ce fp) rfl rfl rfl calm i [] s5 _ H5 (fun _ _ => False) I5 (mine I5 n5) t5 goes) fun r s6 ⟨u, hr, r6⟩ => ?_
    subst hr
    refine thnF r6 fun _ s7 ⟨x, H7, I7, rx, y7, t7, n7⟩ => ?_
    refine thnF (pg'.run _ s7 _ H7 x u _ (I7.pinned (mine I7 n7) (T.obj _ _ t7)) rx (step x H7 y7)) fun _ s8 ⟨σ8, H8, I8, w8, q8⟩ => ?_
    refine thnF (pt'.run _ s8 σ8 H8 _ I8 q8) fun c s9 ⟨H9, I9, q9⟩ => ?_
    have close : ∀ {s' : Shared} {H' : Hp}, Inv (X.blk s3 H3 scope ce fp) ([] ++ pinsAt fp s7.heap) σ8 H' s' → Nx H' → ∃ m, m < n ∧ ∃ i H', Inv (X.blk s3 H3 scope ce fp) [] (wipe σ (own.map (·.2))) H' s' ∧ tn i s'.heap ∧ (∀ b ∈ fp, H' b = none) ∧ W i m H' := fun {s' H'} J' nx => by
      obtain ⟨m', lt, w'⟩ := next H' nx
      have pinned : ∀ b ∈ fp, ∀ o, s7.heap.get? b = some o → s'.heap.get? b = some o ∧ H' b = none := fun b hb o e =>
        let z := J'.pin (b, o) (List.mem_append_right _ (List.mem_append_right _ (mem_pinsAt hb e)))
        ⟨z.1, z.2.1⟩
      have len : (wipe σ (own.map (·.2))).length = σ8.length := by rw [← w8, wipe_length]
      refine ⟨m', lt, i + 1, H', (J'.unpinned (pins := [])).weak len (fun j v e => ?_), T.keep _ _ _ t7 fun b hb o e => (pinned b hb o e).1, fun b hb => ?_, w'⟩
      · rw [← w8] at e
        exact (wipe_some e).1
      · obtain ⟨o, e, _⟩ := T.obj _ _ t7 b hb
        exact (pinned b hb o e).2
    cases c with
    | false =>
      simp only [Bool.false_eq_true, if_false] at q9 ⊢
      exact close I9 q9
    | true =>
      simp only [if_true] at q9 ⊢
      refine thnF (pk'.run _ s9 σ8 H9 _ I9 q9) fun z s10 ⟨yk, H10, I10, r10, q10⟩ => ?_
      refine thnF (pv'.run _ s10 σ8 H10 _ I10 q10) fun z2 s11 ⟨yv, H11, I11, r11, kvs, k, b, ek, hb, hD, hz, nx⟩ => ?_
      subst ek
      cases (show z = Value.ref b from r10)
      exact dictSetT (X := X.blk s3 H3 scope ce fp) hu I11 hD hb hz r11 fun s12 I12 => close I12 nx
theorem pe_dcT {kx vx tg iter : Expr} {ifs : List Expr} {scope : Scope} {own : List (Str × Nat)} {pos : Pos} {wi : TI} {g : TG} {tt : TT} {tk tv : TE} (hu : X.A.units + 1 < cLine) (calm : X.calm = true) (nd : X.N.Nodup) (src : PI X tg iter wi) (ok : BlkOk X.N X.env.scope scope own)
    (pg : ∀ (s : Shared) (H : Hp) (C : Addr) (cl : List (Str × Addr)) (fp : List Addr), PG (X.blk s H scope (compEnvC scope cl C X.env) fp) tg g)
    (pt : ∀ (s : Shared) (H : Hp) (C : Addr) (cl : List (Str × Addr)) (fp : List Addr), PTs (X.blk s H scope (compEnvC scope cl C X.env) fp) ifs tt)
    (pk : ∀ (s : Shared) (H : Hp) (C : Addr) (cl : List (Str × Addr)) (fp : List Addr), PE (X.blk s H scope (compEnvC scope cl C X.env) fp) kx tk)
    (pv : ∀ (s : Shared) (H : Hp) (C : Addr) (cl : List (Str × Addr)) (fp : List Addr), PE (X.blk s H scope (compEnvC scope cl C X.env) fp) vx tv) (hs : ∀ x, foldedSetIterable iter X.env x = pure x := by intro _; rfl) :
    PE X (.DictComp kx vx [⟨tg, iter, ifs, 0⟩] scope pos) (tDcT wi g tt tk tv (own.map (·.2))) := by
  refine ⟨fun pins s σ H Q I want => ?_⟩
  rw [arm_eval_DictComp]
  refine dcT_core hu calm nd src ok pg pt pk pv I hs want fun D C s' m H' out q ns own' => ⟨m, ns, fun h'' sb => ?_⟩
  obtain ⟨f0, f1, f2, f3, f4, f5⟩ := own'
  exact ⟨.ref D, H', out.turned (t' := s'.toks) (fun b o hb e => (sb.2 b hb).trans e) f0 f1 f3 f4 f5, rfl, q⟩
/-! ### .. whose dict is stored at once -/
theorem swapsD {kx vx : Expr} {gs : List Comprehension} {scope : Scope} {pos py : Pos} {y : Str} {l : Nat} {env : Env} (fn : env.scope.kind = .function) (loc : env.scope.names.lookup y = some .local) (row : (py.line == pos.line) = true)
    (other : (scope.names.any fun (n, k) => n == y && (k == .local || k == .cell)) = false) : swapsWith (.DictComp kx vx gs scope pos) (some (.Name y py)) l env = pure true := by
  have k1 : env.kindOf y = some .local := loc
  have k2 : env.blockKind = .function := by
    unfold Env.blockKind
    rw [fn] <;> rfl
  unfold swapsWith
  simp only [k2, k1, other, Expr.pos, row]
  rfl
/-- the new dict in slot i -/
theorem stored_ok {pins : List (Addr × Obj)} {σ : St} {H' : Hp} {s' : Shared} {i : Nat} {y : Str} {py : Pos} {D C : Addr} {m : Str → Option Value} {Ends_ : Ends} (nd : X.N.Nodup) (at_ : X.N[i]? = some y) (loc : X.env.scope.names.lookup y = some .local)
    (I : Inv X pins σ H' s') (q : gName i (.ref D) σ H' Ends_.nx) (ns : s'.heap.Ns C m) (f : FpOk X pins H' C) :
    wpAny (model X.prog X.w) X.A (assign (.Name y py) X.env (.ref D)) (fun _ s'' => ∃ m, s''.heap.Ns C m ∧ ∀ h', Heap.SameBut C s''.heap h' → SP X pins Ends_ .next { s'' with heap := h' }) X.xe s' := by
  refine wpAny_assign_Name (store_ok2 (v := V.ref D) I nd at_ (.inl loc) rfl (fun s2 I2 where_ => ?_) (.inr loc))
  obtain ⟨a, sb, ha⟩ := where_
  obtain ⟨f0, f1, f2, f3, f4, f5⟩ := f
  have apart : C ≠ a := ha.elim (fun z => z ▸ f1) fun z e => f4 y a z e.symm
  exact ⟨m, ns.sameBut sb apart, fun h3 sb3 => ⟨_, H', I2.turned (t' := s2.toks) (fun b o hb e => (sb3.2 b hb).trans e) f0 f1 f3 f4 f5, q⟩⟩
theorem ps_setDcT {i : Nat} {y : Str} {py : Pos} {kx vx tg iter : Expr} {ifs : List Expr} {scope : Scope} {own : List (Str × Nat)} {pos spos : Pos} {wi : TI} {g : TG} {tt : TT} {tk tv : TE} (hu : X.A.units + 1 < cLine) (calm : X.calm = true) (nd : X.N.Nodup) (at_ : X.N[i]? = some y) (loc : X.env.scope.names.lookup y = some .local)
    (sw : swapsWith (.DictComp kx vx [⟨tg, iter, ifs, 0⟩] scope pos) (some (.Name y py)) spos.line X.env = pure true) (src : PI X tg iter wi) (ok : BlkOk X.N X.env.scope scope own)
    (pg : ∀ (s : Shared) (H : Hp) (C : Addr) (cl : List (Str × Addr)) (fp : List Addr), PG (X.blk s H scope (compEnvC scope cl C X.env) fp) tg g)
    (pt : ∀ (s : Shared) (H : Hp) (C : Addr) (cl : List (Str × Addr)) (fp : List Addr), PTs (X.blk s H scope (compEnvC scope cl C X.env) fp) ifs tt)
    (pk : ∀ (s : Shared) (H : Hp) (C : Addr) (cl : List (Str × Addr)) (fp : List Addr), PE (X.blk s H scope (compEnvC scope cl C X.env) fp) kx tk)
    (pv : ∀ (s : Shared) (H : Hp) (C : Addr) (cl : List (Str × Addr)) (fp : List Addr), PE (X.blk s H scope (compEnvC scope cl C X.env) fp) vx tv) (hs : ∀ x, foldedSetIterable iter X.env x = pure x := by intro _; rfl) :
    PS X (.Assign [.Name y py] (.DictComp kx vx [⟨tg, iter, ifs, 0⟩] scope pos) spos) (tAsg (tDcT wi g tt tk tv (own.map (·.2))) (gName i)) := by
  refine ⟨fun pins s σ H D I want => ?_⟩
  rw [exec_Assign_Name_used _ _ _ _ sw]
  refine wpAny_bind (wpAny_standAt (wpAny_bind ?_))
  show wpAny _ X.A (comprehension (.DictComp kx vx [⟨tg, iter, ifs, 0⟩] scope pos) scope X.env (firstIterPos [⟨tg, iter, ifs, 0⟩] pos) newDict false (eval iter X.env) (some (assign (.Name y py) X.env)) >>= _) _ _ s
  refine wpAny_bind (thn (dcT_core (Qf := fun _ s' => SP X pins D .next s') hu calm nd src ok pg pt pk pv I hs (show tDcT wi g tt tk tv (own.map (·.2)) σ H (fun x H1 => gName i x σ H1 D.nx) from want) fun A C s' m H' out q ns f => stored_ok nd at_ loc out q ns f) fun _ s' hq => wpAny_pure (wpAny_pure hq))
theorem ps_setDc {i : Nat} {y : Str} {py : Pos} {kx vx tg iter : Expr} {ifs : List Expr} {scope : Scope} {own : List (Str × Nat)} {pos spos : Pos} {wi : TI} {g : TG} {tt : TT} {tk tv : TE} (calm : X.calm = true) (nd : X.N.Nodup) (at_ : X.N[i]? = some y) (loc : X.env.scope.names.lookup y = some .local)
    (sw : swapsWith (.DictComp kx vx [⟨tg, iter, ifs, 0⟩] scope pos) (some (.Name y py)) spos.line X.env = pure true) (src : PI X tg iter wi) (ok : BlkOk X.N X.env.scope scope own)
    (pg : ∀ (s : Shared) (H : Hp) (C : Addr) (cl : List (Str × Addr)) (fp : List Addr), PG (X.blk s H scope (compEnvC scope cl C X.env) fp) tg g)
    (pt : ∀ (s : Shared) (H : Hp) (C : Addr) (cl : List (Str × Addr)) (fp : List Addr), PTs (X.blk s H scope (compEnvC scope cl C X.env) fp) ifs tt)
    (pk : ∀ (s : Shared) (H : Hp) (C : Addr) (cl : List (Str × Addr)) (fp : List Addr), PE (X.blk s H scope (compEnvC scope cl C X.env) fp) kx tk)
    (pv : ∀ (s : Shared) (H : Hp) (C : Addr) (cl : List (Str × Addr)) (fp : List Addr), PE (X.blk s H scope (compEnvC scope cl C X.env) fp) vx tv) (hs : ∀ x, foldedSetIterable iter X.env x = pure x := by intro _; rfl) :
    PS X (.Assign [.Name y py] (.DictComp kx vx [⟨tg, iter, ifs, 0⟩] scope pos) spos) (tAsg (tDc wi g tt tk tv (own.map (·.2))) (gName i)) := by
  refine ⟨fun pins s σ H D I want => ?_⟩
  rw [exec_Assign_Name_used _ _ _ _ sw]
  refine wpAny_bind (wpAny_standAt (wpAny_bind ?_))
  show wpAny _ X.A (comprehension (.DictComp kx vx [⟨tg, iter, ifs, 0⟩] scope pos) scope X.env (firstIterPos [⟨tg, iter, ifs, 0⟩] pos) newDict false (eval iter X.env) (some (assign (.Name y py) X.env)) >>= _) _ _ s
  refine wpAny_bind (thn (dc_core (Qf := fun _ s' => SP X pins D .next s') calm nd I src ok pg pt pk pv hs (show tDc wi g tt tk tv (own.map (·.2)) σ H (fun x H1 => gName i x σ H1 D.nx) from want) fun A C s' m H' out q ns f => stored_ok nd at_ loc out q ns f) fun _ s' hq => wpAny_pure (wpAny_pure hq))
end
end L2
namespace Ovc
open PySem PySem.Spec PyProof.Rows L2
/-! ### the dict of the ways of links -/
def lkS (x y : Int) (f : Option V) (l : Lnk) : Option V := if x = l.b ∧ y = l.a then some (oV l.k) else if x = l.a ∧ y = l.b then some (oV l.t) else f
def lkv (ls : List Lnk) (x y : Int) : Option V := ls.foldl (lkS x y) none
theorem lkv_snoc {ls : List Lnk} {l : Lnk} {x y : Int} : lkv (ls ++ [l]) x y = lkS x y (lkv ls x y) l := by
  unfold lkv
  rw [List.foldl_append]
  rfl
theorem key2 {x y a b : Int} : (([Sum.inl x, Sum.inl y] : List L2.Key) = [Sum.inl a, Sum.inl b]) ↔ (x = a ∧ y = b) := by
  constructor
  · intro e
    injection e with e1 e2
    injection e2 with e2 _
    exact ⟨Sum.inl.inj e1, Sum.inl.inj e2⟩
  · rintro ⟨rfl, rfl⟩
    rfl
structure LinksAt (H : Hp) (d : Addr) (ls : List Lnk) : Prop where
  ex : ∃ kvs : List (List L2.Key × V), H d = some (.dT kvs) ∧ kvs.length ≤ 2 * ls.length ∧ ∀ x y : Int, valV kvs [Sum.inl x, Sum.inl y] = lkv ls x y
theorem LinksAt.to {H H' : Hp} {d : Addr} {ls : List Lnk} (h : LinksAt H d ls) (s : Same H H') : LinksAt H' d ls := by
  obtain ⟨kvs, e, l, v⟩ := h.ex
  exact ⟨kvs, s _ _ e, l, v⟩
theorem put_len {kvs : List (List L2.Key × V)} {k : List L2.Key} {v : V} : (putK kvs k v).length ≤ kvs.length + 1 := by
  unfold putK
  split
  · rw [List.length_map]
    omega
  · rw [List.length_append]
    exact Nat.le_refl _
def spLinkWays (K : PySem.W.Frag) : Sp := fun vs H Q _ => ∃ (v : V) (N : Net), vs = [v] ∧ Dp K H v (netD N) ∧ N.ls.length ≤ 1700 ∧ ∀ H' d, Same H H' → H d = none → LinksAt H' d N.ls → Q (.ref d) H'
theorem q_dputK {σ : L2.St} {H : Hp} {td ta tb te : TE} {D : Ends} {tw : TS} {v : V} {o : Addr} {kvs : List (List L2.Key × V)} {y1 y2 : Int} (hv : Vl te σ H v) (ho : Vl td σ H (.ref o)) (h1 : Vl ta σ H (.int y1)) (h2 : Vl tb σ H (.int y2)) (hd : H o = some (.dT kvs)) (hl : kvs.length < sizeLine)
    (k : ∀ T, H T = none → o ≠ T → tw D σ (upd (upd H T (.tup [.int y1, .int y2])) o (.dT (putK kvs [.inl y1, .inl y2] v)))) : tSeq (sDPut td (tTup (tCons ta (tCons tb tNil))) te) tw D σ H := q_dput (ty := td) hv ho h1 h2 hd hl k
theorem g_dputK {σ : L2.St} {H : Hp} {td ta tb te : TE} {D : Ends} {v : V} {o : Addr} {kvs : List (List L2.Key × V)} {y1 y2 : Int} (hv : Vl te σ H v) (ho : Vl td σ H (.ref o)) (h1 : Vl ta σ H (.int y1)) (h2 : Vl tb σ H (.int y2)) (hd : H o = some (.dT kvs)) (hl : kvs.length < sizeLine)
    (k : ∀ T, H T = none → o ≠ T → D.nx σ (upd (upd H T (.tup [.int y1, .int y2])) o (.dT (putK kvs [.inl y1, .inl y2] v)))) : sDPut td (tTup (tCons ta (tCons tb tNil))) te D σ H := q_dputK (tw := fun D σ H => D.nx σ H) hv ho h1 h2 hd hl k
abbrev sLinkWays : Stmt := topS 5
theorem scLinkWays : FnScope ["net", "prices", "a", "b", "there", "back"] ["net"] (defScope sLinkWays) := ⟨rfl, rfl, rfl, by decide +kernel, rfl, by decide +kernel, by decide +kernel⟩
section
variable {P : Program} {w : World} {K : PySem.W.Frag} {mg : Str → Option Value} {base : Heap}
theorem ok_linkWays {f : Addr} {fd : FuncData} {k : Nat} (F : Fun K "link_ways" "link_ways" sLinkWays f fd) : FnOk P w K mg base CX0 (k + 1) f fd ["net"] (spLinkWays K) := by
  refine F.ok scLinkWays (fun vs H Q E h => ?_) (fun cdv A outer s H vs Q E hr h => ?_)
  · obtain ⟨v, N, rfl, _⟩ := h
    rfl
  · obtain ⟨v, N, rfl, hN, hl, q⟩ := h
    have hu := hu_of hr
    refine ⟨_, pss_cons (ps_set (i := 1) scLinkWays.nd rfl (.inl rfl) pe_dnewT)
      (pss_cons (ps_for PassesOwn.never rfl (pi_list (pe_ix ix_tup (pv 0) pe_int (fun _ _ => rfl))) (pg_tup rfl (pgs_cons (pg_name (i := 2) scLinkWays.nd rfl (.inl rfl)) (pgs_cons (pg_name (i := 3) scLinkWays.nd rfl (.inl rfl)) (pgs_cons (pg_name (i := 4) scLinkWays.nd rfl (.inl rfl)) (pgs_cons (pg_name (i := 5) scLinkWays.nd rfl (.inl rfl)) pgs_nil)))))
      (pss_cons (ps_dput hu (pv 1) (pe_tup (pa_cons (pv 2) (pa_cons (pv 3) pa_nil))) (pv 4) rfl)
        (pss_one (ps_dput hu (pv 1) (pe_tup (pa_cons (pv 3) (pa_cons (pv 2) pa_nil))) (pv 5) rfl))))
      (pss_one (ps_ret (pv 1)))), ?_⟩
    obtain ⟨p, c, xs, rfl, hp, hc, hx⟩ := Dp.net_inv hN
    refine q_dnewT fun o no => ?_
    refine q_forLnk (Hb := H) (vl_ixT (K := K) (vl_var rfl) vl_c (seqT (same_upd no) hp) (atI_nat (j := 1) rfl)) hc hx (same_upd no)
      (fun i σ H3 => ∃ y2 y3 y4 y5 kvs, σ = [some (.ref p), some (.ref o), y2, y3, y4, y5] ∧ Same H H3 ∧ H3 o = some (.dT kvs) ∧ kvs.length ≤ 2 * i ∧ ∀ x y : Int, valV kvs [Sum.inl x, Sum.inl y] = lkv (N.ls.take i) x y)
      ⟨none, none, none, none, [], rfl, same_upd no, upd_same, Nat.zero_le _, fun x y => rfl⟩ (fun i σ H3 hP => ?_) (fun i l σ H3 hi hP => ?_) (fun σ H3 hP => ?_)
    · obtain ⟨_, _, _, _, _, _, s3, _⟩ := hP
      exact s3
    · obtain ⟨y2, y3, y4, y5, kvs, rfl, s3, ho, hlen, hv⟩ := hP
      have hil := (List.getElem?_eq_some_iff.mp hi).1
      refine q_dputK (vl_var rfl) (vl_var rfl) (vl_var rfl) (vl_var rfl) ho (Nat.lt_of_le_of_lt (m := 10000) (by omega) (by decide)) fun T nT oT => ?_
      have hl1 := put_len (kvs := kvs) (k := [Sum.inl l.a, Sum.inl l.b]) (v := oV l.t)
      refine g_dputK (vl_var rfl) (vl_var rfl) (vl_var rfl) (vl_var rfl) upd_same (Nat.lt_of_le_of_lt (m := 10000) (by omega) (by decide)) fun T2 nT2 oT2 => ?_
      have hl2 := put_len (kvs := putK kvs [Sum.inl l.a, Sum.inl l.b] (oV l.t)) (k := [Sum.inl l.b, Sum.inl l.a]) (v := oV l.k)
      have s4 : Same H (upd (upd H3 T (.tup [.int l.a, .int l.b])) o (.dT (putK kvs [Sum.inl l.a, Sum.inl l.b] (oV l.t)))) := same_upd' (s3.trans (same_upd nT)) no
      refine ⟨_, _, _, _, _, rfl, same_upd' (s4.trans (same_upd nT2)) no, upd_same, by omega, fun x y => ?_⟩
      rw [valV_put, valV_put, hv, take_snoc hi, lkv_snoc]
      unfold lkS
      by_cases c1 : x = l.b ∧ y = l.a
      · rw [if_pos (key2.mpr c1), if_pos c1]
      · rw [if_neg (fun z => c1 (key2.mp z)), if_neg c1]
        by_cases c2 : x = l.a ∧ y = l.b
        · rw [if_pos (key2.mpr c2), if_pos c2]
        · rw [if_neg (fun z => c2 (key2.mp z)), if_neg c2]
    · obtain ⟨y2, y3, y4, y5, kvs, rfl, s3, ho, hlen, hv⟩ := hP
      rw [List.take_length] at hv
      exact g_ret (vl_var rfl) (q H3 o s3 no ⟨kvs, ho, hlen, hv⟩)
end
/-! ### lower places by pairs -/
theorem mem_cmbsF {α : Type} {f : α → Nat} : ∀ {l : List α} {p : α × α}, l.Pairwise (fun a b => f a < f b) → (p ∈ CpCmb.cmbs l ↔ f p.1 < f p.2 ∧ p.1 ∈ l ∧ p.2 ∈ l)
  | [], p, _ => ⟨fun h => (nomatch h), fun h => (nomatch h.2.1)⟩
  | x :: l, (a, b), h => by
    have h1 := List.pairwise_cons.mp h
    show (a, b) ∈ l.map (fun y => (x, y)) ++ CpCmb.cmbs l ↔ _
    rw [List.mem_append, List.mem_map, mem_cmbsF h1.2]
    constructor
    · rintro (⟨y, hy, e⟩ | ⟨h2, h3, h4⟩)
      · cases e
        exact ⟨h1.1 _ hy, List.mem_cons_self, List.mem_cons_of_mem _ hy⟩
      · exact ⟨h2, List.mem_cons_of_mem _ h3, List.mem_cons_of_mem _ h4⟩
    · rintro ⟨h2, h3, h4⟩
      have h2 : f a < f b := h2
      rcases List.mem_cons.mp h3 with e | e
      · have e : a = x := e
        rcases List.mem_cons.mp h4 with e2 | e2
        · have e2 : b = x := e2
          rw [e, e2] at h2
          exact absurd h2 (Nat.lt_irrefl _)
        · exact .inl ⟨b, e2, by rw [e]⟩
      · rcases List.mem_cons.mp h4 with e2 | e2
        · have e2 : b = x := e2
          have := h1.1 _ e
          rw [e2] at h2
          exact absurd h2 (Nat.not_lt.mpr (Nat.le_of_lt this))
        · exact .inr ⟨h2, e, e2⟩
theorem cmbs_nodup {α : Type} {f : α → Nat} : ∀ {l : List α}, l.Pairwise (fun a b => f a < f b) → (CpCmb.cmbs l).Nodup
  | [], _ => List.nodup_nil
  | x :: l, h => by
    have h1 := List.pairwise_cons.mp h
    have hn : l.Nodup := h1.2.imp fun h z => by
      rw [z] at h
      exact Nat.lt_irrefl _ h
    show (l.map (fun y => (x, y)) ++ CpCmb.cmbs l).Nodup
    refine List.nodup_append.mpr ⟨?_, cmbs_nodup h1.2, fun a ha b hb e => ?_⟩
    · exact List.Pairwise.map _ (fun a b hab e => hab (congrArg Prod.snd e)) hn
    · obtain ⟨y, hy, rfl⟩ := List.mem_map.mp ha
      rw [← e] at hb
      have := ((mem_cmbsF h1.2).mp hb).2.1
      exact Nat.lt_irrefl _ (h1.1 x this)
theorem flat_filter {g : Int → List Int} {w : Int} : ∀ {us : List Int}, us.Nodup → ((us.flatMap fun u => (g u).map fun v => (u, v)).filter fun p => decide (p.1 = w)).map (·.2) = if w ∈ us then g w else []
  | [], _ => rfl
  | u :: us, h => by
    have h := List.nodup_cons.mp h
    rw [List.flatMap_cons, List.filter_append, List.map_append, flat_filter h.2]
    by_cases e : u = w
    · subst e
      rw [if_neg h.1, if_pos List.mem_cons_self, List.append_nil]
      rw [List.filter_eq_self.mpr (fun p hp => by
        obtain ⟨v, _, rfl⟩ := List.mem_map.mp hp
        exact decide_eq_true rfl), List.map_map]
      exact List.map_id _
    · rw [List.filter_eq_nil_iff.mpr (fun p hp => by
        obtain ⟨v, _, rfl⟩ := List.mem_map.mp hp
        simpa using e)]
      rw [List.map_nil, List.nil_append]
      by_cases c : w ∈ us
      · rw [if_pos c, if_pos (List.mem_cons_of_mem _ c)]
      · rw [if_neg c, if_neg (fun z => by
          rcases List.mem_cons.mp z with z | z
          · exact e z.symm
          · exact c z)]
theorem above_all {n : Int} {ls : List Lnk} {os : List Int} {w : Int} (oo : OrdOk n os) (hw : w ∈ os) : ((pairsL ls os).filter fun p => decide (p.1 = w)).map (·.2) = upP ls os w := by
  unfold pairsL
  rw [flat_filter oo.nodup, if_pos hw]
/-- keys and addresses side by side -/
def kz {κ : Type} (ks : List κ) (rw : List Addr) : List (κ × V) := List.zipWith (fun k a => (k, V.ref a)) ks rw
theorem kz_snoc {κ : Type} {ks : List κ} {rs : List Addr} {k : κ} {a : Addr} (h : ks.length = rs.length) : kz (ks ++ [k]) (rs ++ [a]) = kz ks rs ++ [(k, V.ref a)] := by
  unfold kz
  rw [List.zipWith_append h]
  rfl
theorem kz_val {κ : Type} [DecidableEq κ] : ∀ {ks : List κ} {rs : List Addr} {i : Nat} {k : κ} {a : Addr}, ks.Nodup → ks[i]? = some k → rs[i]? = some a → valV (kz ks rs) k = some (.ref a)
  | [], _, _, _, _, _, h, _ => by simp at h
  | _ :: _, [], _, _, _, _, _, h => by simp at h
  | x :: ks, r :: rs, 0, k, a, _, h1, h2 => by
    cases Option.some.inj h1
    cases Option.some.inj h2
    show (List.find? (fun kv : κ × V => decide (kv.1 = x)) ((x, V.ref r) :: kz ks rs)).map (·.2) = _
    rw [List.find?_cons, decide_eq_true (rfl : x = x)] <;> rfl
  | x :: ks, r :: rs, i + 1, k, a, hn, h1, h2 => by
    have hn := List.nodup_cons.mp hn
    have h1 : ks[i]? = some k := h1
    have h2 : rs[i]? = some a := h2
    have ne : ¬ x = k := fun z => hn.1 (by rw [z]; exact List.mem_of_getElem? h1)
    have ih := kz_val hn.2 h1 h2
    show (List.find? (fun kv : κ × V => decide (kv.1 = k)) ((x, V.ref r) :: kz ks rs)).map (·.2) = _
    rw [List.find?_cons, decide_eq_false ne]
    exact ih
theorem kz_any {κ : Type} [DecidableEq κ] : ∀ {ks : List κ} {rs : List Addr} {k : κ}, k ∉ ks → ((kz ks rs).any fun kv => decide (kv.1 = k)) = false
  | [], _, _, _ => rfl
  | _ :: _, [], _, _ => rfl
  | x :: ks, r :: rs, k, h => by
    show (decide (x = k) || (kz ks rs).any fun kv => decide (kv.1 = k)) = false
    rw [kz_any (rs := rs) (fun z => h (List.mem_cons_of_mem _ z)), decide_eq_false (fun z => h (by
      rw [z]
      exact List.mem_cons_self))]
    rfl
theorem kz_put {κ : Type} [DecidableEq κ] {ks : List κ} {rs : List Addr} {k : κ} {a : Addr} (h : k ∉ ks) (hl : ks.length = rs.length) : putK (kz ks rs) k (.ref a) = kz (ks ++ [k]) (rs ++ [a]) := by
  have hf := kz_any (rs := rs) h
  unfold putK
  rw [hf, if_neg Bool.false_ne_true, kz_snoc hl]
theorem kz_len {κ : Type} {ks : List κ} {rs : List Addr} (h : rs.length = ks.length) : (kz ks rs).length = ks.length := by
  unfold kz
  rw [List.length_zipWith, h, Nat.min_self]
def K2 (p : Int × Int) : List L2.Key := [Sum.inl p.1, Sum.inl p.2]
theorem K2_inj {p q : Int × Int} (h : K2 p = K2 q) : p = q := by
  unfold K2 at h
  injection h with e1 e2
  injection e2 with e2 _
  exact Prod.ext (Sum.inl.inj e1) (Sum.inl.inj e2)
section
variable {K : PySem.W.Frag} {σ : L2.St} {H : Hp} {tl : TE}
/-- {x: [] for x in ns} -/
theorem dc_rows {j : Nat} {ns : List Int} {Q : VK} (hj : j < σ.length) (hl : ∀ Q : VK, (∀ a H1, Same H H1 → SqL K H1 a (ns.map V.int) → Q (.ref a) H1) → tl σ H Q) (hn : ns.Nodup) (hz : ns.length ≤ 1000)
    (q : ∀ D H' (rw : List Addr), Same H H' → H D = none → H' D = some (.dK (kz (ns.map Sum.inl) rw)) → rw.length = ns.length → rw.Nodup → D ∉ rw → (∀ a ∈ rw, H a = none ∧ H' a = some (.lst [])) → Q (.ref D) H') : tDc (iList K tl) (gName j) tYes (tVar j) (tLst tNil) [j] σ H Q := by
  refine hl _ fun a H1 s1 hx => ⟨a, rfl, ⟨_, hx⟩, fun D nD => ?_⟩
  refine ⟨fun i m H2 => m + i = ns.length ∧ ∃ rw : List Addr, H2 D = some (.dK (kz ((ns.take i).map Sum.inl) rw)) ∧ Same H1 H2 ∧ rw.length = i ∧ rw.Nodup ∧ D ∉ rw ∧ ∀ a ∈ rw, H a = none ∧ H2 a = some (.lst []),
    ⟨ns.length, rfl, [], upd_same, same_upd nD, rfl, .nil, List.not_mem_nil, fun _ h => (nomatch h)⟩, fun i m H2 hW => ?_⟩
  obtain ⟨em, rw_, hD, s2, hlen, hnd, hDn, hr⟩ := hW
  by_cases hi : i < ns.length
  · refine .inr ⟨⟨_, _, s2.seq hx, by rw [List.getElem?_map, List.getElem?_eq_getElem hi] <;> rfl⟩, fun H2 => ∃ rw : List Addr, H2 D = some (.dK (kz ((ns.take (i + 1)).map Sum.inl) rw)) ∧ Same H1 H2 ∧ rw.length = i + 1 ∧ rw.Nodup ∧ D ∉ rw ∧ ∀ a ∈ rw, H a = none ∧ H2 a = some (.lst []), fun H' h => ⟨m - 1, by omega, by omega, h⟩, fun x H' hy => ?_⟩
    obtain ⟨rfl, hy⟩ := hy
    have hy := hy _ (s2.seq hx)
    have hg : ns[i]? = some ns[i] := List.getElem?_eq_getElem hi
    rw [List.getElem?_map, hg] at hy
    have hnew : ns[i] ∉ ns.take i := fun h => by
      obtain ⟨k, hk⟩ := List.mem_iff_getElem?.mp h
      have hlt := (List.getElem?_eq_some_iff.mp hk).1
      rw [List.length_take] at hlt
      rw [List.getElem?_take, if_pos (by omega), ← hg] at hk
      have := (List.getElem?_inj (by omega) hn).mp hk
      omega
    generalize ns[i] = n at hg hy hnew
    cases hy
    refine ⟨?_, ?_⟩
    · show ((σ.set j none).set j (some (V.int n))).set j none = σ.set j none
      rw [List.set_set, List.set_set]
    · refine yes_of ?_
      dsimp only
      rw [if_pos rfl]
      have hjl : ((σ.set j none).set j (some (V.int n)))[j]? = some (some (V.int n)) := List.getElem?_set_self (by rw [List.length_set]; exact hj)
      refine ⟨_, hjl, Nat.zero_le _, fun p np => ⟨_, Sum.inl n, rfl, same_upd np _ _ hD, ?_, rw_ ++ [p], ?_, ?_, ?_, ?_, ?_, fun b hb => ?_⟩⟩
      · rw [kz_len (by rw [List.length_map, List.length_take, hlen]; omega), List.length_map, List.length_take]
        exact Nat.lt_of_le_of_lt (m := 1000) (by omega) (by decide)
      · rw [upd_same, kz_put (fun h => by
          obtain ⟨z, hz, e⟩ := List.mem_map.mp h
          exact hnew (by rw [← Sum.inl.inj e]; exact hz)) (by rw [List.length_map, List.length_take, hlen]; omega), take_snoc hg, List.map_append]
        rfl
      · exact same_upd' (s2.trans (same_upd np)) nD
      · rw [List.length_append, hlen]
        rfl
      · refine List.nodup_append.mpr ⟨hnd, List.nodup_cons.mpr ⟨List.not_mem_nil, .nil⟩, fun x hx y hy e => ?_⟩
        rw [List.mem_singleton.mp hy] at e
        have := (hr x hx).2
        rw [e, np] at this
        cases this
      · intro h
        rcases List.mem_append.mp h with h | h
        · exact hDn h
        · rw [List.mem_singleton.mp h, np] at hD
          cases hD
      · rcases List.mem_append.mp hb with h | h
        · exact ⟨(hr b h).1, by
            rw [upd_ne (fun e => hDn (by rw [← e]; exact h))]
            exact same_upd np _ _ (hr b h).2⟩
        · have e := List.mem_singleton.mp h
          refine ⟨by rw [e]; exact Same.free (s1.trans s2) np, ?_⟩
          rw [e, upd_ne (fun z => by rw [← z, np] at hD; cases hD)]
          exact upd_same
  · refine .inl ⟨⟨_, s2.seq hx, by rw [List.length_map]; omega⟩, ?_⟩
    rw [List.take_of_length_le (by omega)] at hD
    exact q D H2 rw_ (s1.trans s2) (Same.free s1 nD) hD (by omega) hnd hDn hr
/-- {pair: [] for pair in found} -/
theorem dcT_rows {j : Nat} {ts : List V} {L : List (Int × Int)} {Q : VK} {a : Addr} (hj : j < σ.length) (hl : Vl tl σ H (.ref a)) (hx : SqL K H a ts) (hT : TupsAt H ts L) (hn : L.Nodup) (hz : L.length ≤ 2000)
    (q : ∀ D H' (rw : List Addr), Same H H' → H D = none → H' D = some (.dT (kz (L.map K2) rw)) → rw.length = L.length → rw.Nodup → D ∉ rw → (∀ a ∈ rw, H a = none ∧ H' a = some (.lst [])) → Q (.ref D) H') : tDcT (iList K tl) (gName j) tYes (tVar j) (tLst tNil) [j] σ H Q := by
  refine hl _ ⟨a, rfl, ⟨_, hx⟩, fun D nD => ?_⟩
  refine ⟨fun i m H2 => m + i = L.length ∧ ∃ rw : List Addr, H2 D = some (.dT (kz ((L.take i).map K2) rw)) ∧ Same H H2 ∧ rw.length = i ∧ rw.Nodup ∧ D ∉ rw ∧ ∀ a ∈ rw, H a = none ∧ H2 a = some (.lst []),
    ⟨L.length, rfl, [], upd_same, same_upd nD, rfl, .nil, List.not_mem_nil, fun _ h => (nomatch h)⟩, fun i m H2 hW => ?_⟩
  obtain ⟨em, rw_, hD, s2, hlen, hnd, hDn, hr⟩ := hW
  by_cases hi : i < L.length
  · have hg : L[i]? = some L[i] := List.getElem?_eq_getElem hi
    have hnew : L[i] ∉ L.take i := fun h => by
      obtain ⟨k, hk⟩ := List.mem_iff_getElem?.mp h
      have hlt := (List.getElem?_eq_some_iff.mp hk).1
      rw [List.length_take] at hlt
      rw [List.getElem?_take, if_pos (by omega), ← hg] at hk
      have := (List.getElem?_inj (by omega) hn).mp hk
      omega
    generalize L[i] = n at hg hnew
    obtain ⟨u, v⟩ := n
    obtain ⟨t, e1, e2⟩ := hT.at_ i u v hg
    refine .inr ⟨⟨_, _, s2.seq hx, e1⟩, fun H2 => ∃ rw : List Addr, H2 D = some (.dT (kz ((L.take (i + 1)).map K2) rw)) ∧ Same H H2 ∧ rw.length = i + 1 ∧ rw.Nodup ∧ D ∉ rw ∧ ∀ a ∈ rw, H a = none ∧ H2 a = some (.lst []), fun H' h => ⟨m - 1, by omega, by omega, h⟩, fun x H' hy => ?_⟩
    obtain ⟨rfl, hy⟩ := hy
    cases (hy _ (s2.seq hx)).symm.trans e1
    refine ⟨?_, ?_⟩
    · show ((σ.set j none).set j (some (V.ref t))).set j none = σ.set j none
      rw [List.set_set, List.set_set]
    · refine yes_of ?_
      dsimp only
      rw [if_pos rfl]
      have hjl : ((σ.set j none).set j (some (V.ref t)))[j]? = some (some (V.ref t)) := List.getElem?_set_self (by rw [List.length_set]; exact hj)
      refine ⟨_, hjl, Nat.zero_le _, fun p np => ⟨_, K2 (u, v), t, rfl, same_upd np _ _ (s2 _ _ e2), same_upd np _ _ hD, ?_, rw_ ++ [p], ?_, ?_, ?_, ?_, ?_, fun b hb => ?_⟩⟩
      · rw [kz_len (by rw [List.length_map, List.length_take, hlen]; omega), List.length_map, List.length_take]
        exact Nat.lt_of_le_of_lt (m := 2000) (by omega) (by decide)
      · rw [upd_same, kz_put (fun h => by
          obtain ⟨z, hz, e⟩ := List.mem_map.mp h
          exact hnew (by rw [← K2_inj e]; exact hz)) (by rw [List.length_map, List.length_take, hlen]; omega), take_snoc hg, List.map_append]
        rfl
      · exact same_upd' (s2.trans (same_upd np)) nD
      · rw [List.length_append, hlen]
        rfl
      · refine List.nodup_append.mpr ⟨hnd, List.nodup_cons.mpr ⟨List.not_mem_nil, .nil⟩, fun x hx y hy e => ?_⟩
        rw [List.mem_singleton.mp hy] at e
        have := (hr x hx).2
        rw [e, np] at this
        cases this
      · intro h
        rcases List.mem_append.mp h with h | h
        · exact hDn h
        · rw [List.mem_singleton.mp h, np] at hD
          cases hD
      · rcases List.mem_append.mp hb with h | h
        · exact ⟨(hr b h).1, by
            rw [upd_ne (fun e => hDn (by rw [← e]; exact h))]
            exact same_upd np _ _ (hr b h).2⟩
        · have e := List.mem_singleton.mp h
          refine ⟨by rw [e]; exact Same.free s2 np, ?_⟩
          rw [e, upd_ne (fun z => by rw [← z, np] at hD; cases hD)]
          exact upd_same
  · refine .inl ⟨⟨_, s2.seq hx, by rw [hT.len]; omega⟩, ?_⟩
    rw [List.take_of_length_le (by omega)] at hD
    exact q D H2 rw_ s2 nD hD (by omega) hnd hDn hr
theorem vl_dgetT {td ty : TE} {o b : Addr} {p : Int × Int} {kvs : List (List L2.Key × V)} {v : V} (ho : Vl td σ H (.ref o)) (hk : Vl ty σ H (.ref b)) (hb : H b = some (.tup [.int p.1, .int p.2])) (hd : H o = some (.dT kvs)) (hv : valV kvs (K2 p) = some v) : Vl (tDGet td ty) σ H v := fun Q q => ho _ (hk _ ⟨o, v, rfl, by
  rw [← hv]
  exact DGet.t (k := K2 p) hd hb, q⟩)
end
def spLowBy (K : PySem.W.Frag) : Sp := fun vs H Q _ => ∃ (fp p : Addr) (ts : List V) (N : Net) (os : List Int), vs = [.ref fp, .ref p] ∧ SqL K H fp ts ∧ TupsAt H ts (pairsL N.ls os) ∧ SqL K H p (os.map V.int) ∧ NetOk N ∧ OrdOk N.n os ∧
  ∀ H' d kvs, Same H H' → H d = none → LowD H H' d kvs (pairsL N.ls os) os → Q (.ref d) H'
abbrev sLowBy : Stmt := topS 14
theorem scLowBy : FnScope ["found", "order", "place", "above", "low", "high", "pair", "lower"] ["found", "order"] (defScope sLowBy) := ⟨rfl, rfl, rfl, by decide +kernel, rfl, by decide +kernel, by decide +kernel⟩
section
variable {P : Program} {w : World} {K : PySem.W.Frag} {mg : Str → Option Value} {base : Heap}
theorem ok_lowBy {f : Addr} {fd : FuncData} {k : Nat} (F : Fun K "_lower_by_pair" "_lower_by_pair" sLowBy f fd) (mcmb : mg "combinations" = some (.type "itertools.combinations")) : FnOk P w K mg base CX0 (k + 1) f fd ["found", "order"] (spLowBy K) := by
  refine F.ok scLowBy (fun vs H Q E h => ?_) (fun cdv A outer s H vs Q E hr h => ?_)
  · obtain ⟨fp, p, ts, N, os, rfl, _⟩ := h
    rfl
  · obtain ⟨fp, p, ts, N, os, rfl, hF, hT, hS, okN, oo, q⟩ := h
    have hu := hu_of hr
    refine ⟨_, pss_cons (ps_setDc (i := 3) (own := [("place", 2)]) (g := gName 2) (tt := tYes) (tk := (tVar 2)) (tv := (tLst tNil)) rfl scLowBy.nd rfl rfl (swapsD rfl rfl rfl (by decide +kernel)) (pi_list (pv 1)) (blkOk_by (own := [("place", 2)]) (N := ["found", "order", "place", "above", "low", "high", "pair", "lower"]) (sc := defScope sLowBy) (by decide +kernel)) (fun _ _ _ _ _ => pg_name (i := 2) scLowBy.nd rfl (Or.inl rfl)) (fun _ _ _ _ _ => by exact pts_nil) (fun _ _ _ _ _ => by exact (pv 2)) (fun _ _ _ _ _ => by exact (pe_lst pa_nil)))
      (pss_cons (ps_for PassesOwn.never rfl (pi_list (pv 0)) (pg_tup rfl (pgs_cons (pg_name (i := 4) scLowBy.nd rfl (.inl rfl)) (pgs_cons (pg_name (i := 5) scLowBy.nd rfl (.inl rfl)) pgs_nil)))
      (pss_one (ps_expr (pe_bm PySem.F.plainAttrs_list PySem.F.slot_list_append PySem.F.type_list_append mt_append (pe_dget hu (pv 3) (pv 4) (fun _ _ => rfl)) (pa_cons (pv 5) pa_nil)))))
      (pss_cons (ps_setDcT (i := 7) (own := [("pair", 6)]) (g := gName 6) (tt := tYes) (tk := (tVar 6)) (tv := (tLst tNil)) hu rfl scLowBy.nd rfl rfl (swapsD rfl rfl rfl (by decide +kernel)) (pi_list (pv 0)) (blkOk_by (own := [("pair", 6)]) (N := ["found", "order", "place", "above", "low", "high", "pair", "lower"]) (sc := defScope sLowBy) (by decide +kernel)) (fun _ _ _ _ _ => pg_name (i := 6) scLowBy.nd rfl (Or.inl rfl)) (fun _ _ _ _ _ => by exact pts_nil) (fun _ _ _ _ _ => by exact (pv 6)) (fun _ _ _ _ _ => by exact (pe_lst pa_nil)))
      (pss_cons (ps_for PassesOwn.never rfl (pi_list (pv 1)) (pg_name (i := 2) scLowBy.nd rfl (.inl rfl))
      (pss_one (ps_for PassesOwn.never rfl (pi_cmb (by rfl) mcmb (pa_cons (pe_dget hu (pv 3) (pv 2) (fun _ _ => rfl)) (pa_cons pe_int pa_nil))) (pg_name (i := 6) scLowBy.nd rfl (.inl rfl))
        (pss_one (ps_expr (pe_bm PySem.F.plainAttrs_list PySem.F.slot_list_append PySem.F.type_list_append mt_append (pe_dget hu (pv 7) (pv 6) (fun _ _ => rfl)) (pa_cons (pv 2) pa_nil)))))))
      (pss_one (ps_ret (pv 7)))))), ?_⟩
    have on := oo.len
    have n40 := okN.n40
    have n1 := okN.n1
    have hnd := oo.nodup
    have hLn := pairsL_nodup (ls := N.ls) oo
    have hLl := pairsL_len okN oo
    have tl := hT.len
    refine q_asgE (dc_rows (K := K) (by show 2 < 8; decide) (vx_list (vl_var rfl) hS) hnd (by omega) fun d1 H1 r1 s1 n1_ e1 l1 nd1 nn1 hr1 => ?_)
    refine q_forP (vl_var rfl) (s1.seq hF) tl
      (fun i σ H2 => ∃ y4 y5, σ = [some (.ref fp), some (.ref p), none, some (.ref d1), y4, y5, none, none] ∧ Same H H2 ∧ H2 d1 = some (.dK (kz (os.map Sum.inl) r1)) ∧
        ∀ (k : Nat) w a, os[k]? = some w → r1[k]? = some a → H2 a = some (.lst (((((pairsL N.ls os).take i).filter fun p => decide (p.1 = w)).map (·.2)).map V.int)))
      ⟨none, none, rfl, s1, e1, fun k w a hk ha => (hr1 a (List.mem_of_getElem? ha)).2⟩ (fun i σ H2 hP => ?_) (fun i u v t σ H2 hi ht hP => ?_) (fun σ H2 hP => ?_)
    · obtain ⟨_, _, _, s2, _⟩ := hP
      exact ⟨s2.seq hF, hT.to s2⟩
    · obtain ⟨y4, y5, rfl, s2, e2, hA⟩ := hP
      have hm : (u, v) ∈ pairsL N.ls os := List.mem_of_getElem? hi
      have hp := (mem_pairsL okN oo).mp hm
      have huo : u ∈ os := oo.mem.mpr (hp.ins okN).1
      have hk := posOf_lt huo
      have hkl := pos_len huo
      have ha : r1[posOf u os]? = some r1[posOf u os] := List.getElem?_eq_getElem (by omega)
      generalize r1[posOf u os] = a at ha
      have hal := hA _ u a hk ha
      have hv := kz_val (ks := os.map Sum.inl) (rs := r1) (k := (Sum.inl u : L2.Key)) (List.Pairwise.map _ (fun a b hab e => hab (Sum.inl.inj e)) hnd) (by rw [List.getElem?_map, hk] <;> rfl) ha
      refine g_app (vl_dgetI (vl_var rfl) (vl_var rfl) e2 hv) hal (vl_var rfl) ?_ ⟨_, _, rfl, same_upd' s2 (hr1 a (List.mem_of_getElem? ha)).1, ?_, fun k' w' a' hk' ha' => ?_⟩
      · rw [List.length_map, List.length_map]
        refine Nat.lt_of_le_of_lt (m := 2000) ?_ (by decide)
        have := List.length_filter_le (fun p : Int × Int => decide (p.1 = u)) ((pairsL N.ls os).take i)
        rw [List.length_take] at this
        omega
      · rw [upd_ne (fun z => nn1 (by rw [z]; exact List.mem_of_getElem? ha))]
        exact e2
      · rw [take_snoc hi, List.filter_append, List.map_append, List.map_append]
        by_cases e : w' = u
        · subst e
          have ek : k' = posOf w' os := by
            have := posOf_get hnd hk'
            omega
          rw [ek, ha] at ha'
          cases ha'
          rw [upd_same, List.filter_cons, decide_eq_true (rfl : w' = w')]
          rfl
        · rw [upd_ne (fun z => by
            rw [z, ← ha] at ha'
            have := (List.getElem?_inj (by
              have := (List.getElem?_eq_some_iff.mp hk').1
              omega) nd1).mp ha'
            rw [this, hk] at hk'
            exact e (Option.some.inj hk').symm), hA k' w' a' hk' ha', List.filter_cons, decide_eq_false (fun z : u = w' => e z.symm)]
          simp
    · obtain ⟨y4, y5, rfl, s2, e2, hA⟩ := hP
      rw [List.take_length] at hA
      have hA2 : ∀ (k : Nat) w a, os[k]? = some w → r1[k]? = some a → H2 a = some (.lst ((upP N.ls os w).map V.int)) := fun k w a hk ha => by
        rw [hA k w a hk ha, above_all oo (List.mem_of_getElem? hk)]
      clear hA
      -- lower
      refine q_asgE (dcT_rows (K := K) (by show 6 < 8; decide) (vl_var rfl) (s2.seq hF) (hT.to s2) hLn (by omega) fun d2 H3 r2 s3 n2 e3 l2 nd2 nn2 hr2 => ?_)
      have hrd : ∀ a ∈ r2, H a = none := fun a h => Same.free s2 (hr2 a h).1
      have hd1 : d1 ∉ r2 := fun h => by
        have := (hr2 d1 h).1
        rw [e2] at this
        cases this
      have e13 := s3 _ _ e2
      have hA3 : ∀ (k : Nat) w a, os[k]? = some w → r1[k]? = some a → H3 a = some (.lst ((upP N.ls os w).map V.int)) ∧ a ∉ r2 := fun k w a hk ha => ⟨s3 _ _ (hA2 k w a hk ha), fun h => by
        have := (hr2 a h).1
        rw [hA2 k w a hk ha] at this
        cases this⟩
      refine q_forL (K := K) (j := 2) (xs := os.map V.int) (vl_var rfl) ((s2.trans s3).seq hS)
        (fun m σ H4 => ∃ y2 y4 y5 y6, σ = [some (.ref fp), some (.ref p), y2, some (.ref d1), y4, y5, y6, some (.ref d2)] ∧ Same H H4 ∧ Same (msk (· ∈ r2) H3) (msk (· ∈ r2) H4) ∧
          ∀ (k : Nat) u v a, (pairsL N.ls os)[k]? = some (u, v) → r2[k]? = some a → H4 a = some (.lst (((os.take m).filter fun w => decide ((w, u) ∈ pairsL N.ls os) && decide ((w, v) ∈ pairsL N.ls os)).map V.int)))
        ⟨_, _, _, _, rfl, s2.trans s3, Same.refl _, fun k u v a hk ha => (hr2 a (List.mem_of_getElem? ha)).2⟩ (fun m σ H4 hP => ?_) (fun m x σ H4 hi hP => ?_) (fun σ H4 hP => ?_)
      · obtain ⟨_, _, _, _, _, s4, _⟩ := hP
        exact s4.seq hS
      · obtain ⟨y2, y4', y5', y6, rfl, s4, k4, hB⟩ := hP
        have hm : m < os.length := by
          have := (List.getElem?_eq_some_iff.mp hi).1
          rw [List.length_map] at this
          exact this
        have hg : os[m]? = some os[m] := List.getElem?_eq_getElem hm
        rw [List.getElem?_map, hg] at hi
        generalize os[m] = w0 at hg hi
        cases hi
        have ha : r1[m]? = some r1[m] := List.getElem?_eq_getElem (by omega)
        generalize r1[m] = a at ha
        obtain ⟨ha3, har⟩ := hA3 m w0 a hg ha
        have hv := kz_val (ks := os.map Sum.inl) (rs := r1) (k := (Sum.inl w0 : L2.Key)) (List.Pairwise.map _ (fun a b hab e => hab (Sum.inl.inj e)) hnd) (by rw [List.getElem?_map, hg] <;> rfl) ha
        have ha4 := msk_get k4 ha3 har
        have hs := up_sorted (N := N) (u := w0) oo
        have hcn := cmbs_nodup hs
        refine (vl_dgetI (σ := [some (.ref fp), some (.ref p), some (.int w0), some (.ref d1), y4', y5', y6, some (.ref d2)]) (vl_var (i := 3) rfl) (vl_var (i := 2) rfl) (msk_get k4 e13 hd1) hv) _ ⟨a, _, rfl, .of ha4, for_cm
          (fun t σ H5 => ∃ y6, σ = [some (.ref fp), some (.ref p), some (.int w0), some (.ref d1), y4', y5', y6, some (.ref d2)] ∧ Same H H5 ∧ Same (msk (· ∈ r2) H3) (msk (· ∈ r2) H5) ∧
            ∀ (k : Nat) u v a, (pairsL N.ls os)[k]? = some (u, v) → r2[k]? = some a → H5 a = some (.lst (((os.take m).filter fun w => decide ((w, u) ∈ pairsL N.ls os) && decide ((w, v) ∈ pairsL N.ls os)).map V.int ++ if (u, v) ∈ (CpCmb.cmbs (upP N.ls os w0)).take t then [V.int w0] else [])))
          ⟨_, rfl, s4, k4, fun k u v a hk ha => by
            rw [hB k u v a hk ha, List.take_zero, if_neg List.not_mem_nil, List.append_nil]⟩ (fun t x y T σ H5 ht hP nT => ?_) (fun σ H5 hP => ?_)⟩
        · obtain ⟨y6, rfl, s5, k5, hC⟩ := hP
          rw [CpCmb.cmbs_map, List.getElem?_map] at ht
          cases hq : (CpCmb.cmbs (upP N.ls os w0))[t]? with
          | none =>
            rw [hq] at ht
            cases ht
          | some xy =>
            obtain ⟨i1, k1⟩ := xy
            rw [hq] at ht
            cases ht
            have hmem := (mem_cmbsF hs).mp (List.mem_of_getElem? hq)
            have p1 := (mem_up.mp hmem.2.1).2
            have p2 := (mem_up.mp hmem.2.2).2
            have hpL : (i1, k1) ∈ pairsL N.ls os := (mem_pairsL okN oo).mpr (pair_clique okN p1 p2 hmem.1)
            obtain ⟨kk, hkk⟩ := List.mem_iff_getElem?.mp hpL
            have hkkl := (List.getElem?_eq_some_iff.mp hkk).1
            have hb : r2[kk]? = some r2[kk] := List.getElem?_eq_getElem (by omega)
            generalize r2[kk] = b at hb
            have hbm := List.mem_of_getElem? hb
            have hv2 := kz_val (ks := (pairsL N.ls os).map K2) (rs := r2) (k := K2 (i1, k1)) (List.Pairwise.map _ (fun a b hab e => hab (K2_inj e)) hLn) (by rw [List.getElem?_map, hkk] <;> rfl) hb
            have s6 : Same H5 (upd H5 T (.tup [.int i1, .int k1])) := same_upd nT
            have e35 := s6 _ _ (msk_get k5 e3 nn2)
            have hb6 := s6 _ _ (hC kk i1 k1 b hkk hb)
            have hnt : (i1, k1) ∉ (CpCmb.cmbs (upP N.ls os w0)).take t := fun h => by
              obtain ⟨k', hk'⟩ := List.mem_iff_getElem?.mp h
              have hlt := (List.getElem?_eq_some_iff.mp hk').1
              rw [List.length_take] at hlt
              rw [List.getElem?_take, if_pos (by omega), ← hq] at hk'
              have := (List.getElem?_inj (by omega) hcn).mp hk'
              omega
            rw [if_neg hnt, List.append_nil] at hb6
            refine g_app (v := .int w0) (vl_dgetT (p := (i1, k1)) (vl_var (i := 7) rfl) (vl_var (i := 6) rfl) upd_same e35 hv2) hb6 (vl_var (i := 2) rfl) ?_ ⟨_, rfl, same_upd' (s5.trans s6) (hrd b hbm), ?_, fun k' u' v' a' hk' ha' => ?_⟩
            · rw [List.length_map]
              refine Nat.lt_of_le_of_lt (m := 2000) ?_ (by decide)
              have := List.length_filter_le (fun w => decide ((w, i1) ∈ pairsL N.ls os) && decide ((w, k1) ∈ pairsL N.ls os)) (os.take m)
              rw [List.length_take] at this
              omega
            · rw [msk_upd hbm]
              exact k5.trans (msk_mono s6)
            · rw [take_snoc hq]
              by_cases e : (u', v') = (i1, k1)
              · cases e
                have ekk : k' = kk := (List.getElem?_inj (by
                  have := (List.getElem?_eq_some_iff.mp hk').1
                  exact this) hLn).mp (hk'.trans hkk.symm)
                rw [ekk, hb] at ha'
                cases ha'
                rw [upd_same, if_pos (List.mem_append.mpr (.inr (List.mem_singleton.mpr rfl)))]
              · rw [upd_ne (fun z => by
                  rw [z, ← hb] at ha'
                  have hk2 := (List.getElem?_inj (by
                    have := (List.getElem?_eq_some_iff.mp hk').1
                    omega) nd2).mp ha'
                  rw [hk2, hkk] at hk'
                  exact e (Option.some.inj hk').symm), s6 _ _ (hC k' u' v' a' hk' ha')]
                have e2 : ((u', v') ∈ (CpCmb.cmbs (upP N.ls os w0)).take t ++ [(i1, k1)]) ↔ (u', v') ∈ (CpCmb.cmbs (upP N.ls os w0)).take t := by
                  rw [List.mem_append, List.mem_singleton]
                  exact ⟨fun h => h.resolve_right e, .inl⟩
                by_cases c : (u', v') ∈ (CpCmb.cmbs (upP N.ls os w0)).take t
                · rw [if_pos c, if_pos (e2.mpr c)]
                · rw [if_neg c, if_neg (fun z => c (e2.mp z))]
        · obtain ⟨y6, rfl, s5, k5, hC⟩ := hP
          refine ⟨_, _, _, _, rfl, s5, k5, fun k u v a hk ha => ?_⟩
          have hpl : (pairsL N.ls os)[k]? = some (u, v) := hk
          have hp := (mem_pairsL okN oo).mp (List.mem_of_getElem? hpl)
          have hlen : (CpCmb.cmbs ((upP N.ls os w0).map V.int)).length = (CpCmb.cmbs (upP N.ls os w0)).length := by rw [CpCmb.cmbs_map, List.length_map]
          rw [hC k u v a hk ha, hlen, List.take_length, take_snoc hg, List.filter_append, List.map_append]
          congr 2
          have e : ((u, v) ∈ CpCmb.cmbs (upP N.ls os w0)) ↔ ((w0, u) ∈ pairsL N.ls os ∧ (w0, v) ∈ pairsL N.ls os) := by
            rw [mem_cmbsF hs, mem_upP okN oo, mem_upP okN oo, mem_pairsL okN oo, mem_pairsL okN oo]
            exact ⟨fun h => h.2, fun h => ⟨hp.1, h⟩⟩
          by_cases c : (w0, u) ∈ pairsL N.ls os ∧ (w0, v) ∈ pairsL N.ls os
          · rw [if_pos (e.mpr c), List.filter_cons, decide_eq_true c.1, decide_eq_true c.2]
            rfl
          · rw [if_neg (fun z => c (e.mp z)), List.filter_cons]
            have hf : (decide ((w0, u) ∈ pairsL N.ls os) && decide ((w0, v) ∈ pairsL N.ls os)) = false := by
              rw [Bool.and_eq_false_iff, decide_eq_false_iff_not, decide_eq_false_iff_not]
              exact Classical.not_and_iff_not_or_not.mp c
            rw [hf]
            rfl
      · obtain ⟨y2, y4', y5', y6, rfl, s4, k4, hB⟩ := hP
        rw [List.length_map, List.take_length] at hB
        have e34 := msk_get k4 e3 nn2
        refine g_ret (vl_var rfl) (q H4 d2 _ s4 (Same.free s2 n2) ⟨e34, by rw [kz_len (by rw [List.length_map]; exact l2), List.length_map], fun kv hkv => ?_, fun u v hm => ?_⟩)
        · obtain ⟨k, hk⟩ := List.mem_iff_getElem?.mp hkv
          unfold kz at hk
          rw [List.getElem?_zipWith] at hk
          cases h1 : ((pairsL N.ls os).map K2)[k]? with
          | none =>
            rw [h1] at hk
            cases hk
          | some kk =>
            cases h2 : r2[k]? with
            | none =>
              rw [h1, h2] at hk
              cases hk
            | some a =>
              rw [h1, h2] at hk
              cases hk
              rw [List.getElem?_map] at h1
              cases h3 : (pairsL N.ls os)[k]? with
              | none =>
                rw [h3] at h1
                cases h1
              | some uv =>
                obtain ⟨u, v⟩ := uv
                rw [h3] at h1
                cases h1
                exact ⟨u, v, a, List.mem_of_getElem? h3, rfl, hrd a (List.mem_of_getElem? h2), hB k u v a h3 h2⟩
        · obtain ⟨k, hk⟩ := List.mem_iff_getElem?.mp hm
          have hkl := (List.getElem?_eq_some_iff.mp hk).1
          have hb : r2[k]? = some r2[k] := List.getElem?_eq_getElem (by omega)
          exact ⟨_, kz_val (ks := (pairsL N.ls os).map K2) (rs := r2) (k := K2 (u, v)) (List.Pairwise.map _ (fun a b hab e => hab (K2_inj e)) hLn) (by rw [List.getElem?_map, hk] <;> rfl) hb⟩
end
/-! ### fillings, row by row -/
def mkRow (N : Net) (os : List Int) (L : List (Int × Int)) (rs : List Row) (u v : Int) : Row :=
  let a := bestF (linkW N.ls u v) (fun w => addO (prR rs u w) (prR rs w v)) (lowerL L os u v)
  let b := bestF (linkW N.ls v u) (fun w => addO (prR rs v w) (prR rs w u)) (lowerL L os u v)
  ⟨u, v, a.1, b.1, a.2, b.2⟩
theorem bestF_congr {o : Option Int} {s t : Int → Option Int} {ws : List Int} (h : ∀ w ∈ ws, s w = t w) : bestF o s ws = bestF o t ws := by
  unfold bestF
  have gen : ∀ (ws : List Int) (acc : Option Int × Option Int), (∀ w ∈ ws, s w = t w) → ws.foldl (bestStep s) acc = ws.foldl (bestStep t) acc := by
    intro ws
    induction ws with
    | nil => intro acc _; rfl
    | cons w r ih =>
      intro acc h
      rw [List.foldl_cons, List.foldl_cons, show bestStep s acc w = bestStep t acc w by
        unfold bestStep
        rw [h w List.mem_cons_self]]
      exact ih _ fun x hx => h x (List.mem_cons_of_mem _ hx)
  exact gen ws _ h
def prOf (r : Row) : Int × Int := (r.u, r.v)
theorem find_none {rs : List Row} {x y : Int} (h : (x, y) ∉ rs.map prOf) : rs.find? (fun r => decide (r.u = x ∧ r.v = y)) = none := by
  rw [List.find?_eq_none]
  intro r hr z
  have z := of_decide_eq_true z
  exact h (List.mem_map.mpr ⟨r, hr, by
    unfold prOf
    rw [z.1, z.2]⟩)
theorem find_some {rs : List Row} {x y : Int} (h : (x, y) ∈ rs.map prOf) : ∃ r, rs.find? (fun r => decide (r.u = x ∧ r.v = y)) = some r ∧ r ∈ rs ∧ r.u = x ∧ r.v = y := by
  obtain ⟨r0, hr, e⟩ := List.mem_map.mp h
  have h1 := congrArg Prod.fst e
  have h2 := congrArg Prod.snd e
  cases e2 : rs.find? (fun r => decide (r.u = x ∧ r.v = y)) with
  | none =>
    rw [List.find?_eq_none] at e2
    exact absurd (decide_eq_true ⟨h1, h2⟩) (e2 r0 hr)
  | some r =>
    have h3 : r.u = x ∧ r.v = y := by simpa using List.find?_some e2
    exact ⟨r, rfl, List.mem_of_find?_eq_some e2, h3⟩
theorem prR_pre1 {rs ss : List Row} {x y : Int} (h : (x, y) ∈ rs.map prOf) : prR (rs ++ ss) x y = prR rs x y := by
  obtain ⟨r, e, _⟩ := find_some h
  unfold prR
  rw [List.find?_append, e] <;> rfl
theorem prR_pre2 {rs ss : List Row} {x y : Int} (h : (y, x) ∈ rs.map prOf) (n : (x, y) ∉ (rs ++ ss).map prOf) : prR (rs ++ ss) x y = prR rs x y := by
  obtain ⟨r, e, _⟩ := find_some h
  have n1 : (x, y) ∉ rs.map prOf := fun z => n (by
    rw [List.map_append]
    exact List.mem_append.mpr (.inl z))
  unfold prR
  rw [find_none n, find_none n1, List.find?_append, e] <;> rfl
theorem pairsL_sorted {n : Int} {ls : List Lnk} {os : List Int} (oo : OrdOk n os) : (pairsL ls os).Pairwise fun p q => posOf p.1 os ≤ posOf q.1 os := by
  unfold pairsL
  rw [List.pairwise_flatMap]
  constructor
  · intro u _
    rw [List.pairwise_map]
    exact List.pairwise_of_forall fun _ _ => Nat.le_refl _
  · exact (pos_sorted oo.nodup).imp fun h x hx y hy => by
      obtain ⟨_, _, rfl⟩ := List.mem_map.mp hx
      obtain ⟨_, _, rfl⟩ := List.mem_map.mp hy
      exact Nat.le_of_lt h
section
variable {N : Net} {os : List Int}
theorem before (ok : NetOk N) (oo : OrdOk N.n os) {i : Nat} {u v w z : Int} (hi : (pairsL N.ls os)[i]? = some (u, v)) (hm : (w, z) ∈ pairsL N.ls os) (hl : posOf w os < posOf u os) : (w, z) ∈ (pairsL N.ls os).take i := by
  obtain ⟨j, hj⟩ := List.mem_iff_getElem?.mp hm
  have hjl := (List.getElem?_eq_some_iff.mp hj).1
  have hil := (List.getElem?_eq_some_iff.mp hi).1
  by_cases c : j < i
  · refine List.mem_iff_getElem?.mpr ⟨j, ?_⟩
    rw [List.getElem?_take, if_pos c]
    exact hj
  · exfalso
    by_cases e : j = i
    · rw [e, hi] at hj
      cases hj
      exact Nat.lt_irrefl _ hl
    · have := List.pairwise_iff_getElem.mp (pairsL_sorted (ls := N.ls) oo) i j hil hjl (by omega)
      rw [(List.getElem?_eq_some_iff.mp hi).2, (List.getElem?_eq_some_iff.mp hj).2] at this
      have this : posOf u os ≤ posOf w os := this
      omega
theorem anti (ok : NetOk N) (oo : OrdOk N.n os) {u v : Int} (h : (u, v) ∈ pairsL N.ls os) : (v, u) ∉ pairsL N.ls os := fun h2 => by
  have h1 := ((mem_pairsL ok oo).mp h).1
  have h3 := ((mem_pairsL ok oo).mp h2).1
  omega
/-- the prices of lower pairs, told by the rows ahead -/
theorem pr_lower (ok : NetOk N) (oo : OrdOk N.n os) {rows : List Row} (hp : rows.map prOf = pairsL N.ls os) {i : Nat} {r : Row} (hi : rows[i]? = some r) {w z : Int} (hz : z = r.u ∨ z = r.v) (hw : w ∈ lowerL (pairsL N.ls os) os r.u r.v) :
    (w, z) ∈ (rows.take i).map prOf ∧ prR rows w z = prR (rows.take i) w z ∧ prR rows z w = prR (rows.take i) z w := by
  have hm := mem_lowerL.mp hw
  have hwz : (w, z) ∈ pairsL N.ls os := by
    rcases hz with rfl | rfl
    · exact hm.2.1
    · exact hm.2.2
  have hl := ((mem_pairsL ok oo).mp hm.2.1).1
  have hiL : (pairsL N.ls os)[i]? = some (r.u, r.v) := by
    rw [← hp, List.getElem?_map, hi] <;> rfl
  have hb := before ok oo hiL hwz hl
  rw [← hp, ← List.map_take] at hb
  have e : rows = rows.take i ++ rows.drop i := (List.take_append_drop i rows).symm
  refine ⟨hb, ?_, ?_⟩
  · have := prR_pre1 (ss := rows.drop i) hb
    rw [← e] at this
    exact this
  · have := prR_pre2 (ss := rows.drop i) (x := z) (y := w) hb (by
      rw [← e, hp]
      exact anti ok oo hwz)
    rw [← e] at this
    exact this
theorem mk_full (ok : NetOk N) (oo : OrdOk N.n os) {rows : List Row} (hp : rows.map prOf = pairsL N.ls os) {i : Nat} {r : Row} (hi : rows[i]? = some r) :
    mkRow N os (pairsL N.ls os) rows r.u r.v = mkRow N os (pairsL N.ls os) (rows.take i) r.u r.v := by
  unfold mkRow
  dsimp only
  rw [bestF_congr (fun w hw => by rw [(pr_lower ok oo hp hi (.inl rfl) hw).2.2, (pr_lower ok oo hp hi (.inr rfl) hw).2.1] : ∀ w ∈ lowerL (pairsL N.ls os) os r.u r.v, addO (prR rows r.u w) (prR rows w r.v) = addO (prR (rows.take i) r.u w) (prR (rows.take i) w r.v)),
    bestF_congr (fun w hw => by rw [(pr_lower ok oo hp hi (.inr rfl) hw).2.2, (pr_lower ok oo hp hi (.inl rfl) hw).2.1] : ∀ w ∈ lowerL (pairsL N.ls os) os r.u r.v, addO (prR rows r.v w) (prR rows w r.u) = addO (prR (rows.take i) r.v w) (prR (rows.take i) w r.u))]
theorem fill_iff (ok : NetOk N) (oo : OrdOk N.n os) {rows : List Row} : FillOk N os rows ↔ rows.map prOf = pairsL N.ls os ∧ ∀ (i : Nat) r, rows[i]? = some r → r = mkRow N os (pairsL N.ls os) (rows.take i) r.u r.v := by
  constructor
  · intro h
    refine ⟨h.pairs, fun i r hi => ?_⟩
    rw [← mk_full ok oo h.pairs hi]
    have hm := List.mem_of_getElem? hi
    have h1 := h.up r hm
    have h2 := h.dn r hm
    unfold mkRow
    dsimp only
    rw [← h1, ← h2]
  · rintro ⟨hp, h⟩
    have key : ∀ r ∈ rows, r = mkRow N os (pairsL N.ls os) rows r.u r.v := fun r hr => by
      obtain ⟨i, hi⟩ := List.mem_iff_getElem?.mp hr
      rw [mk_full ok oo hp hi]
      exact h i r hi
    refine ⟨hp, fun r hr => ?_, fun r hr => ?_⟩
    · have := key r hr
      have e1 := congrArg Row.up this
      have e2 := congrArg Row.um this
      exact Prod.ext e1 e2
    · have := key r hr
      have e1 := congrArg Row.dn this
      have e2 := congrArg Row.dm this
      exact Prod.ext e1 e2
end
def spWayF (K : PySem.W.Frag) : Sp := fun vs H Q _ => ∃ (dl dp pl : Addr) (x y : Int) (ls : List Lnk) (kvs : List (List L2.Key × V)) (ws : List Int) (o : Option Int) (f g : Int → Option Int), vs = [.ref dl, .ref dp, .ref pl, .int x, .int y] ∧
  LinksAt H dl ls ∧ (lkv ls x y).getD .non = oV o ∧ H dp = some (.dT kvs) ∧ SqL K H pl (ws.map V.int) ∧ ws.length ≤ 1000 ∧ (∀ w ∈ ws, valV kvs (K2 (x, w)) = some (oV (f w)) ∧ valV kvs (K2 (w, y)) = some (oV (g w))) ∧
  ∀ H' T, Same H H' → H' T = some (.tup [oV (bestF o (fun w => addO (f w) (g w)) ws).1, oV (bestF o (fun w => addO (f w) (g w)) ws).2]) → Q (.ref T) H'
theorem bs_none {s : Int → Option Int} {acc : Option Int × Option Int} {w : Int} (h : s w = none) : bestStep s acc w = acc := by
  unfold bestStep
  rw [h]
theorem bs_first {s : Int → Option Int} {m : Option Int} {w t : Int} (h : s w = some t) : bestStep s (none, m) w = (some t, some w) := by
  unfold bestStep
  rw [h]
theorem bs_next {s : Int → Option Int} {m : Option Int} {w t b : Int} (h : s w = some t) : bestStep s (some b, m) w = if t < b then (some t, some w) else (some b, m) := by
  unfold bestStep
  rw [h]
abbrev sWayF : Stmt := topS 13
theorem scWayF : FnScope ["links", "prices", "places", "x", "y", "price", "middle", "place", "first", "second"] ["links", "prices", "places", "x", "y"] (defScope sWayF) := ⟨rfl, rfl, rfl, by decide +kernel, rfl, by decide +kernel, by decide +kernel⟩
section
variable {P : Program} {w : World} {K : PySem.W.Frag} {mg : Str → Option Value} {base : Heap}
theorem ok_wayF {f : Addr} {fd : FuncData} {k : Nat} (F : Fun K "fill_way" "fill_way" sWayF f fd) : FnOk P w K mg base CX0 (k + 1) f fd ["links", "prices", "places", "x", "y"] (spWayF K) := by
  refine F.ok scWayF (fun vs H Q E h => ?_) (fun cdv A outer s H vs Q E hr h => ?_)
  · obtain ⟨dl, dp, pl, x, y, ls, kvs, ws, o, f1, g1, rfl, _⟩ := h
    rfl
  · obtain ⟨dl, dp, pl, x, y, ls, kvs, ws, o, f1, g1, rfl, hL, ho, hD, hP, hw, hk, q⟩ := h
    have hu := hu_of hr
    refine ⟨_, pss_cons (ps_set (i := 5) scWayF.nd rfl (.inl rfl) (pe_dget1 hu (pv 0) (pe_tup (pa_cons (pv 3) (pa_cons (pv 4) pa_nil))) ⟨by rfl, by rfl, by rfl, by rfl⟩))
      (pss_cons (ps_set (i := 6) scWayF.nd rfl (.inl rfl) pe_non)
      (pss_cons (ps_for PassesOwn.never rfl (pi_list (pv 2)) (pg_name (i := 7) scWayF.nd rfl (.inl rfl))
      (pss_cons (ps_par (i := 8) (j := 9) (by rfl) scWayF.nd rfl rfl (by decide) rfl rfl (pa_cons (pe_dget hu (pv 1) (pe_tup (pa_cons (pv 3) (pa_cons (pv 7) pa_nil))) (fun _ _ => rfl)) (pa_cons (pe_dget hu (pv 1) (pe_tup (pa_cons (pv 7) (pa_cons (pv 4) pa_nil))) (fun _ _ => rfl)) pa_nil)) (by rfl))
        (pss_cons (ps_if (PW.pt (pw_or (pt_cmpR op_isN (pv 8) pe_non (nomark _)) (pw_or1 (pt_cmpR op_isN (pv 9) pe_non (nomark _)))))
        (pss_one ps_continue)
        pss_nil)
        (pss_one (ps_if (PW.pt (pw_or (pt_cmpR op_isN (pv 5) pe_non (nomark _)) (pw_or1 (pt_cmpR op_lt (pe_op op_add (pv 8) (pv 9)) (pv 5) (nomark _)))))
        (pss_cons (ps_set (i := 5) scWayF.nd rfl (.inl rfl) (pe_op op_add (pv 8) (pv 9)))
          (pss_one (ps_set (i := 6) scWayF.nd rfl (.inl rfl) (pv 7))))
        pss_nil)))))
      (pss_one (ps_ret (pe_tup (pa_cons (pv 5) (pa_cons (pv 6) pa_nil))))))), ?_⟩
    obtain ⟨lkvs, eL, lL, vL⟩ := hL.ex
    refine q_dgetT (vl_var rfl) (fun _ => vl_var rfl) (fun _ => vl_var rfl) eL fun T0 nT0 => ?_
    rw [vL, ho]
    refine q_asg vl_c ?_
    have s0 : Same H (upd H T0 (.tup [.int x, .int y])) := same_upd nT0
    refine q_forL (K := K) (j := 7) (xs := ws.map V.int) (vl_var rfl) (s0.seq hP)
      (fun i σ H1 => ∃ y7 y8 y9 p m, σ = [some (.ref dl), some (.ref dp), some (.ref pl), some (.int x), some (.int y), some (oV p), some (oV m), y7, y8, y9] ∧ Same H H1 ∧ (p, m) = (ws.take i).foldl (bestStep fun w => addO (f1 w) (g1 w)) (o, none))
      ⟨none, none, none, o, none, rfl, s0, rfl⟩ (fun i σ H1 hP1 => ?_) (fun i v σ H1 hi hP1 => ?_) (fun σ H1 hP1 => ?_)
    · obtain ⟨_, _, _, _, _, _, s1, _⟩ := hP1
      exact s1.seq hP
    · obtain ⟨y7, y8, y9, p, m, rfl, s1, hf⟩ := hP1
      rw [List.getElem?_map] at hi
      cases hg : ws[i]? with
      | none =>
        rw [hg] at hi
        cases hi
      | some w0 =>
        rw [hg] at hi
        cases hi
        obtain ⟨k1, k2⟩ := hk w0 (List.mem_of_getElem? hg)
        refine ⟨.ref dp, rfl, .int x, rfl, .int w0, rfl, by show 2 ≤ sizeLine; decide, fun T nT => ?_⟩
        have s2 : Same H1 (upd H1 T (.tup [.int x, .int w0])) := same_upd nT
        have s12 := s1.trans s2
        refine ⟨dp, oV (f1 w0), rfl, by
          rw [← k1]
          exact DGet.t (k := K2 (x, w0)) (s12 _ _ hD) upd_same, .ref dp, rfl, .int w0, rfl, .int y, rfl, by show 2 ≤ sizeLine; decide, fun T2 nT2 => ?_⟩
        have s3 : Same (upd H1 T (.tup [.int x, .int w0])) (upd (upd H1 T (.tup [.int x, .int w0])) T2 (.tup [.int w0, .int y])) := same_upd nT2
        have s13 := s12.trans s3
        refine ⟨dp, oV (g1 w0), rfl, by
          rw [← k2]
          exact DGet.t (k := K2 (w0, y)) (s13 _ _ hD) upd_same, _, _, rfl, ?_⟩
        have hstep : (ws.take (i + 1)).foldl (bestStep fun w => addO (f1 w) (g1 w)) (o, none) = bestStep (fun w => addO (f1 w) (g1 w)) (p, m) w0 := by
          rw [take_snoc hg, List.foldl_append, ← hf]
          rfl
        generalize upd (upd H1 T (.tup [.int x, .int w0])) T2 (.tup [.int w0, .int y]) = H3 at s13 ⊢
        refine q_when (b := decide (oV (f1 w0) = .non) || decide (oV (g1 w0) = .non)) (an_or (an_test (vl_isN (vl_var rfl))) fun _ => an_test (vl_isN (vl_var rfl))) (fun hb => ?_) (fun hb => ?_)
        · refine ⟨_, _, _, p, m, rfl, s13, ?_⟩
          rw [oV_non, oV_non] at hb
          rw [hstep]
          refine (bs_none ?_).symm
          show addO (f1 w0) (g1 w0) = none
          cases e1 : f1 w0 with
          | none => rfl
          | some a =>
            cases e2 : g1 w0 with
            | none => rfl
            | some c =>
              rw [e1, e2] at hb
              cases hb
        · rw [oV_non, oV_non] at hb
          cases e1 : f1 w0 with
          | none =>
            rw [e1] at hb
            cases hb
          | some a =>
            cases e2 : g1 w0 with
            | none =>
              rw [e1, e2] at hb
              cases hb
            | some c =>
              have hsum : (fun w => addO (f1 w) (g1 w)) w0 = some (a + c) := by
                show addO (f1 w0) (g1 w0) = some (a + c)
                rw [e1, e2]
                rfl
              cases p with
              | none =>
                refine g_when (b := true) (an_or (k := true) (m := true) (an_test ((vl_isN (vl_var rfl)).is rfl)) fun h => by cases h) (fun _ => ?_) (fun h => by cases h)
                refine q_asg (v := .int (a + c)) (vl_I0 (vl_var rfl) (vl_var rfl)) ?_
                exact g_asg (v := .int w0) (vl_var rfl) ⟨_, _, _, some (a + c), some w0, rfl, s13, by rw [hstep, bs_first hsum]⟩
              | some b =>
                refine g_when (b := decide (a + c < b)) ((an_or (k := false) (m := decide (a + c < b)) (an_test ((vl_isN (vl_var rfl)).is rfl)) fun _ => an_test (vl_I0 (g := fun i j => .bl (decide (i < j))) (vl_I0 (vl_var rfl) (vl_var rfl)) (vl_var rfl))).is (Bool.false_or _)) (fun h => ?_) (fun h => ?_)
                · refine q_asg (v := .int (a + c)) (vl_I0 (vl_var rfl) (vl_var rfl)) ?_
                  refine g_asg (v := .int w0) (vl_var rfl) ⟨_, _, _, some (a + c), some w0, rfl, s13, ?_⟩
                  rw [hstep, bs_next hsum]
                  exact (if_pos (of_decide_eq_true h)).symm
                · refine ⟨_, _, _, some b, m, rfl, s13, ?_⟩
                  rw [hstep, bs_next hsum]
                  exact (if_neg (of_decide_eq_false h)).symm
    · obtain ⟨y7, y8, y9, p, m, rfl, s1, hf⟩ := hP1
      rw [List.length_map, List.take_length] at hf
      refine ⟨_, rfl, _, rfl, by show 2 ≤ sizeLine; decide, fun T nT => q _ T (s1.trans (same_upd nT)) ?_⟩
      unfold bestF
      rw [← hf]
      exact upd_same
end
theorem keepV {x y : Int} : ∀ (ls : List Lnk) (f : Option V), (∀ m ∈ ls, ¬ (x = m.b ∧ y = m.a) ∧ ¬ (x = m.a ∧ y = m.b)) → ls.foldl (lkS x y) f = f
  | [], f, _ => rfl
  | l :: ls, f, h => by
    have hl := h l List.mem_cons_self
    rw [List.foldl_cons, show lkS x y f l = f by
      unfold lkS
      rw [if_neg hl.1, if_neg hl.2]]
    exact keepV ls f fun m hm => h m (List.mem_cons_of_mem _ hm)
theorem lkv_fold {x y : Int} : ∀ (ls : List Lnk), ls.Pairwise LnkLt → (∀ m ∈ ls, m.a < m.b) → (ls.foldl (lkS x y) none).getD .non = oV (linkW ls x y)
  | [], _, _ => rfl
  | l :: ls, hp, ha => by
    have hp := List.pairwise_cons.mp hp
    have hl := ha l List.mem_cons_self
    have far : (x = l.b ∧ y = l.a) ∨ (x = l.a ∧ y = l.b) → ∀ m ∈ ls, ¬ (x = m.b ∧ y = m.a) ∧ ¬ (x = m.a ∧ y = m.b) := fun h m hm => by
      have h1 := hp.1 m hm
      have h2 := ha m (List.mem_cons_of_mem _ hm)
      unfold LnkLt at h1
      omega
    rw [List.foldl_cons]
    unfold linkW
    by_cases c1 : l.a = x ∧ l.b = y
    · rw [if_pos c1, show lkS x y none l = some (oV l.t) by
        unfold lkS
        rw [if_neg (by omega), if_pos ⟨c1.1.symm, c1.2.symm⟩], keepV ls _ (far (.inr ⟨c1.1.symm, c1.2.symm⟩))]
      rfl
    · rw [if_neg c1]
      by_cases c2 : l.b = x ∧ l.a = y
      · rw [if_pos c2, show lkS x y none l = some (oV l.k) by
          unfold lkS
          rw [if_pos ⟨c2.1.symm, c2.2.symm⟩], keepV ls _ (far (.inl ⟨c2.1.symm, c2.2.symm⟩))]
        rfl
      · rw [if_neg c2, show lkS x y none l = none by
          unfold lkS
          rw [if_neg (fun z => c2 ⟨z.1.symm, z.2.symm⟩), if_neg (fun z => c1 ⟨z.1.symm, z.2.symm⟩)]]
        exact lkv_fold ls hp.2 fun m hm => ha m (List.mem_cons_of_mem _ hm)
theorem lkv_linkW {N : Net} (ok : NetOk N) (x y : Int) : (lkv N.ls x y).getD .non = oV (linkW N.ls x y) := lkv_fold N.ls ok.lt fun m hm => (ok.ok m hm).ab
def spRowF (K : PySem.W.Frag) : Sp := fun vs H Q _ => ∃ (dl dp dw pl : Addr) (u v : Int) (ls : List Lnk) (kvs kvw : List (List L2.Key × V)) (ws : List Int) (pr lk : Int → Int → Option Int), vs = [.ref dl, .ref dp, .ref dw, .int u, .int v] ∧
  LinksAt H dl ls ∧ (∀ x y, (lkv ls x y).getD .non = oV (lk x y)) ∧ H dp = some (.dT kvs) ∧ H dw = some (.dT kvw) ∧ valV kvw (K2 (u, v)) = some (.ref pl) ∧ SqL K H pl (ws.map V.int) ∧ ws.length ≤ 1000 ∧
  (∀ w ∈ ws, ∀ z, (z = u ∨ z = v) → valV kvs (K2 (z, w)) = some (oV (pr z w)) ∧ valV kvs (K2 (w, z)) = some (oV (pr w z))) ∧
  ∀ H' T, Same H H' → H T = none → H' T = some (.tup (rowV ⟨u, v, (bestF (lk u v) (fun w => addO (pr u w) (pr w v)) ws).1, (bestF (lk v u) (fun w => addO (pr v w) (pr w u)) ws).1, (bestF (lk u v) (fun w => addO (pr u w) (pr w v)) ws).2, (bestF (lk v u) (fun w => addO (pr v w) (pr w u)) ws).2⟩)) → Q (.ref T) H'
abbrev sRowF : Stmt := topS 15
theorem scRowF : FnScope ["links", "prices", "lower", "low", "high", "places", "up", "up_middle", "down", "down_middle"] ["links", "prices", "lower", "low", "high"] (defScope sRowF) := ⟨rfl, rfl, rfl, by decide +kernel, rfl, by decide +kernel, by decide +kernel⟩
section
variable {P : Program} {w : World} {K : PySem.W.Frag} {mg : Str → Option Value} {base : Heap}
theorem ok_rowF {f : Addr} {fd : FuncData} {k : Nat} (F : Fun K "_row" "_row" sRowF f fd) (c_fill_way : Kal P w K mg base k "fill_way" ["links", "prices", "places", "x", "y"] (spWayF K)) : FnOk P w K mg base CX0 (k + 1) f fd ["links", "prices", "lower", "low", "high"] (spRowF K) := by
  refine F.ok scRowF (fun vs H Q E h => ?_) (fun cdv A outer s H vs Q E hr h => ?_)
  · obtain ⟨dl, dp, dw, pl, u, v, ls, kvs, kvw, ws, pr, lk, rfl, _⟩ := h
    rfl
  · obtain ⟨dl, dp, dw, pl, u, v, ls, kvs, kvw, ws, pr, lk, rfl, hL, hlk, hD, hW, hpl, hP, hw, hk, q⟩ := h
    have hu := hu_of hr
    refine ⟨_, pss_cons (ps_set (i := 5) scRowF.nd rfl (.inl rfl) (pe_dget hu (pv 2) (pe_tup (pa_cons (pv 3) (pa_cons (pv 4) pa_nil))) (fun _ _ => rfl)))
      (pss_cons (ps_asg (pe_k c_fill_way hr (by first | decide | omega) (by rfl) (pa_cons (pv 0) (pa_cons (pv 1) (pa_cons (pv 5) (pa_cons (pv 3) (pa_cons (pv 4) pa_nil)))))) (pg_tup rfl (pgs_cons (pg_name (i := 6) scRowF.nd rfl (.inl rfl)) (pgs_cons (pg_name (i := 7) scRowF.nd rfl (.inl rfl)) pgs_nil))))
      (pss_cons (ps_asg (pe_k c_fill_way hr (by first | decide | omega) (by rfl) (pa_cons (pv 0) (pa_cons (pv 1) (pa_cons (pv 5) (pa_cons (pv 4) (pa_cons (pv 3) pa_nil)))))) (pg_tup rfl (pgs_cons (pg_name (i := 8) scRowF.nd rfl (.inl rfl)) (pgs_cons (pg_name (i := 9) scRowF.nd rfl (.inl rfl)) pgs_nil))))
      (pss_one (ps_ret (pe_tup (pa_cons (pv 3) (pa_cons (pv 4) (pa_cons (pv 6) (pa_cons (pv 8) (pa_cons (pv 7) (pa_cons (pv 9) pa_nil))))))))))), ?_⟩
    refine q_asgE ⟨.ref dw, rfl, .int u, rfl, .int v, rfl, by show 2 ≤ sizeLine; decide, fun T0 nT0 => ?_⟩
    have s0 : Same H (upd H T0 (.tup [.int u, .int v])) := same_upd nT0
    refine ⟨dw, .ref pl, rfl, by
      rw [← hpl]
      exact DGet.t (k := K2 (u, v)) (s0 _ _ hW) upd_same, ?_⟩
    generalize upd H T0 (.tup [.int u, .int v]) = H0 at s0 ⊢
    refine ⟨.ref dl, rfl, .ref dp, rfl, .ref pl, rfl, .int u, rfl, .int v, rfl, dl, dp, pl, u, v, ls, kvs, ws, lk u v, fun w => pr u w, fun w => pr w v, rfl, hL.to s0, hlk u v, s0 _ _ hD, s0.seq hP, hw, fun w hw2 => ⟨(hk w hw2 u (.inl rfl)).1, (hk w hw2 v (.inr rfl)).2⟩, fun H1 T1 s1 e1 => ?_⟩
    refine ⟨T1, _, rfl, .of e1, rfl, _, _, rfl, _, _, rfl, rfl, ?_⟩
    have s01 := s0.trans s1
    refine ⟨.ref dl, rfl, .ref dp, rfl, .ref pl, rfl, .int v, rfl, .int u, rfl, dl, dp, pl, v, u, ls, kvs, ws, lk v u, fun w => pr v w, fun w => pr w u, rfl, hL.to s01, hlk v u, s01 _ _ hD, s01.seq hP, hw, fun w hw2 => ⟨(hk w hw2 v (.inr rfl)).1, (hk w hw2 u (.inl rfl)).2⟩, fun H2 T2 s2 e2 => ?_⟩
    refine ⟨T2, _, rfl, .of e2, rfl, _, _, rfl, _, _, rfl, rfl, ?_⟩
    refine ⟨_, rfl, _, rfl, _, rfl, _, rfl, _, rfl, _, rfl, by show 6 ≤ sizeLine; decide, fun T nT => q _ T ((s01.trans s2).trans (same_upd nT)) (Same.free (s01.trans s2) nT) upd_same⟩
end
theorem prR_newU {rs : List Row} {r : Row} (h : (r.u, r.v) ∉ rs.map prOf) : prR (rs ++ [r]) r.u r.v = r.up := by
  unfold prR
  rw [List.find?_append, find_none h, Option.none_or, List.find?_cons, decide_eq_true (show r.u = r.u ∧ r.v = r.v from ⟨rfl, rfl⟩)]
theorem prR_newD {rs : List Row} {r : Row} (h : (r.u, r.v) ∉ rs.map prOf) (h2 : (r.v, r.u) ∉ (rs ++ [r]).map prOf) : prR (rs ++ [r]) r.v r.u = r.dn := by
  unfold prR
  rw [find_none h2]
  rw [List.find?_append, find_none h, Option.none_or, List.find?_cons, decide_eq_true (show r.u = r.u ∧ r.v = r.v from ⟨rfl, rfl⟩)]
/-- the dict of prices, told by the rows -/
structure PrAt (kvs : List (List L2.Key × V)) (rs : List Row) : Prop where
  len : kvs.length ≤ 2 * rs.length
  at_ : ∀ x y : Int, ((x, y) ∈ rs.map prOf ∨ (y, x) ∈ rs.map prOf) → valV kvs (K2 (x, y)) = some (oV (prR rs x y))
theorem PrAt.nil : PrAt [] [] := ⟨Nat.le_refl _, fun x y h => by rcases h with h | h <;> cases h⟩
theorem PrAt.step {N : Net} {os : List Int} {kvs : List (List L2.Key × V)} {rs : List Row} {r : Row} {i : Nat} (ok : NetOk N) (oo : OrdOk N.n os) (h : PrAt kvs rs) (hp : rs.map prOf = (pairsL N.ls os).take i) (hi : (pairsL N.ls os)[i]? = some (r.u, r.v)) :
    PrAt (putK (putK kvs (K2 (r.u, r.v)) (oV r.up)) (K2 (r.v, r.u)) (oV r.dn)) (rs ++ [r]) := by
  have hLn := pairsL_nodup (ls := N.ls) oo
  have hmL : (r.u, r.v) ∈ pairsL N.ls os := List.mem_of_getElem? hi
  have hnew : (r.u, r.v) ∉ rs.map prOf := fun hh => by
    rw [hp] at hh
    obtain ⟨k, hk⟩ := List.mem_iff_getElem?.mp hh
    have hlt := (List.getElem?_eq_some_iff.mp hk).1
    rw [List.length_take] at hlt
    rw [List.getElem?_take, if_pos (by omega), ← hi] at hk
    have := (List.getElem?_inj (by omega) hLn).mp hk
    omega
  have hall : ∀ p ∈ (rs ++ [r]).map prOf, p ∈ pairsL N.ls os := fun p hpm => by
    rw [List.map_append] at hpm
    rcases List.mem_append.mp hpm with e | e
    · rw [hp] at e
      exact List.mem_of_mem_take e
    · rw [List.mem_singleton.mp e]
      exact hmL
  have hD : (r.v, r.u) ∉ (rs ++ [r]).map prOf := fun hh => anti ok oo hmL (hall _ hh)
  refine ⟨?_, fun x y hxy => ?_⟩
  · have h1 := put_len (kvs := putK kvs (K2 (r.u, r.v)) (oV r.up)) (k := K2 (r.v, r.u)) (v := oV r.dn)
    have h2 := put_len (kvs := kvs) (k := K2 (r.u, r.v)) (v := oV r.up)
    have h3 := h.len
    rw [List.length_append]
    show _ ≤ 2 * (_ + 1)
    omega
  · rw [valV_put, valV_put]
    by_cases c1 : (x, y) = (r.v, r.u)
    · cases c1
      rw [if_pos rfl, prR_newD hnew hD]
    · rw [if_neg (fun z => c1 (K2_inj z))]
      by_cases c2 : (x, y) = (r.u, r.v)
      · cases c2
        rw [if_pos rfl, prR_newU hnew]
      · rw [if_neg (fun z => c2 (K2_inj z))]
        have old : (x, y) ∈ rs.map prOf ∨ (y, x) ∈ rs.map prOf := by
          rw [List.map_append] at hxy
          rcases hxy with e | e
          · rcases List.mem_append.mp e with e | e
            · exact .inl e
            · exact absurd (List.mem_singleton.mp e) c2
          · rcases List.mem_append.mp e with e | e
            · exact .inr e
            · have e := List.mem_singleton.mp e
              exact absurd (by
                have e1 := congrArg Prod.fst e
                have e2 := congrArg Prod.snd e
                exact Prod.ext e2 e1) c1
        rw [h.at_ x y old]
        rcases old with e | e
        · rw [prR_pre1 e]
        · rw [prR_pre2 e fun hh => anti ok oo (hall _ (by
            rw [List.map_append]
            exact List.mem_append.mpr (.inl e))) (hall _ hh)]
/-- the rows in the heap -/
structure RowsT (H : Hp) (tr : List V) (rs : List Row) : Prop where
  len : tr.length = rs.length
  at_ : ∀ (k : Nat) r, rs[k]? = some r → ∃ t, tr[k]? = some (.ref t) ∧ H t = some (.tup (rowV r))
theorem RowsT.to {H H' : Hp} {tr : List V} {rs : List Row} (h : RowsT H tr rs) (s : Same H H') : RowsT H' tr rs := ⟨h.len, fun k r e => let ⟨t, e1, e2⟩ := h.at_ k r e; ⟨t, e1, s _ _ e2⟩⟩
theorem RowsT.dp {K : PySem.W.Frag} {H : Hp} : ∀ {tr : List V} {rs : List Row}, RowsT H tr rs → DpAll K H tr (rs.map rowD)
  | [], [], _ => .nil
  | [], _ :: _, h => absurd h.len (by simp)
  | _ :: _, [], h => absurd h.len (by simp)
  | x :: tr, r :: rs, h => by
    obtain ⟨t, e1, e2⟩ := h.at_ 0 r rfl
    cases Option.some.inj e1
    exact .cons (.tup (.of e2) (.cons (.int _) (.cons (.int _) (.cons (Dp.o _) (.cons (Dp.o _) (.cons (Dp.o _) (.cons (Dp.o _) .nil))))))) (RowsT.dp ⟨Nat.succ.inj h.len, fun k r e => h.at_ (k + 1) r e⟩)
theorem LowD.get {H H' : Hp} {d : Addr} {kvs : List (List L2.Key × V)} {L : List (Int × Int)} {os : List Int} (h : LowD H H' d kvs L os) {u v : Int} (hm : (u, v) ∈ L) : ∃ a, valV kvs (K2 (u, v)) = some (.ref a) ∧ H' a = some (.lst ((lowerL L os u v).map V.int)) := by
  obtain ⟨y, hy⟩ := h.has u v hm
  unfold valV at hy
  cases e : kvs.find? fun kv => decide (kv.1 = [Sum.inl u, Sum.inl v]) with
  | none =>
    rw [e] at hy
    cases hy
  | some p =>
    have e1 := List.mem_of_find?_eq_some e
    have e2 : p.1 = [Sum.inl u, Sum.inl v] := by simpa using List.find?_some e
    obtain ⟨u', v', a, hm', rfl, _, ha⟩ := h.all p e1
    have e3 := key2.mp e2
    obtain ⟨rfl, rfl⟩ := e3
    refine ⟨a, ?_, ha⟩
    show (kvs.find? fun kv => decide (kv.1 = [Sum.inl u', Sum.inl v'])).map (·.2) = _
    rw [e] <;> rfl
/-- what the row of a pair wants, from the rows ahead -/
theorem row_wants {N : Net} {os : List Int} {kvs : List (List L2.Key × V)} {rs : List Row} {i : Nat} {u v : Int} (ok : NetOk N) (oo : OrdOk N.n os) (h : PrAt kvs rs) (hp : rs.map prOf = (pairsL N.ls os).take i) (hi : (pairsL N.ls os)[i]? = some (u, v)) :
    ∀ w ∈ lowerL (pairsL N.ls os) os u v, ∀ z, (z = u ∨ z = v) → valV kvs (K2 (z, w)) = some (oV (prR rs z w)) ∧ valV kvs (K2 (w, z)) = some (oV (prR rs w z)) := fun w hw z hz => by
  have hm := mem_lowerL.mp hw
  have hl := ((mem_pairsL ok oo).mp hm.2.1).1
  have hwz : (w, z) ∈ pairsL N.ls os := by
    rcases hz with rfl | rfl
    · exact hm.2.1
    · exact hm.2.2
  have hb := before ok oo hi hwz hl
  rw [← hp] at hb
  exact ⟨h.at_ z w (.inr hb), h.at_ w z (.inl hb)⟩
abbrev sFill : Stmt := topS 12
theorem scFill : FnScope ["net", "order", "found", "lower", "links", "prices", "rows", "low", "high", "row"] ["net", "order"] (defScope sFill) := ⟨rfl, rfl, rfl, by decide +kernel, rfl, by decide +kernel, by decide +kernel⟩
section
variable {P : Program} {w : World} {K : PySem.W.Frag} {mg : Str → Option Value} {base : Heap}
theorem ok_fill {f : Addr} {fd : FuncData} {k k1 k2 k3 k4 : Nat} (h1 : k1 ≤ k) (h2 : k2 ≤ k) (h3 : k3 ≤ k) (h4 : k4 ≤ k) (F : Fun K "fill" "fill" sFill f fd) (c_pairs : Kal P w K mg base k1 "pairs" ["net", "order"] (spPairs K)) (c_lower_by_pair : Kal P w K mg base k2 "_lower_by_pair" ["found", "order"] (spLowBy K))
    (c_link_ways : Kal P w K mg base k3 "link_ways" ["net"] (spLinkWays K)) (c_row : Kal P w K mg base k4 "_row" ["links", "prices", "lower", "low", "high"] (spRowF K)) : FnOk P w K mg base CX0 (k + 1) f fd ["net", "order"] (spFill K) := by
  refine F.ok scFill (fun vs H Q E h => ?_) (fun cdv A outer s H vs Q E hr h => ?_)
  · obtain ⟨v, N, p, os, rfl, _⟩ := h
    rfl
  · obtain ⟨v, N, p, os, rfl, hN, okN, hS, oo, q⟩ := h
    have hu := hu_of hr
    refine ⟨_, pss_cons (ps_set (i := 2) scFill.nd rfl (.inl rfl) (pe_k c_pairs hr (by first | decide | omega) (by rfl) (pa_cons (pv 0) (pa_cons (pv 1) pa_nil))))
      (pss_cons (ps_set (i := 3) scFill.nd rfl (.inl rfl) (pe_k c_lower_by_pair hr (by first | decide | omega) (by rfl) (pa_cons (pv 2) (pa_cons (pv 1) pa_nil))))
      (pss_cons (ps_set (i := 4) scFill.nd rfl (.inl rfl) (pe_k c_link_ways hr (by first | decide | omega) (by rfl) (pa_cons (pv 0) pa_nil)))
      (pss_cons (ps_set (i := 5) scFill.nd rfl (.inl rfl) pe_dnewT)
      (pss_cons (ps_set (i := 6) scFill.nd rfl (.inl rfl) (pe_lst pa_nil))
      (pss_cons (ps_for PassesOwn.never rfl (pi_list (pv 2)) (pg_tup rfl (pgs_cons (pg_name (i := 7) scFill.nd rfl (.inl rfl)) (pgs_cons (pg_name (i := 8) scFill.nd rfl (.inl rfl)) pgs_nil)))
      (pss_cons (ps_set (i := 9) scFill.nd rfl (.inl rfl) (pe_k c_row hr (by first | decide | omega) (by rfl) (pa_cons (pv 4) (pa_cons (pv 5) (pa_cons (pv 3) (pa_cons (pv 7) (pa_cons (pv 8) pa_nil)))))))
        (pss_cons (ps_dput hu (pv 5) (pe_tup (pa_cons (pv 7) (pa_cons (pv 8) pa_nil))) (pe_ix ix_tup (pv 9) pe_int (fun _ _ => rfl)) rfl)
        (pss_cons (ps_dput hu (pv 5) (pe_tup (pa_cons (pv 8) (pa_cons (pv 7) pa_nil))) (pe_ix ix_tup (pv 9) pe_int (fun _ _ => rfl)) rfl)
        (pss_one (ps_expr (pe_bm PySem.F.plainAttrs_list PySem.F.slot_list_append PySem.F.type_list_append mt_append (pv 6) (pa_cons (pv 9) pa_nil))))))))
      (pss_one (ps_ret (pv 6)))))))), ?_⟩
    have l16 := okN.len
    have hLl := pairsL_len okN oo
    refine q_asgE ⟨v, rfl, .ref p, rfl, v, N, p, os, rfl, hN, okN, hS, oo, fun H1 fp ts s1 nfp efp hT => ?_⟩
    refine q_asgE ⟨.ref fp, rfl, .ref p, rfl, fp, p, ts, N, os, rfl, .of efp, hT, s1.seq hS, okN, oo, fun H2 d kvw s2 nd hLow => ?_⟩
    have s12 := s1.trans s2
    refine q_asgE ⟨v, rfl, v, N, rfl, Dp.to hN s12, by omega, fun H3 dl s3 ndl hLk => ?_⟩
    have s13 := s12.trans s3
    refine q_dnewT fun dp ndp => ?_
    refine q_lnew fun ro nro => ?_
    have s4 : Same H3 (upd H3 dp (.dT [])) := same_upd ndp
    have s5 : Same (upd H3 dp (.dT [])) (upd (upd H3 dp (.dT [])) ro (.lst [])) := same_upd nro
    have hrd : ro ≠ dp := fun z => by
      rw [z, upd_same] at nro
      cases nro
    have nro3 : H3 ro = none := Same.free s4 nro
    have hT3 := hT.to (s2.trans s3)
    have efp3 := (s2.trans s3) _ _ efp
    refine q_forP (vl_var rfl) (.of ((s4.trans s5) _ _ efp3)) hT.len
      (fun i σ H4 => ∃ y7 y8 y9 kvs rs tr, σ = [some v, some (.ref p), some (.ref fp), some (.ref d), some (.ref dl), some (.ref dp), some (.ref ro), y7, y8, y9] ∧ Same H3 H4 ∧ H4 dp = some (.dT kvs) ∧ H4 ro = some (.lst tr) ∧ RowsT H4 tr rs ∧ PrAt kvs rs ∧ rs.map prOf = (pairsL N.ls os).take i ∧
        ∀ (k : Nat) r, rs[k]? = some r → r = mkRow N os (pairsL N.ls os) (rs.take k) r.u r.v)
      ⟨none, none, none, [], [], [], rfl, s4.trans s5, by rw [upd_ne (fun z => hrd z.symm)]; exact upd_same, upd_same, ⟨rfl, fun k r e => by simp at e⟩, PrAt.nil, by simp, fun k r e => by simp at e⟩ (fun i σ H4 hP => ?_) (fun i u v0 t σ H4 hi ht hP => ?_) (fun σ H4 hP => ?_)
    · obtain ⟨_, _, _, _, _, _, _, s6, _⟩ := hP
      exact ⟨.of (s6 _ _ efp3), hT3.to s6⟩
    · obtain ⟨y7, y8, y9, kvs, rs, tr, rfl, s6, edp, ero, hR, hPr, hpm, hmk⟩ := hP
      have hm : (u, v0) ∈ pairsL N.ls os := List.mem_of_getElem? hi
      have hil := (List.getElem?_eq_some_iff.mp hi).1
      obtain ⟨pl, hv, hpl⟩ := hLow.get hm
      have hrl : rs.length = i := by
        have := congrArg List.length hpm
        rw [List.length_map, List.length_take] at this
        omega
      refine q_asgE ⟨.ref dl, rfl, .ref dp, rfl, .ref d, rfl, .int u, rfl, .int v0, rfl, dl, dp, d, pl, u, v0, N.ls, kvs, kvw, lowerL (pairsL N.ls os) os u v0, prR rs, linkW N.ls, rfl, hLk.to s6, lkv_linkW okN, edp, s6 _ _ (s3 _ _ hLow.d), hv, .of (s6 _ _ (s3 _ _ hpl)), ?_, row_wants okN oo hPr hpm hi, fun H5 T s7 nT eT => ?_⟩
      · have e1 : (lowerL (pairsL N.ls os) os u v0).length ≤ os.length := List.length_filter_le _ _
        have := oo.len
        have := okN.n40
        omega
      · have hreq : mkRow N os (pairsL N.ls os) rs u v0 = ⟨u, v0, (bestF (linkW N.ls u v0) (fun w => addO (prR rs u w) (prR rs w v0)) (lowerL (pairsL N.ls os) os u v0)).1, (bestF (linkW N.ls v0 u) (fun w => addO (prR rs v0 w) (prR rs w u)) (lowerL (pairsL N.ls os) os u v0)).1, (bestF (linkW N.ls u v0) (fun w => addO (prR rs u w) (prR rs w v0)) (lowerL (pairsL N.ls os) os u v0)).2, (bestF (linkW N.ls v0 u) (fun w => addO (prR rs v0 w) (prR rs w u)) (lowerL (pairsL N.ls os) os u v0)).2⟩ := rfl
        rw [← hreq] at eT
        have ru : (mkRow N os (pairsL N.ls os) rs u v0).u = u := rfl
        have rv : (mkRow N os (pairsL N.ls os) rs u v0).v = v0 := rfl
        generalize hrr : mkRow N os (pairsL N.ls os) rs u v0 = r at eT ru rv
        have s67 := s6.trans s7
        have hstep := hPr.step (r := r) okN oo hpm (by rw [ru, rv]; exact hi)
        rw [ru, rv] at hstep
        refine q_dputK (v := oV r.up) (y1 := u) (y2 := v0) (vl_ixT (K := K) (vl_var rfl) vl_c (.of eT) (atI_nat (j := 2) rfl)) (vl_var rfl) (vl_var rfl) (vl_var rfl) (s7 _ _ edp) ?_ fun T1 nT1 oT1 => ?_
        · have := hPr.len
          exact Nat.lt_of_le_of_lt (m := 10000) (by omega) (by decide)
        have s8 : Same H5 (upd H5 T1 (.tup [.int u, .int v0])) := same_upd nT1
        have hT_dp : T ≠ dp := fun z => by
          rw [z, s7 _ _ edp] at eT
          cases eT
        have eT8 : upd (upd H5 T1 (.tup [.int u, .int v0])) dp (.dT (putK kvs [.inl u, .inl v0] (oV r.up))) T = some (.tup (rowV r)) := by
          rw [upd_ne hT_dp]
          exact s8 _ _ eT
        have b8 : Same (but H5 dp) (but (upd (upd H5 T1 (.tup [.int u, .int v0])) dp (.dT (putK kvs [.inl u, .inl v0] (oV r.up)))) dp) := by
          rw [but_upd]
          exact but_mono s8
        have g8 : Same H3 (upd (upd H5 T1 (.tup [.int u, .int v0])) dp (.dT (putK kvs [.inl u, .inl v0] (oV r.up)))) := same_upd' (s67.trans s8) ndp
        have e8 : upd (upd H5 T1 (.tup [.int u, .int v0])) dp (.dT (putK kvs [.inl u, .inl v0] (oV r.up))) dp = some (.dT (putK kvs [.inl u, .inl v0] (oV r.up))) := upd_same
        generalize upd (upd H5 T1 (.tup [.int u, .int v0])) dp (.dT (putK kvs [.inl u, .inl v0] (oV r.up))) = H8 at eT8 b8 g8 e8 ⊢
        refine q_dputK (v := oV r.dn) (y1 := v0) (y2 := u) (vl_ixT (K := K) (vl_var rfl) vl_c (.of eT8) (atI_nat (j := 3) rfl)) (vl_var rfl) (vl_var rfl) (vl_var rfl) e8 ?_ fun T2 nT2 oT2 => ?_
        · have h1 := hPr.len
          have h2 := put_len (kvs := kvs) (k := [Sum.inl u, Sum.inl v0]) (v := oV r.up)
          exact Nat.lt_of_le_of_lt (m := 10000) (by omega) (by decide)
        have s9 : Same H8 (upd H8 T2 (.tup [.int v0, .int u])) := same_upd nT2
        have eT9 : upd (upd H8 T2 (.tup [.int v0, .int u])) dp (.dT (putK (putK kvs [.inl u, .inl v0] (oV r.up)) [.inl v0, .inl u] (oV r.dn))) T = some (.tup (rowV r)) := by
          rw [upd_ne hT_dp]
          exact s9 _ _ eT8
        have b9 : Same (but H5 dp) (but (upd (upd H8 T2 (.tup [.int v0, .int u])) dp (.dT (putK (putK kvs [.inl u, .inl v0] (oV r.up)) [.inl v0, .inl u] (oV r.dn)))) dp) := by
          rw [but_upd]
          exact b8.trans (but_mono s9)
        have g9 : Same H3 (upd (upd H8 T2 (.tup [.int v0, .int u])) dp (.dT (putK (putK kvs [.inl u, .inl v0] (oV r.up)) [.inl v0, .inl u] (oV r.dn)))) := same_upd' (g8.trans s9) ndp
        have e9 : upd (upd H8 T2 (.tup [.int v0, .int u])) dp (.dT (putK (putK kvs [.inl u, .inl v0] (oV r.up)) [.inl v0, .inl u] (oV r.dn))) dp = some (.dT (putK (putK kvs [.inl u, .inl v0] (oV r.up)) [.inl v0, .inl u] (oV r.dn))) := upd_same
        generalize upd (upd H8 T2 (.tup [.int v0, .int u])) dp (.dT (putK (putK kvs [.inl u, .inl v0] (oV r.up)) [.inl v0, .inl u] (oV r.dn))) = H9 at eT9 b9 g9 e9 ⊢
        have keep : ∀ a x, a ≠ dp → H5 a = some x → H9 a = some x := fun a x hne hx => but_same _ _ (b9 _ _ (by rw [but_ne hne]; exact hx))
        have ero9 := keep ro _ hrd (s7 _ _ ero)
        have hTro : T ≠ ro := fun z => by
          rw [z, ero9] at eT9
          cases eT9
        refine g_app (v := .ref T) (vl_var rfl) ero9 (vl_var rfl) ?_ ⟨_, _, _, _, rs ++ [r], tr ++ [.ref T], rfl, same_upd' g9 nro3, ?_, upd_same, ⟨?_, fun k r' hk => ?_⟩, hstep, ?_, fun k r' hk => ?_⟩
        · rw [hR.len, hrl]
          exact Nat.lt_of_le_of_lt (m := 10000) (by omega) (by decide)
        · rw [upd_ne (fun z => hrd z.symm)]
          exact e9
        · rw [List.length_append, List.length_append, hR.len]
          rfl
        · by_cases hkl : k < rs.length
          · rw [List.getElem?_append_left hkl] at hk
            obtain ⟨t', z1, z2⟩ := hR.at_ k r' hk
            refine ⟨t', by rw [List.getElem?_append_left (by rw [hR.len]; exact hkl)]; exact z1, ?_⟩
            have zdp : t' ≠ dp := fun z => by
              rw [z, edp] at z2
              cases z2
            have zro : t' ≠ ro := fun z => by
              rw [z, ero] at z2
              cases z2
            rw [upd_ne zro]
            exact keep t' _ zdp (s7 _ _ z2)
          · rw [List.getElem?_append_right (by omega)] at hk
            have e0 : k - rs.length = 0 := by
              have := (List.getElem?_eq_some_iff.mp hk).1
              simp at this
              exact this
            rw [e0] at hk
            cases hk
            refine ⟨T, ?_, ?_⟩
            · rw [List.getElem?_append_right (by rw [hR.len]; omega), hR.len, e0]
              rfl
            · rw [upd_ne hTro]
              exact eT9
        · rw [List.map_append, hpm, take_snoc hi]
          show _ ++ [(r.u, r.v)] = _
          rw [ru, rv]
        · by_cases hkl : k < rs.length
          · rw [List.getElem?_append_left hkl] at hk
            rw [List.take_append_of_le_length (by omega)]
            exact hmk k r' hk
          · rw [List.getElem?_append_right (by omega)] at hk
            have e0 : k - rs.length = 0 := by
              have := (List.getElem?_eq_some_iff.mp hk).1
              simp at this
              exact this
            rw [e0] at hk
            cases hk
            have ek : k = rs.length := by omega
            rw [ek, List.take_left', ru, rv]
            · exact hrr.symm
            · rfl
    · obtain ⟨y7, y8, y9, kvs, rs, tr, rfl, s6, edp, ero, hR, hPr, hpm, hmk⟩ := hP
      rw [List.take_length] at hpm
      exact g_ret (vl_var rfl) (q H4 ro tr rs (s13.trans s6) (Same.free s13 nro3) ero hR.dp ((fill_iff okN oo).mpr ⟨hpm, hmk⟩))
end
theorem Dp.row_inv {K : PySem.W.Frag} {H : Hp} {v : V} {r : Row} (h : Dp K H v (rowD r)) : ∃ a, v = .ref a ∧ SqT K H a (rowV r) := by
  obtain ⟨a, xs, rfl, hs, ha⟩ := Dp.tup_inv h
  cases ha with
  | cons h1 r1 =>
    cases r1 with
    | cons h2 r2 =>
      cases r2 with
      | cons h3 r3 =>
        cases r3 with
        | cons h4 r4 =>
          cases r4 with
          | cons h5 r5 =>
            cases r5 with
            | cons h6 r6 =>
              cases r6
              rw [Dp.int_inv h1, Dp.int_inv h2, Dp.o_inv h3, Dp.o_inv h4, Dp.o_inv h5, Dp.o_inv h6] at hs
              exact ⟨a, rfl, hs⟩
theorem Dp.row {K : PySem.W.Frag} {H : Hp} {a : Addr} {r : Row} (h : SqT K H a (rowV r)) : Dp K H (.ref a) (rowD r) :=
  .tup h (.cons (.int _) (.cons (.int _) (.cons (Dp.o _) (.cons (Dp.o _) (.cons (Dp.o _) (.cons (Dp.o _) .nil))))))
theorem eqvAll_prs : ∀ L M : List (Int × Int), PyData.eqvAll (L.map pairD2) (M.map pairD2) = decide (L = M)
  | [], [] => rfl
  | [], _ :: _ => rfl
  | _ :: _, [] => rfl
  | (a, b) :: L, (c, d) :: M => by
    show (((a == c) && ((b == d) && true)) && PyData.eqvAll (L.map pairD2) (M.map pairD2)) = _
    rw [eqvAll_prs L M, Bool.and_true, Bool.eq_iff_iff, Bool.and_eq_true, Bool.and_eq_true, beq_iff_eq, beq_iff_eq, decide_eq_true_eq, decide_eq_true_eq]
    constructor
    · rintro ⟨⟨rfl, rfl⟩, rfl⟩
      rfl
    · intro h
      cases h
      exact ⟨⟨rfl, rfl⟩, rfl⟩
theorem lay_prs : ∀ L : List (Int × Int), PyData.canLayAll0 (L.map pairD2) = true ∧ PyData.depthAll (L.map pairD2) ≤ 1
  | [] => ⟨rfl, Nat.zero_le _⟩
  | p :: L => by
    have ih := lay_prs L
    constructor
    · show (((true && (true && true))) && PyData.canLayAll0 (L.map pairD2)) = true
      rw [ih.1]
      rfl
    · show max (max 0 (max 0 0) + 1) (PyData.depthAll (L.map pairD2)) ≤ 1
      have := ih.2
      omega
theorem shaped_prs (L : List (Int × Int)) : SeqAt.shaped (.list (L.map pairD2)) = true := by
  have h := lay_prs L
  show (PyData.canLayAll0 (L.map pairD2) && decide (PyData.depthAll (L.map pairD2) + 1 ≤ 64)) = true
  rw [h.1, decide_eq_true (by
    have := h.2
    omega)]
  rfl
theorem shaped_row (r : Row) : SeqAt.shaped (rowD r) = true := by
  have h := lay_row r
  show ((rowD r).canLay0 && decide ((rowD r).depth ≤ 64)) = true
  rw [h.1, h.2]
  rfl
theorem eqv_row (r s : Row) : PyData.eqv (rowD r) (rowD s) = true ↔ r = s := by
  show ((r.u == s.u) && ((r.v == s.v) && (PyData.eqv (oD r.up) (oD s.up) && (PyData.eqv (oD r.dn) (oD s.dn) && (PyData.eqv (oD r.um) (oD s.um) && (PyData.eqv (oD r.dm) (oD s.dm) && true)))))) = true ↔ r = s
  rw [eqv_o, eqv_o, eqv_o, eqv_o, Bool.and_true]
  simp only [Bool.and_eq_true, beq_iff_eq, decide_eq_true_eq]
  constructor
  · rintro ⟨h1, h2, h3, h4, h5, h6⟩
    cases r
    cases s
    simp only at h1 h2 h3 h4 h5 h6
    rw [h1, h2, h3, h4, h5, h6]
  · rintro rfl
    exact ⟨rfl, rfl, rfl, rfl, rfl, rfl⟩
/-- [(row[0], row[1]) for row in rows] -/
theorem lc_prs {K : PySem.W.Frag} {σ : L2.St} {H : Hp} {tl : TE} {j : Nat} {rows : List Row} {xs : List V} {a : Addr} {Q : VK} (hj : j < σ.length) (hl : Vl tl σ H (.ref a)) (hx : SqL K H a xs) (hd : DpAll K H xs (rows.map rowD)) (hz : rows.length ≤ 100000)
    (q : ∀ D H' ts, Same H H' → H D = none → H' D = some (.lst ts) → TupsAt H' ts (rows.map prOf) → Q (.ref D) H') : tLc (iList K tl) (gName j) tYes (tTup (tCons (tOp (rIxT K) (tVar j) (tC (.int 0))) (tCons (tOp (rIxT K) (tVar j) (tC (.int 1))) tNil))) [j] σ H Q := by
  have lx := DpAll.len hd
  rw [List.length_map] at lx
  refine hl _ ⟨a, rfl, ⟨_, hx⟩, fun D nD => lc_list (xs := xs) (fun i H' => ∃ ts, H' D = some (.lst ts) ∧ Same H H' ∧ TupsAt H' ts ((rows.take i).map prOf)) ⟨[], upd_same, same_upd nD, TupsAt.nil⟩ (fun i H' _ hP => hP.choose_spec.2.1.seq hx) (fun i x H2 hi hP => ?_) (fun H2 hP => ?_)⟩
  · obtain ⟨ts, hD, s2, hT⟩ := hP
    have hil := (List.getElem?_eq_some_iff.mp hi).1
    have hg : rows[i]? = some rows[i] := List.getElem?_eq_getElem (by omega)
    generalize rows[i] = r at hg
    obtain ⟨v', ev, dv⟩ := DpAll.get (i := i) (d := rowD r) hd (by
      rw [List.getElem?_map, hg]
      rfl)
    cases hi.symm.trans ev
    obtain ⟨t, rfl, ht⟩ := Dp.row_inv dv
    have hjl : ((σ.set j none).set j (some (V.ref t)))[j]? = some (some (V.ref t)) := List.getElem?_set_self (by rw [List.length_set]; exact hj)
    refine ⟨?_, ?_⟩
    · show ((σ.set j none).set j (some (V.ref t))).set j none = σ.set j none
      rw [List.set_set, List.set_set]
    · refine iteT (B := ∃ ts, H2 D = some (.lst ts) ∧ Same H H2 ∧ TupsAt H2 ts ((rows.take (i + 1)).map prOf)) ((vl_ixT (K := K) (vl_var hjl) vl_c (seqT s2 ht) (atI_nat (j := 0) rfl)) _ ((vl_ixT (K := K) (vl_var hjl) vl_c (seqT s2 ht) (atI_nat (j := 1) rfl)) _ ⟨by show 2 ≤ sizeLine; decide, fun T nT => ⟨ts, same_upd nT _ _ hD, ?_, ts ++ [.ref T], upd_same, same_upd' (s2.trans (same_upd nT)) nD, ?_⟩⟩))
      · rw [hT.len, List.length_map, List.length_take]
        exact Nat.lt_of_le_of_lt (m := 100000) (by omega) (by decide)
      · rw [take_snoc hg, List.map_append]
        exact ((hT.to (same_upd nT)).app (TupsAt.one upd_same)).upd (same_upd nT _ _ hD)
  · obtain ⟨ts, hD, s2, hT⟩ := hP
    rw [lx, List.take_length] at hT
    exact q D H2 ts s2 nD hD hT
theorem g_retCall1 {sp : Sp} {t : TE} {tr : TA} {D : Ends} {σ : L2.St} {H : Hp} (h : t σ H fun x H1 => tr σ H1 fun xs H2 => sp ((x :: xs) ++ []) H2 D.rt E0) : tRet (tCall sp [] E0 (tCons t tr)) D σ H := h
theorem q_asgE1 {t : TE} {i : Nat} {D : Ends} {tw : TS} {σ : L2.St} {H : Hp} (h : t σ H fun x H1 => tw D (σ.set i (some x)) H1) : tSeq (tAsg t (gName i)) tw D σ H := h
section
variable {P : Program} {w : World} {K : PySem.W.Frag} {mg : Str → Option Value} {base : Heap}
end
/-- [row[:2] for row in rows] -/
theorem lc_cut2 {K : PySem.W.Frag} {σ : L2.St} {H : Hp} {tl : TE} {j : Nat} {rows : List Row} {xs : List V} {a : Addr} {Q : VK} (hj : j < σ.length) (hl : Vl tl σ H (.ref a)) (hx : SqL K H a xs) (hd : DpAll K H xs (rows.map rowD)) (hz : rows.length ≤ 100000)
    (q : ∀ D H' ts, Same H H' → H D = none → H' D = some (.lst ts) → TupsAt H' ts (rows.map prOf) → Q (.ref D) H') : tLc (iList K tl) (gName j) tYes (tSl (rSlT K) (tVar j) tNoPart (tPart (tC (.int 2)))) [j] σ H Q := by
  have lx := DpAll.len hd
  rw [List.length_map] at lx
  refine hl _ ⟨a, rfl, ⟨_, hx⟩, fun D nD => lc_list (xs := xs) (fun i H' => ∃ ts, H' D = some (.lst ts) ∧ Same H H' ∧ TupsAt H' ts ((rows.take i).map prOf)) ⟨[], upd_same, same_upd nD, TupsAt.nil⟩ (fun i H' _ hP => hP.choose_spec.2.1.seq hx) (fun i x H2 hi hP => ?_) (fun H2 hP => ?_)⟩
  · obtain ⟨ts, hD, s2, hT⟩ := hP
    have hil := (List.getElem?_eq_some_iff.mp hi).1
    have hg : rows[i]? = some rows[i] := List.getElem?_eq_getElem (by omega)
    generalize rows[i] = r at hg
    obtain ⟨v', ev, dv⟩ := DpAll.get (i := i) (d := rowD r) hd (by
      rw [List.getElem?_map, hg]
      rfl)
    cases hi.symm.trans ev
    obtain ⟨t, rfl, ht⟩ := Dp.row_inv dv
    have hjl : ((σ.set j none).set j (some (V.ref t)))[j]? = some (some (V.ref t)) := List.getElem?_set_self (by rw [List.length_set]; exact hj)
    refine ⟨?_, ?_⟩
    · show ((σ.set j none).set j (some (V.ref t))).set j none = σ.set j none
      rw [List.set_set, List.set_set]
    · refine iteT (B := ∃ ts, H2 D = some (.lst ts) ∧ Same H H2 ∧ TupsAt H2 ts ((rows.take (i + 1)).map prOf)) ⟨_, hjl, 2, rfl, t, rowV r, rfl, seqT s2 ht, fun z => ?_, fun T nT => ?_⟩
      · have := z.2
        rw [show HT.sIx (rowV r).length (rowV r).length (some 2) = min 2 6 from HT.sIx_nat 6 6 2] at this
        exact absurd (show (2 : Nat) = 6 from this) (by decide)
      · rw [show cutV (rowV r) none (some 2) = [.int r.u, .int r.v] from cut_to (xs := rowV r) (n := 2) (by show 2 ≤ 6; decide)]
        refine ⟨ts, same_upd nT _ _ hD, ?_, ts ++ [.ref T], upd_same, same_upd' (s2.trans (same_upd nT)) nD, ?_⟩
        · rw [hT.len, List.length_map, List.length_take]
          exact Nat.lt_of_le_of_lt (m := 100000) (by omega) (by decide)
        · rw [take_snoc hg, List.map_append]
          exact ((hT.to (same_upd nT)).app (TupsAt.one upd_same)).upd (same_upd nT _ _ hD)
  · obtain ⟨ts, hD, s2, hT⟩ := hP
    rw [lx, List.take_length] at hT
    exact q D H2 ts s2 nD hD hT
section
variable {K : PySem.W.Frag} {σ : L2.St} {H : Hp} {a : Addr} {D : Ends} {tz tw : TS} {te td ta tb : TE}
/-- for low, high, up, down, up_middle, down_middle in rows -/
theorem g_forRow {j1 j2 j3 j4 j5 j6 : Nat} {Hb : Hp} {xs : List V} {rows : List Row} {tl : TE} (h : Vl tl σ H (.ref a)) (hx : SqL K Hb a xs) (hL : DpAll K Hb xs (rows.map rowD)) (hb : Same Hb H) (Pv : Nat → L2.St → Hp → Prop) (h0 : Pv 0 σ H) (hl : ∀ i σ' H', Pv i σ' H' → Same Hb H')
    (hs : ∀ (i : Nat) r σ H, rows[i]? = some r → Pv i σ H → tz { D with nx := Pv (i + 1), ct := Pv (i + 1), bk := D.nx } ((((((σ.set j1 (some (.int r.u))).set j2 (some (.int r.v))).set j3 (some (oV r.up))).set j4 (some (oV r.dn))).set j5 (some (oV r.um))).set j6 (some (oV r.dm))) H) (hd : ∀ σ H, Pv rows.length σ H → D.nx σ H) :
    tFor (iList K tl) (gTup K 6 (gCons (gName j1) (gCons (gName j2) (gCons (gName j3) (gCons (gName j4) (gCons (gName j5) (gCons (gName j6) gNil))))))) tz D σ H := h _ ⟨a, rfl, ⟨_, hb.seq hx⟩, for_list (xs := xs) Pv h0 (fun i σ H _ p => (hl i σ H p).seq hx) (fun i x σ H hi p => by
      have e := DpAll.len hL
      rw [List.length_map] at e
      have hlt := (List.getElem?_eq_some_iff.mp hi).1
      have hg : rows[i]? = some rows[i] := List.getElem?_eq_getElem (by omega)
      obtain ⟨v, hv, dv⟩ := DpAll.get (i := i) (d := rowD rows[i]) hL (by
        rw [List.getElem?_map, hg]
        rfl)
      cases hi.symm.trans hv
      obtain ⟨t, rfl, ht⟩ := Dp.row_inv dv
      exact ⟨t, _, rfl, seqT (hl i σ H p) ht, rfl, _, _, rfl, _, _, rfl, _, _, rfl, _, _, rfl, _, _, rfl, _, _, rfl, rfl, hs i _ σ H hg p⟩) (fun σ H p => by
      have e := DpAll.len hL
      rw [List.length_map] at e
      rw [e] at p
      exact hd σ H p)⟩
theorem q_forRow {j1 j2 j3 j4 j5 j6 : Nat} {Hb : Hp} {xs : List V} {rows : List Row} {tl : TE} (h : Vl tl σ H (.ref a)) (hx : SqL K Hb a xs) (hL : DpAll K Hb xs (rows.map rowD)) (hb : Same Hb H) (Pv : Nat → L2.St → Hp → Prop) (h0 : Pv 0 σ H) (hl : ∀ i σ' H', Pv i σ' H' → Same Hb H')
    (hs : ∀ (i : Nat) r σ H, rows[i]? = some r → Pv i σ H → tz { D with nx := Pv (i + 1), ct := Pv (i + 1), bk := tw D } ((((((σ.set j1 (some (.int r.u))).set j2 (some (.int r.v))).set j3 (some (oV r.up))).set j4 (some (oV r.dn))).set j5 (some (oV r.um))).set j6 (some (oV r.dm))) H) (hd : ∀ σ H, Pv rows.length σ H → tw D σ H) :
    tSeq (tFor (iList K tl) (gTup K 6 (gCons (gName j1) (gCons (gName j2) (gCons (gName j3) (gCons (gName j4) (gCons (gName j5) (gCons (gName j6) gNil))))))) tz) tw D σ H := g_forRow (D := { D with nx := tw D }) h hx hL hb Pv h0 hl hs hd
/-- a loop over what a call has told -/
theorem q_forE {g : TG} (h : te σ H fun x H1 => tSeq (tFor (iList K fun _ H' Q => Q x H') g tz) tw D σ H1) : tSeq (tFor (iList K te) g tz) tw D σ H := h
theorem g_forE {g : TG} (h : te σ H fun x H1 => tFor (iList K fun _ H' Q => Q x H') g tz D σ H1) : tFor (iList K te) g tz D σ H := h
/-- d[x, y] of ints, the tuple new -/
theorem ve_dgetN {o : Addr} {kvs : List (List L2.Key × V)} {x y : Int} {v : V} (ho : Vl td σ H (.ref o)) (h1 : Vl ta σ H (.int x)) (h2 : Vl tb σ H (.int y)) (hd : H o = some (.dT kvs)) (hv : valV kvs (K2 (x, y)) = some v) : Ve (tDGet td (tTup (tCons ta (tCons tb tNil)))) σ H v := fun Q q =>
  ho _ (h1 _ (h2 _ ⟨by show 2 ≤ sizeLine; decide, fun T nT => ⟨o, v, rfl, by
    rw [← hv]
    exact DGet.t (k := K2 (x, y)) (same_upd nT _ _ hd) upd_same, q _ (same_upd nT)⟩⟩))
theorem ax_notNV {v : V} (h : Ve te σ H v) : Ax (tTest (tOp (fun x y H Q => y = V.non ∧ Q (V.bl (!decide (x = V.non))) H) te (tC .non))) σ H (!decide (v = .non)) := fun Q k => h _ fun H' s' => ⟨rfl, _, rfl, k H' s'⟩
theorem ve_I0 {g : Int → Int → V} {i j : Int} (h1 : Ve ta σ H (.int i)) (h2 : ∀ H', Same H H' → Ve tb σ H' (.int j)) : Ve (tOp (rI0 g) ta tb) σ H (g i j) := fun Q q => h1 _ fun H1 s1 => h2 H1 s1 _ fun H2 s2 => ⟨i, j, rfl, rfl, q H2 (s1.trans s2)⟩
theorem ax_op {r : R2} {b : Bool} (h : ∀ Q : Bool → Hp → Prop, (∀ H', Same H H' → Q b H') → ta σ H fun x H1 => tb σ H1 fun y H2 => r x y H2 fun z H3 => ∃ b', z = .bl b' ∧ Q b' H3) : Ax (tTest (tOp r ta tb)) σ H b := h
theorem ax_test {b : Bool} (h : Ve te σ H (.bl b)) : Ax (tTest te) σ H b := fun Q k => h _ fun H' s' => ⟨_, rfl, k H' s'⟩
/-- (p, m) != (q, n) -/
theorem ax_neOO {t1 t2 t3 t4 : TE} {p m q n : Option Int} (h1 : Vl t1 σ H (oV p)) (h2 : Vl t2 σ H (oV m)) (h3 : ∀ H', Same H H' → Vl t3 σ H' (oV q)) (h4 : ∀ H', Same H H' → Vl t4 σ H' (oV n)) :
    Ax (tTest (tOp (rNeD K) (tTup (tCons t1 (tCons t2 tNil))) (tTup (tCons t3 (tCons t4 tNil))))) σ H (!decide ((p, m) = (q, n))) := fun Q k =>
  h1 _ (h2 _ ⟨by show 2 ≤ sizeLine; decide, fun T nT => h3 _ (same_upd nT) _ (h4 _ (same_upd nT) _ ⟨by show 2 ≤ sizeLine; decide, fun S nS => by
    have s1 : Same H (upd H T (.tup [oV p, oV m])) := same_upd nT
    have s2 : Same (upd H T (.tup [oV p, oV m])) (upd (upd H T (.tup [oV p, oV m])) S (.tup [oV q, oV n])) := same_upd nS
    have lay : ∀ a b : Option Int, SeqAt.shaped (.tuple [oD a, oD b]) = true := fun a b => by
      have e1 := lay_o a
      have e2 := lay_o b
      show ((PyData.tuple [oD a, oD b]).canLay0 && decide ((PyData.tuple [oD a, oD b]).depth ≤ 64)) = true
      rw [show (PyData.tuple [oD a, oD b]).canLay0 = true by
        show ((oD a).canLay0 && ((oD b).canLay0 && true)) = true
        rw [e1.1, e2.1] <;> rfl, show (PyData.tuple [oD a, oD b]).depth = 1 by
        show max (oD a).depth (max (oD b).depth 0) + 1 = 1
        rw [e1.2, e2.2] <;> rfl]
      rfl
    refine ⟨.tuple [oD p, oD m], .tuple [oD q, oD n], .tup (.of (s2 _ _ upd_same)) (.cons (Dp.o _) (.cons (Dp.o _) .nil)), .tup (.of upd_same) (.cons (Dp.o _) (.cons (Dp.o _) .nil)), lay p m, lay q n, _, rfl, ?_⟩
    rw [show PyData.eqv (.tuple [oD p, oD m]) (.tuple [oD q, oD n]) = decide ((p, m) = (q, n)) by
      show (PyData.eqv (oD p) (oD q) && (PyData.eqv (oD m) (oD n) && true)) = _
      rw [eqv_o, eqv_o, Bool.and_true, Bool.eq_iff_iff, Bool.and_eq_true, decide_eq_true_eq, decide_eq_true_eq, decide_eq_true_eq]
      exact ⟨fun h => by rw [h.1, h.2], fun h => ⟨congrArg Prod.fst h, congrArg Prod.snd h⟩⟩]
    exact k _ (s1.trans s2)⟩)⟩)
end
def d4 (d : Int × Int × Option Int × Option Int) : List V := [.int d.1, .int d.2.1, oV d.2.2.1, oV d.2.2.2]
/-- for x, y, price, told in a list of two -/
theorem g_for4 {K : PySem.W.Frag} {σ : L2.St} {H : Hp} {D : Ends} {tz : TS} {j1 j2 j3 j4 : Nat} {Hb : Hp} {L T1 T2 : Addr} {d1 d2 : Int × Int × Option Int × Option Int} (eL : Hb L = some (.lst [.ref T1, .ref T2])) (e1 : Hb T1 = some (.tup (d4 d1))) (e2 : Hb T2 = some (.tup (d4 d2))) (hb : Same Hb H) (Pv : Nat → L2.St → Hp → Prop) (h0 : Pv 0 σ H)
    (hl : ∀ i σ' H', Pv i σ' H' → Same Hb H') (hs : ∀ (i : Nat) d σ H, [d1, d2][i]? = some d → Pv i σ H → tz { D with nx := Pv (i + 1), ct := Pv (i + 1), bk := D.nx } ((((σ.set j1 (some (.int d.1))).set j2 (some (.int d.2.1))).set j3 (some (oV d.2.2.1))).set j4 (some (oV d.2.2.2))) H) (hd : ∀ σ H, Pv 2 σ H → D.nx σ H) :
    tFor (iList K fun _ H' Q => Q (.ref L) H') (gTup K 4 (gCons (gName j1) (gCons (gName j2) (gCons (gName j3) (gCons (gName j4) gNil))))) tz D σ H := ⟨L, rfl, ⟨_, .of (hb _ _ eL)⟩, for_list (xs := [.ref T1, .ref T2]) Pv h0 (fun i σ H _ p => .of (hl i σ H p _ _ eL)) (fun i x σ H hi p => by
      match i, hi, p with
      | 0, hi, p =>
        cases hi
        exact ⟨T1, _, rfl, .of (hl _ _ _ p _ _ e1), rfl, _, _, rfl, _, _, rfl, _, _, rfl, _, _, rfl, rfl, hs 0 d1 σ H rfl p⟩
      | 1, hi, p =>
        cases hi
        exact ⟨T2, _, rfl, .of (hl _ _ _ p _ _ e2), rfl, _, _, rfl, _, _, rfl, _, _, rfl, _, _, rfl, rfl, hs 1 d2 σ H rfl p⟩
      | n + 2, hi, p => simp at hi) hd⟩
theorem oV_some {o : Option Int} {x : Int} (h : o = some x) : oV o = .int x := by
  rw [h]
  rfl
section
variable {P : Program} {w : World} {K : PySem.W.Frag} {mg : Str → Option Value} {base : Heap}
end
/-! ### ways, told from the end to the beginning, with their sums -/
inductive Way (w : Int → Int → Option Int) (ext : Int → Prop) (s : Int) : List Int → Int → Prop
  | one : Way w ext s [s] 0
  | step {y z c p : Int} {l : List Int} : Way w ext s (y :: l) c → ext y → w y z = some p → Way w ext s (z :: y :: l) (c + p)
/-- prices are not negative -/
def Pos (w : Int → Int → Option Int) : Prop := ∀ x y c, w x y = some c → 0 ≤ c
section
variable {w : Int → Int → Option Int} {ext ext' ext1 ext2 : Int → Prop} {s : Int}
theorem Way.inv {y z c : Int} {l : List Int} (h : Way w ext s (z :: y :: l) c) : ∃ d p, Way w ext s (y :: l) d ∧ ext y ∧ w y z = some p ∧ c = d + p := by
  cases h with
  | step h1 h2 h3 => exact ⟨_, _, h1, h2, h3, rfl⟩
theorem Way.one_inv {z c : Int} (h : Way w ext s [z] c) : z = s ∧ c = 0 := by
  cases h
  exact ⟨rfl, rfl⟩
theorem Way.ne {c : Int} (h : Way w ext s [] c) : False := by cases h
theorem Way.nonneg (hw : Pos w) {l : List Int} {c : Int} (h : Way w ext s l c) : 0 ≤ c := by
  induction h with
  | one => exact Int.le_refl _
  | step _ _ e ih =>
    have := hw _ _ _ e
    omega
theorem Way.last {l : List Int} {c : Int} (h : Way w ext s l c) : ∃ l', l = l' ++ [s] := by
  induction h with
  | one => exact ⟨[], rfl⟩
  | @step y z c p l _ _ _ ih =>
    obtain ⟨l', e⟩ := ih
    exact ⟨z :: l', by rw [e]; rfl⟩
theorem Way.drop (hw : Pos w) {x : Int} {l : List Int} : ∀ (u : List Int) {c : Int}, Way w ext s (u ++ x :: l) c → ∃ d, d ≤ c ∧ Way w ext s (x :: l) d
  | [], c, h => ⟨c, Int.le_refl _, h⟩
  | z :: u, c, h => by
    have e : ∃ y t, u ++ x :: l = y :: t := by
      cases u with
      | nil => exact ⟨_, _, rfl⟩
      | cons y u => exact ⟨_, _, rfl⟩
    obtain ⟨y, t, e⟩ := e
    rw [List.cons_append, e] at h
    obtain ⟨d, p, h1, _, h3, rfl⟩ := h.inv
    rw [← e] at h1
    obtain ⟨d', hd, h4⟩ := Way.drop hw u h1
    have := hw _ _ _ h3
    exact ⟨d', by omega, h4⟩
theorem Way.cut (hw : Pos w) {x : Int} {b l : List Int} : ∀ (u : List Int) {c : Int}, Way w ext s (u ++ x :: (b ++ x :: l)) c → ∃ d, d ≤ c ∧ Way w ext s (u ++ x :: l) d
  | [], c, h => Way.drop hw (x :: b) h
  | [z], c, h => by
    obtain ⟨d, p, h1, h2, h3, rfl⟩ := Way.inv h
    obtain ⟨d', hd, h4⟩ := Way.drop hw (x :: b) h1
    exact ⟨d' + p, by omega, .step h4 h2 h3⟩
  | z :: y :: u, c, h => by
    obtain ⟨d, p, h1, h2, h3, rfl⟩ := Way.inv h
    obtain ⟨d', hd, h4⟩ := Way.cut hw (y :: u) h1
    exact ⟨d' + p, by omega, .step h4 h2 h3⟩
theorem dup_split : ∀ l : List Int, ¬ l.Nodup → ∃ u x b t, l = u ++ x :: (b ++ x :: t)
  | [], h => absurd List.nodup_nil h
  | y :: l, h => by
    by_cases c : y ∈ l
    · obtain ⟨b, t, e⟩ := List.append_of_mem c
      exact ⟨[], y, b, t, by rw [e]; rfl⟩
    · obtain ⟨u, x, b, t, e⟩ := dup_split l fun hn => h (List.nodup_cons.mpr ⟨c, hn⟩)
      exact ⟨y :: u, x, b, t, by rw [e]; rfl⟩
/-- a way without a place twice, that is no dearer -/
theorem Way.simple (hw : Pos w) : ∀ (k : Nat) (z : Int) (l : List Int) (c : Int), l.length ≤ k → Way w ext s (z :: l) c → ∃ l' d, d ≤ c ∧ Way w ext s (z :: l') d ∧ (z :: l').Nodup ∧ ∀ y ∈ l', y ∈ l
  | k, z, l, c, hk, h => by
    by_cases hn : (z :: l).Nodup
    · exact ⟨l, c, Int.le_refl _, h, hn, fun _ hy => hy⟩
    · obtain ⟨u, x, b, t, e⟩ := dup_split _ hn
      have h' := h
      rw [e] at h'
      obtain ⟨d, hd, h2⟩ := Way.cut hw u h'
      have e2 : ∃ l2, u ++ x :: t = z :: l2 ∧ l2.length < l.length ∧ ∀ y ∈ l2, y ∈ l := by
        cases u with
        | nil =>
          injection e with e1 e2
          refine ⟨t, by rw [e1]; rfl, ?_, fun y hy => ?_⟩
          · rw [e2, List.length_append, List.length_cons]
            omega
          · rw [e2]
            exact List.mem_append.mpr (.inr (List.mem_cons_of_mem _ hy))
        | cons y u =>
          injection e with e1 e2
          have e2 : l = u ++ x :: (b ++ x :: t) := e2
          refine ⟨u ++ x :: t, by rw [e1]; rfl, ?_, fun y hy => ?_⟩
          · rw [e2]
            simp only [List.length_append, List.length_cons]
            omega
          · rw [e2]
            rcases List.mem_append.mp hy with hy | hy
            · exact List.mem_append.mpr (.inl hy)
            · rcases List.mem_cons.mp hy with hy | hy
              · rw [hy]
                exact List.mem_append.mpr (.inr List.mem_cons_self)
              · exact List.mem_append.mpr (.inr (List.mem_cons_of_mem _ (List.mem_append.mpr (.inr (List.mem_cons_of_mem _ hy)))))
      obtain ⟨l2, e3, hlt, hs⟩ := e2
      rw [e3] at h2
      match k, hk with
      | 0, hk => omega
      | k + 1, hk =>
        obtain ⟨l', d', hd', h3, h4, h5⟩ := Way.simple hw k z l2 d (by omega) h2
        exact ⟨l', d', by omega, h3, h4, fun y hy => hs y (h5 y hy)⟩
theorem Way.wid {l : List Int} {c : Int} (h : Way w ext s l c) : (∀ y ∈ l.tail, ext y → ext' y) → Way w ext' s l c := by
  induction h with
  | one => exact fun _ => .one
  | @step y z c p l h1 h2 h3 ih =>
    intro hh
    exact .step (ih fun x hx => hh x (by
      show x ∈ y :: l
      exact List.mem_cons_of_mem _ hx)) (hh y List.mem_cons_self h2) h3
theorem Way.exts {l : List Int} {c : Int} (h : Way w ext s l c) : ∀ y ∈ l.tail, ext y := by
  induction h with
  | one => exact fun _ h => (nomatch h)
  | @step y z c p l h1 h2 h3 ih =>
    intro x hx
    rcases List.mem_cons.mp (show x ∈ y :: l from hx) with e | e
    · rw [e]
      exact h2
    · exact ih x e
theorem Way.append {m z c1 c2 : Int} {l1 l2 : List Int} (h1 : Way w ext1 s (m :: l1) c1) (e1 : ∀ y, ext1 y → ext y) (e2 : ∀ y, ext2 y → ext y) (h2 : Way w ext2 m (z :: l2) c2) : ∃ l, Way w ext s (z :: l) (c1 + c2) := by
  have gen : ∀ {l : List Int} {c : Int}, Way w ext2 m l c → ∃ z l3 l', l = z :: l3 ∧ Way w ext s (z :: l') (c1 + c) := by
    intro l c h
    induction h with
    | one => exact ⟨m, [], l1, rfl, by rw [Int.add_zero]; exact h1.wid fun y _ hy => e1 y hy⟩
    | @step y z c p l _ he hp ih =>
      obtain ⟨z', l3, l', e, h⟩ := ih
      injection e with e4 e5
      subst e4
      exact ⟨z, y :: l, y :: l', rfl, by
        rw [← Int.add_assoc]
        exact .step h (e2 y he) hp⟩
  obtain ⟨z', l3, l', e, h⟩ := gen h2
  injection e with e4 _
  subst e4
  exact ⟨l', h⟩
theorem Way.split {m : Int} {b : List Int} : ∀ (a : List Int) {c : Int}, Way w ext s (a ++ m :: b) c → ∃ c1 c2, Way w ext s (m :: b) c1 ∧ Way w ext m (a ++ [m]) c2 ∧ c = c1 + c2
  | [], c, h => ⟨c, 0, h, .one, by omega⟩
  | [z], c, h => by
    obtain ⟨d, p, h1, h2, h3, rfl⟩ := Way.inv h
    exact ⟨d, 0 + p, h1, .step .one h2 h3, by omega⟩
  | z :: y :: a, c, h => by
    obtain ⟨d, p, h1, h2, h3, rfl⟩ := Way.inv h
    obtain ⟨c1, c2, h4, h5, e⟩ := Way.split (y :: a) h1
    exact ⟨c1, c2 + p, h4, .step h5 h2 h3, by omega⟩
end
/-! ### the least of what is possible -/
def Least (P : Int → Prop) (o : Option Int) : Prop := (∀ c, o = some c → P c) ∧ ∀ c, P c → ∃ d, d ≤ c ∧ o = some d
theorem Least.uniq {P : Int → Prop} {o o' : Option Int} (h : Least P o) (h' : Least P o') : o = o' := by
  cases o with
  | none =>
    cases o' with
    | none => rfl
    | some c =>
      obtain ⟨d, _, e⟩ := h.2 c (h'.1 c rfl)
      cases e
  | some c =>
    obtain ⟨d, hd, e⟩ := h'.2 c (h.1 c rfl)
    subst e
    obtain ⟨c2, hc, e⟩ := h.2 d (h'.1 d rfl)
    cases e
    congr 1
    omega
theorem Least.congr {P P' : Int → Prop} {o : Option Int} (h : Least P o) (h1 : ∀ c, P c → ∃ d, d ≤ c ∧ P' d) (h2 : ∀ c, P' c → ∃ d, d ≤ c ∧ P d) : Least P' o := by
  have key : ∀ c, o = some c → P' c := fun c hc => by
    obtain ⟨d, hd, hp⟩ := h1 c (h.1 c hc)
    obtain ⟨e, he, hp2⟩ := h2 d hp
    obtain ⟨g, hg, e2⟩ := h.2 e hp2
    rw [hc] at e2
    cases e2
    have : d = c := by omega
    rw [← this]
    exact hp
  refine ⟨key, fun c hc => ?_⟩
  obtain ⟨d, hd, hp⟩ := h2 c hc
  obtain ⟨g, hg, e⟩ := h.2 d hp
  exact ⟨g, by omega, e⟩
/-- the least sum of a way from s to z -/
def Dist (w : Int → Int → Option Int) (ext : Int → Prop) (s z : Int) (o : Option Int) : Prop := Least (fun c => ∃ l, Way w ext s (z :: l) c) o
/-! ### bettering along the links -/
def updF {α : Type} (f : Int → α) (y : Int) (v : α) : Int → α := fun z => if z = y then v else f z
theorem updF_at {α : Type} {f : Int → α} {y : Int} {v : α} : updF f y v y = v := if_pos rfl
theorem updF_ne {α : Type} {f : Int → α} {y z : Int} {v : α} (h : z ≠ y) : updF f y v z = f z := if_neg h
def rlx (ext : Int → Bool) (f : Int → Option Int) (x y : Int) (o : Option Int) : Int → Option Int :=
  match o, f x with
  | some p, some c => if ext x then (match f y with
    | none => updF f y (some (c + p))
    | some d => if c + p < d then updF f y (some (c + p)) else f) else f
  | _, _ => f
def Bet (f g : Int → Option Int) : Prop := ∀ z c, f z = some c → ∃ d, d ≤ c ∧ g z = some d
theorem Bet.refl (f : Int → Option Int) : Bet f f := fun _ c h => ⟨c, Int.le_refl _, h⟩
theorem Bet.trans {f g h : Int → Option Int} (a : Bet f g) (b : Bet g h) : Bet f h := fun z c e => by
  obtain ⟨d, hd, e1⟩ := a z c e
  obtain ⟨d2, hd2, e2⟩ := b z d e1
  exact ⟨d2, by omega, e2⟩
section
variable {ext : Int → Bool} {f : Int → Option Int} {x y : Int} {o : Option Int}
theorem bet_rlx : Bet f (rlx ext f x y o) := fun z c hz => by
  unfold rlx
  cases o with
  | none => exact ⟨c, Int.le_refl _, hz⟩
  | some p =>
    cases ex : f x with
    | none => exact ⟨c, Int.le_refl _, hz⟩
    | some b =>
      dsimp only
      split
      · cases ey : f y with
        | none =>
          dsimp only
          have : z ≠ y := fun e => by
            rw [e, ey] at hz
            cases hz
          exact ⟨c, Int.le_refl _, by rw [updF_ne this]; exact hz⟩
        | some d =>
          dsimp only
          split
          · by_cases e : z = y
            · rw [e] at hz ⊢
              rw [ey] at hz
              cases hz
              exact ⟨b + p, by omega, updF_at⟩
            · exact ⟨c, Int.le_refl _, by rw [updF_ne e]; exact hz⟩
          · exact ⟨c, Int.le_refl _, hz⟩
      · exact ⟨c, Int.le_refl _, hz⟩
theorem rlx_done {b p : Int} (hx : f x = some b) (he : ext x = true) : ∃ d, d ≤ b + p ∧ rlx ext f x y (some p) y = some d := by
  unfold rlx
  rw [hx]
  dsimp only
  rw [if_pos he]
  cases ey : f y with
  | none => exact ⟨b + p, Int.le_refl _, updF_at⟩
  | some d =>
    dsimp only
    split
    · exact ⟨b + p, Int.le_refl _, updF_at⟩
    · exact ⟨d, by omega, ey⟩
theorem rlx_sound {P : Int → Int → Prop} (h : ∀ z c, f z = some c → P z c) (hp : ∀ b p, o = some p → ext x = true → P x b → P y (b + p)) : ∀ z c, rlx ext f x y o z = some c → P z c := fun z c hz => by
  unfold rlx at hz
  cases o with
  | none => exact h z c hz
  | some p =>
    cases ex : f x with
    | none =>
      rw [ex] at hz
      exact h z c hz
    | some b =>
      rw [ex] at hz
      dsimp only at hz
      by_cases he : ext x = true
      · rw [if_pos he] at hz
        have key : ∀ z c, updF f y (some (b + p)) z = some c → P z c := fun z c hz => by
          by_cases e : z = y
          · rw [e, updF_at] at hz
            cases hz
            rw [e]
            exact hp b p rfl he (h x b ex)
          · rw [updF_ne e] at hz
            exact h z c hz
        cases ey : f y with
        | none =>
          rw [ey] at hz
          exact key z c hz
        | some d =>
          rw [ey] at hz
          dsimp only at hz
          by_cases hl : b + p < d
          · rw [if_pos hl] at hz
            exact key z c hz
          · rw [if_neg hl] at hz
            exact h z c hz
      · rw [if_neg he] at hz
        exact h z c hz
end
def rlxL (ext : Int → Bool) (f : Int → Option Int) (l : Lnk) : Int → Option Int := rlx ext (rlx ext f l.a l.b l.t) l.b l.a l.k
def rnd (ext : Int → Bool) (ls : List Lnk) (f : Int → Option Int) : Int → Option Int := ls.foldl (rlxL ext) f
def bf0 (s : Int) : Int → Option Int := fun z => if z = s then some 0 else none
def bf (ext : Int → Bool) (ls : List Lnk) (s : Int) : Nat → Int → Option Int
  | 0 => bf0 s
  | t + 1 => rnd ext ls (bf ext ls s t)
theorem bet_rnd {ext : Int → Bool} : ∀ (ls : List Lnk) (f : Int → Option Int), Bet f (rnd ext ls f)
  | [], f => Bet.refl f
  | l :: ls, f => (Bet.trans bet_rlx bet_rlx).trans (bet_rnd ls _)
theorem rnd_done {ext : Int → Bool} {l : Lnk} {b : Int} : ∀ (ls : List Lnk) (f : Int → Option Int), l ∈ ls → (∀ p, f l.a = some b → ext l.a = true → l.t = some p → ∃ d, d ≤ b + p ∧ rnd ext ls f l.b = some d) ∧ ∀ p, f l.b = some b → ext l.b = true → l.k = some p → ∃ d, d ≤ b + p ∧ rnd ext ls f l.a = some d
  | [], f, h => nomatch h
  | m :: ls, f, h => by
    have hB : Bet (rlxL ext f m) (rnd ext (m :: ls) f) := bet_rnd ls _
    by_cases c : l = m
    · subst c
      constructor
      · intro p hf he hp
        obtain ⟨d, hd, e⟩ := rlx_done (y := l.b) (p := p) hf he
        rw [← hp] at e
        obtain ⟨d2, hd2, e2⟩ := (bet_rlx (ext := ext) (f := rlx ext f l.a l.b l.t) (x := l.b) (y := l.a) (o := l.k)) l.b d e
        obtain ⟨d3, hd3, e3⟩ := hB l.b d2 e2
        exact ⟨d3, by omega, e3⟩
      · intro p hf he hp
        obtain ⟨b2, hb2, e1⟩ := (bet_rlx (ext := ext) (f := f) (x := l.a) (y := l.b) (o := l.t)) l.b b hf
        obtain ⟨d, hd, e⟩ := rlx_done (y := l.a) (p := p) e1 he
        rw [← hp] at e
        obtain ⟨d3, hd3, e3⟩ := hB l.a d e
        exact ⟨d3, by omega, e3⟩
    · have hm : l ∈ ls := by
        rcases List.mem_cons.mp h with e | e
        · exact absurd e c
        · exact e
      have hB2 : Bet f (rlxL ext f m) := Bet.trans bet_rlx bet_rlx
      constructor
      · intro p hf he hp
        obtain ⟨b2, hb2, e1⟩ := hB2 l.a b hf
        obtain ⟨d, hd, e⟩ := (rnd_done (b := b2) ls (rlxL ext f m) hm).1 p e1 he hp
        exact ⟨d, by omega, e⟩
      · intro p hf he hp
        obtain ⟨b2, hb2, e1⟩ := hB2 l.b b hf
        obtain ⟨d, hd, e⟩ := (rnd_done (b := b2) ls (rlxL ext f m) hm).2 p e1 he hp
        exact ⟨d, by omega, e⟩
theorem rnd_sound {ext : Int → Bool} {P : Int → Int → Prop} : ∀ (ls : List Lnk) (f : Int → Option Int), (∀ z c, f z = some c → P z c) → (∀ l ∈ ls, (∀ b p, l.t = some p → ext l.a = true → P l.a b → P l.b (b + p)) ∧ ∀ b p, l.k = some p → ext l.b = true → P l.b b → P l.a (b + p)) → ∀ z c, rnd ext ls f z = some c → P z c
  | [], f, h, _ => h
  | l :: ls, f, h, hl => rnd_sound ls _ (rlx_sound (rlx_sound h (hl l List.mem_cons_self).1) (hl l List.mem_cons_self).2) fun m hm => hl m (List.mem_cons_of_mem _ hm)
section
variable {N : Net}
theorem linkW_of : ∀ {ls : List Lnk} {x y c : Int}, linkW ls x y = some c → ∃ l ∈ ls, (l.a = x ∧ l.b = y ∧ l.t = some c) ∨ (l.b = x ∧ l.a = y ∧ l.k = some c)
  | [], _, _, _, h => nomatch h
  | l :: ls, x, y, c, h => by
    unfold linkW at h
    by_cases c1 : l.a = x ∧ l.b = y
    · rw [if_pos c1] at h
      exact ⟨l, List.mem_cons_self, .inl ⟨c1.1, c1.2, h⟩⟩
    · rw [if_neg c1] at h
      by_cases c2 : l.b = x ∧ l.a = y
      · rw [if_pos c2] at h
        exact ⟨l, List.mem_cons_self, .inr ⟨c2.1, c2.2, h⟩⟩
      · rw [if_neg c2] at h
        obtain ⟨m, hm, e⟩ := linkW_of h
        exact ⟨m, List.mem_cons_of_mem _ hm, e⟩
theorem linkW_at : ∀ {ls : List Lnk} {l : Lnk}, ls.Pairwise LnkLt → (∀ m ∈ ls, m.a < m.b) → l ∈ ls → linkW ls l.a l.b = l.t ∧ linkW ls l.b l.a = l.k
  | [], _, _, _, h => nomatch h
  | m :: ls, l, hp, ha, h => by
    have hp := List.pairwise_cons.mp hp
    have hm := ha m List.mem_cons_self
    have hl := ha l h
    unfold linkW
    rcases List.mem_cons.mp h with e | e
    · subst e
      rw [if_pos ⟨rfl, rfl⟩, if_neg (by omega), if_pos ⟨rfl, rfl⟩]
      exact ⟨rfl, rfl⟩
    · have h1 := hp.1 l e
      unfold LnkLt at h1
      rw [if_neg (by omega), if_neg (by omega), if_neg (by omega), if_neg (by omega)]
      exact linkW_at hp.2 (fun m hm => ha m (List.mem_cons_of_mem _ hm)) e
theorem linkW_in (ok : NetOk N) {x y c : Int} (h : linkW N.ls x y = some c) : (0 ≤ x ∧ x < N.n) ∧ (0 ≤ y ∧ y < N.n) ∧ x ≠ y ∧ adj0 N.ls x y = true := by
  obtain ⟨l, hl, e⟩ := linkW_of h
  have o := ok.ok l hl
  have := o.a0
  have := o.ab
  have := o.bn
  have ad : adj0 N.ls x y = true := adj0_iff.mpr ⟨l, hl, by omega⟩
  refine ⟨?_, ?_, ?_, ad⟩ <;> omega
theorem pos_net (ok : NetOk N) : Pos (linkW N.ls) := fun x y c h => by
  have := linkW_ok ok.ok h
  omega
/-- bettering finds the least sums -/
theorem bf_dist (ok : NetOk N) {ext : Int → Bool} {s : Int} (hs : 0 ≤ s ∧ s < N.n) (z : Int) : Dist (linkW N.ls) (fun y => ext y = true) s z (bf ext N.ls s N.n.toNat z) := by
  have hw := pos_net ok
  constructor
  · have gen : ∀ t z c, bf ext N.ls s t z = some c → ∃ l, Way (linkW N.ls) (fun y => ext y = true) s (z :: l) c := by
      intro t
      induction t with
      | zero =>
        intro z c h
        have h : (if z = s then some (0 : Int) else none) = some c := h
        by_cases e : z = s
        · rw [if_pos e] at h
          cases h
          rw [e]
          exact ⟨[], .one⟩
        · rw [if_neg e] at h
          cases h
      | succ t ih =>
        refine rnd_sound N.ls _ ih fun l hl => ?_
        obtain ⟨e1, e2⟩ := linkW_at ok.lt (fun m hm => (ok.ok m hm).ab) hl
        constructor
        · rintro b p hp he ⟨l', h⟩
          exact ⟨_, .step h he (e1.trans hp)⟩
        · rintro b p hp he ⟨l', h⟩
          exact ⟨_, .step h he (e2.trans hp)⟩
    exact fun c h => gen _ z c h
  · have gen : ∀ t z (l : List Int) c, Way (linkW N.ls) (fun y => ext y = true) s (z :: l) c → l.length ≤ t → ∃ d, d ≤ c ∧ bf ext N.ls s t z = some d := by
      intro t
      induction t with
      | zero =>
        intro z l c h hl
        have : l = [] := List.eq_nil_of_length_eq_zero (by omega)
        subst this
        obtain ⟨rfl, rfl⟩ := h.one_inv
        exact ⟨0, Int.le_refl _, if_pos rfl⟩
      | succ t ih =>
        intro z l c h hl
        cases l with
        | nil =>
          obtain ⟨rfl, rfl⟩ := h.one_inv
          obtain ⟨d, hd, e⟩ := ih z [] 0 .one (Nat.zero_le _)
          obtain ⟨d2, hd2, e2⟩ := bet_rnd (ext := ext) N.ls _ z d e
          exact ⟨d2, by omega, e2⟩
        | cons y l =>
          obtain ⟨b, p, h1, he, hp, rfl⟩ := h.inv
          obtain ⟨d, hd, e⟩ := ih y l b h1 (by
            rw [List.length_cons] at hl
            omega)
          obtain ⟨m, hm, e2⟩ := linkW_of hp
          rcases e2 with ⟨e3, e4, e5⟩ | ⟨e3, e4, e5⟩
          · obtain ⟨d2, hd2, e6⟩ := (rnd_done (ext := ext) (l := m) (b := d) N.ls (bf ext N.ls s t) hm).1 p (by rw [e3]; exact e) (by rw [e3]; exact he) e5
            rw [e4] at e6
            exact ⟨d2, by omega, e6⟩
          · obtain ⟨d2, hd2, e6⟩ := (rnd_done (ext := ext) (l := m) (b := d) N.ls (bf ext N.ls s t) hm).2 p (by rw [e3]; exact e) (by rw [e3]; exact he) e5
            rw [e4] at e6
            exact ⟨d2, by omega, e6⟩
    rintro c ⟨l, h⟩
    obtain ⟨l', d, hd, h2, hn, _⟩ := Way.simple hw _ z l c (Nat.le_refl _) h
    have hin : ∀ (l : List Int) c, Way (linkW N.ls) (fun y => ext y = true) s l c → ∀ y ∈ l, y ∈ rng N.n := by
      intro l c h
      induction h with
      | one =>
        intro y hy
        rw [List.mem_singleton.mp hy]
        exact mem_rng.mpr hs
      | step h1 _ hp ih =>
        intro y hy
        rcases List.mem_cons.mp hy with e | e
        · rw [e]
          exact mem_rng.mpr (linkW_in ok hp).2.1
        · exact ih y e
    have hl : (z :: l').length ≤ (rng N.n).length := sub_len hn (hin _ _ h2)
    rw [len_rng, List.length_cons] at hl
    obtain ⟨d2, hd2, e⟩ := gen N.n.toNat z l' d h2 (by omega)
    exact ⟨d2, by omega, e⟩
end
/-! ### filled-in prices are least sums -/
/-- the highest of the places of a list -/
theorem top_of (p : Int → Nat) : ∀ (l : List Int), l ≠ [] → ∃ m ∈ l, ∀ y ∈ l, p y ≤ p m
  | [], h => absurd rfl h
  | [x], _ => ⟨x, List.mem_cons_self, fun y hy => by rw [List.mem_singleton.mp hy]; exact Nat.le_refl _⟩
  | x :: y :: l, _ => by
    obtain ⟨m, hm, h⟩ := top_of p (y :: l) (List.cons_ne_nil _ _)
    by_cases c : p m ≤ p x
    · refine ⟨x, List.mem_cons_self, fun z hz => ?_⟩
      rcases List.mem_cons.mp hz with e | e
      · rw [e]
        exact Nat.le_refl _
      · exact Nat.le_trans (h z e) c
    · refine ⟨m, List.mem_cons_of_mem _ hm, fun z hz => ?_⟩
      rcases List.mem_cons.mp hz with e | e
      · rw [e]
        omega
      · exact h z e
theorem best_fst {o : Option Int} {s : Int → Option Int} {P : Int → Prop} (ws : List Int) (h0 : ∀ c, o = some c → P c) (h : ∀ w ∈ ws, ∀ c, s w = some c → P c) : ∀ c, (bestF o s ws).1 = some c → P c :=
  (best_all (P := P) (M := fun _ => True) (s := s) ws (o, none) h0 (fun _ _ => trivial) fun w hw => ⟨h w hw, trivial⟩).1
/-- the best is no greater than what is compared -/
theorem best_le {s : Int → Option Int} : ∀ (ws : List Int) (acc : Option Int × Option Int), (∀ c, acc.1 = some c → ∃ d, d ≤ c ∧ (ws.foldl (bestStep s) acc).1 = some d) ∧ ∀ w ∈ ws, ∀ c, s w = some c → ∃ d, d ≤ c ∧ (ws.foldl (bestStep s) acc).1 = some d
  | [], acc => ⟨fun c h => ⟨c, Int.le_refl _, h⟩, fun _ h => (nomatch h)⟩
  | w :: ws, acc => by
    obtain ⟨h1, h2⟩ := best_le (s := s) ws (bestStep s acc w)
    have k1 : ∀ c, acc.1 = some c → ∃ d, d ≤ c ∧ (bestStep s acc w).1 = some d := fun c hc => by
      unfold bestStep
      cases e : s w with
      | none => exact ⟨c, Int.le_refl _, hc⟩
      | some t =>
        rw [hc]
        dsimp only
        split
        · exact ⟨t, by omega, rfl⟩
        · exact ⟨c, Int.le_refl _, hc⟩
    have k2 : ∀ c, s w = some c → ∃ d, d ≤ c ∧ (bestStep s acc w).1 = some d := fun c hc => by
      unfold bestStep
      rw [hc]
      cases e : acc.1 with
      | none => exact ⟨c, Int.le_refl _, rfl⟩
      | some b =>
        dsimp only
        split
        · exact ⟨c, Int.le_refl _, rfl⟩
        · exact ⟨b, by omega, e⟩
    constructor
    · intro c hc
      obtain ⟨d, hd, e⟩ := k1 c hc
      obtain ⟨d2, hd2, e2⟩ := h1 d e
      exact ⟨d2, by omega, e2⟩
    · intro x hx c hc
      rcases List.mem_cons.mp hx with e | e
      · rw [e] at hc
        obtain ⟨d, hd, e1⟩ := k2 c hc
        obtain ⟨d2, hd2, e2⟩ := h1 d e1
        exact ⟨d2, by omega, e2⟩
      · exact h2 x e c hc
theorem bestF_first {o : Option Int} {s : Int → Option Int} {ws : List Int} {c : Int} (h : o = some c) : ∃ d, d ≤ c ∧ (bestF o s ws).1 = some d := (best_le (s := s) ws (o, none)).1 c h
theorem bestF_le {o : Option Int} {s : Int → Option Int} {ws : List Int} {c x : Int} (hx : x ∈ ws) (h : s x = some c) : ∃ d, d ≤ c ∧ (bestF o s ws).1 = some d := (best_le (s := s) ws (o, none)).2 x hx c h
section
variable {N : Net} {os : List Int} {rows : List Row}
/-- a way over lower places makes a pair -/
theorem way_rch (ok : NetOk N) {ext : Int → Prop} {s : Int} {low : Int → Prop} : ∀ {l : List Int} {z c : Int}, Way (linkW N.ls) ext s (z :: l) c → l ≠ [] → (∀ y ∈ l, y ≠ s → low y) → (z :: l).Nodup → Rch (adj0 N.ls) low s z
  | [], _, _, _, h, _, _ => absurd rfl h
  | [y], z, c, h, _, _, _ => by
    obtain ⟨d, p, h1, _, hp, rfl⟩ := h.inv
    obtain ⟨rfl, rfl⟩ := h1.one_inv
    exact .one (linkW_in ok hp).2.2.2
  | y :: x :: l, z, c, h, _, hl, hn => by
    obtain ⟨d, p, h1, _, hp, rfl⟩ := h.inv
    have hn2 := (List.nodup_cons.mp hn).2
    have ys : y ≠ s := fun e => by
      obtain ⟨l', e2⟩ := h1.last
      have hs : s ∈ x :: l := by
        cases l' with
        | nil => injection e2 with _ e4; cases e4
        | cons a l' =>
          injection e2 with _ e4
          rw [e4]
          exact List.mem_append.mpr (.inr List.mem_cons_self)
      rw [← e] at hs
      exact (List.nodup_cons.mp hn2).1 hs
    exact .step (way_rch ok h1 (List.cons_ne_nil _ _) (fun v hv => hl v (List.mem_cons_of_mem _ hv)) hn2) (hl y List.mem_cons_self ys) (linkW_in ok hp).2.2.2
theorem prR_up (ok : NetOk N) (oo : OrdOk N.n os) (h : FillOk N os rows) {r : Row} (hr : r ∈ rows) : prR rows r.u r.v = r.up ∧ prR rows r.v r.u = r.dn := by
  have hm : (r.u, r.v) ∈ rows.map prOf := List.mem_map.mpr ⟨r, hr, rfl⟩
  have hnd : (rows.map prOf).Nodup := by
    have := pairsL_nodup (ls := N.ls) oo
    rw [← h.pairs] at this
    exact this
  have uniq : ∀ q ∈ rows, q.u = r.u → q.v = r.v → q = r := fun q hq e1 e2 => by
    obtain ⟨i, hi⟩ := List.mem_iff_getElem?.mp hq
    obtain ⟨j, hj⟩ := List.mem_iff_getElem?.mp hr
    have hi2 := (List.getElem?_eq_some_iff.mp hi).1
    have : i = j := by
      refine (List.getElem?_inj (l := rows.map prOf) (by rw [List.length_map]; exact hi2) hnd).mp ?_
      rw [List.getElem?_map, List.getElem?_map, hi, hj]
      show some (q.u, q.v) = some (r.u, r.v)
      rw [e1, e2]
    subst this
    exact Option.some.inj (hi.symm.trans hj)
  obtain ⟨q, e, hq, e1, e2⟩ := find_some hm
  have qr := uniq q hq e1 e2
  subst qr
  have n1 : (q.v, q.u) ∉ rows.map prOf := by
    have h1 : (q.u, q.v) ∈ pairsL N.ls os := by
      rw [← h.pairs]
      exact hm
    have := anti ok oo h1
    rw [← h.pairs] at this
    exact this
  constructor
  · unfold prR
    rw [e]
  · unfold prR
    rw [find_none n1, e]
theorem fill_row (ok : NetOk N) (oo : OrdOk N.n os) (h : FillOk N os rows) {u v : Int} (hp : PairP N.ls os u v) : ∃ r ∈ rows, r.u = u ∧ r.v = v := by
  have := (mem_pairsL ok oo).mpr hp
  rw [← h.pairs] at this
  obtain ⟨r, hr, e⟩ := List.mem_map.mp this
  exact ⟨r, hr, congrArg Prod.fst e, congrArg Prod.snd e⟩
/-- places lower than m, and the first one -/
def loExt (os : List Int) (s : Int) (m : Nat) : Int → Prop := fun y => y = s ∨ posOf y os < m
/-- one way of a pair: from x to y, its lower place has rank k -/
theorem fill_one (ok : NetOk N) (oo : OrdOk N.n os) {x y : Int} {k : Nat} {o : Option Int} {lw : List Int} {s : Int → Option Int} {F : Int → Int → Option Int}
    (xy : x ≠ y) (hx : x ∈ os) (hkx : k ≤ posOf x os) (hky : k ≤ posOf y os) (ho : o = (bestF (linkW N.ls x y) (fun w => addO (F x w) (F w y)) lw).1)
    (hlw : ∀ w, w ∈ lw ↔ PairP N.ls os w x ∧ PairP N.ls os w y) (hlk : ∀ w ∈ lw, posOf w os < k)
    (ih : ∀ w ∈ lw, Dist (linkW N.ls) (loExt os x (posOf w os)) x w (F x w) ∧ Dist (linkW N.ls) (loExt os w (posOf w os)) w y (F w y)) : Dist (linkW N.ls) (loExt os x k) x y o := by
  have hw := pos_net ok
  subst ho
  constructor
  · refine best_fst (P := fun c => ∃ l, Way (linkW N.ls) (loExt os x k) x (y :: l) c) lw (fun c hc => ⟨[x], ?_⟩) fun w hwl c hc => ?_
    · have := Way.step (Way.one (w := linkW N.ls) (ext := loExt os x k) (s := x)) (.inl rfl) hc
      rw [Int.zero_add] at this
      exact this
    · obtain ⟨a, b, ha, hb, rfl⟩ := addO_some hc
      obtain ⟨h1, h2⟩ := ih w hwl
      obtain ⟨l1, w1⟩ := h1.1 a ha
      obtain ⟨l2, w2⟩ := h2.1 b hb
      have hk := hlk w hwl
      exact w1.append (fun z hz => hz.imp id fun z => by omega) (fun z hz => .inr (by
        rcases hz with e | e
        · rw [e]
          exact hk
        · omega)) w2
  · rintro c ⟨l, h⟩
    obtain ⟨l, d, hd, h, hn, _⟩ := Way.simple hw _ y l c (Nat.le_refl _) h
    have hex := h.exts
    have done : ∀ e, e ≤ d → (∃ g, g ≤ e ∧ (bestF (linkW N.ls x y) (fun w => addO (F x w) (F w y)) lw).1 = some g) → ∃ g, g ≤ c ∧ (bestF (linkW N.ls x y) (fun w => addO (F x w) (F w y)) lw).1 = some g := fun e he ⟨g, hg, e2⟩ => ⟨g, by omega, e2⟩
    -- the inner places
    obtain ⟨l', e⟩ := h.last
    cases l' with
    | nil =>
      injection e with e1 _
      exact absurd e1.symm xy
    | cons y' inn =>
      injection e with e1 e2
      have e2 : l = inn ++ [x] := e2
      subst e2
      by_cases hi : inn = []
      · subst hi
        obtain ⟨b, p, h1, _, hp, rfl⟩ := Way.inv h
        obtain ⟨_, rfl⟩ := h1.one_inv
        exact done p (by omega) (bestF_first hp)
      · obtain ⟨m, hm, htop⟩ := top_of (fun z => posOf z os) inn hi
        obtain ⟨a, b, rfl⟩ := List.append_of_mem hm
        have hn0 : (y :: (a ++ m :: b) ++ [x]).Nodup := hn
        have hnd : (y :: (a ++ (m :: (b ++ [x])))).Nodup := by
          have : y :: (a ++ m :: b) ++ [x] = y :: (a ++ (m :: (b ++ [x]))) := by simp
          rw [← this]
          exact hn0
        have h' : Way (linkW N.ls) (loExt os x k) x ((y :: a) ++ m :: (b ++ [x])) d := by
          have : (y :: a) ++ m :: (b ++ [x]) = y :: ((a ++ m :: b) ++ [x]) := by simp
          rw [this]
          exact h
        obtain ⟨c1, c2, w1, w2, rfl⟩ := Way.split (y :: a) h'
        have hmx : m ≠ x := fun e => by
          have h3 := (List.nodup_cons.mp hnd).2
          have h4 := (List.nodup_append.mp h3).2.1
          exact (List.nodup_cons.mp h4).1 (by rw [e]; exact List.mem_append.mpr (.inr List.mem_cons_self))
        have hmk : posOf m os < k := by
          have := hex m (by
            show m ∈ (a ++ m :: b) ++ [x]
            exact List.mem_append.mpr (.inl hm))
          rcases this with e | e
          · exact absurd e hmx
          · exact e
        have inos : ∀ (l : List Int) (q c : Int) (ext : Int → Prop), q ∈ os → Way (linkW N.ls) ext q l c → ∀ z ∈ l, z ∈ os := by
          intro l q c ext hq h
          induction h with
          | one =>
            intro z hz
            rw [List.mem_singleton.mp hz]
            exact hq
          | step _ _ hp ih =>
            intro z hz
            rcases List.mem_cons.mp hz with e | e
            · rw [e]
              exact oo.mem.mpr (linkW_in ok hp).2.1
            · exact ih z e
        have hall := inos _ _ _ _ hx h'
        have hmo : m ∈ os := hall m (by simp)
        have lower : ∀ z ∈ a ++ m :: b, z ≠ m → posOf z os < posOf m os := fun z hz hne => by
          have h1 : posOf z os ≤ posOf m os := htop z hz
          have h2 : posOf z os ≠ posOf m os := fun e => hne (pos_inj (hall z (by
            rcases List.mem_append.mp hz with q | q
            · exact List.mem_append.mpr (.inl (List.mem_cons_of_mem _ q))
            · rcases List.mem_cons.mp q with q | q
              · exact absurd q hne
              · exact List.mem_append.mpr (.inr (List.mem_cons_of_mem _ (List.mem_append.mpr (.inl q)))))) hmo e)
          omega
        have nb : m ∉ b := fun q => by
          have h3 := (List.nodup_cons.mp hnd).2
          have h4 := (List.nodup_append.mp h3).2.1
          exact (List.nodup_cons.mp h4).1 (List.mem_append.mpr (.inl q))
        have na : m ∉ a := fun q => by
          have h3 := (List.nodup_cons.mp hnd).2
          exact (List.nodup_append.mp h3).2.2 m q m List.mem_cons_self rfl
        have lb : ∀ z ∈ b, posOf z os < posOf m os := fun z hz => lower z (List.mem_append.mpr (.inr (List.mem_cons_of_mem _ hz))) fun e => nb (by rw [← e]; exact hz)
        have la : ∀ z ∈ a, posOf z os < posOf m os := fun z hz => lower z (List.mem_append.mpr (.inl hz)) fun e => na (by rw [← e]; exact hz)
        have w1' : Way (linkW N.ls) (loExt os x (posOf m os)) x (m :: (b ++ [x])) c1 := w1.wid fun z hz _ => by
          rcases List.mem_append.mp (show z ∈ b ++ [x] from hz) with q | q
          · exact .inr (lb z q)
          · exact .inl (List.mem_singleton.mp q)
        have w2' : Way (linkW N.ls) (loExt os m (posOf m os)) m (y :: (a ++ [m])) c2 := Way.wid w2 fun z hz _ => by
          rcases List.mem_append.mp (show z ∈ a ++ [m] from hz) with q | q
          · exact .inr (la z q)
          · exact .inl (List.mem_singleton.mp q)
        have nd1 : (m :: (b ++ [x])).Nodup := by
          have h3 := (List.nodup_cons.mp hnd).2
          exact (List.nodup_append.mp h3).2.1
        have nd2 : (y :: (a ++ [m])).Nodup := by
          rw [List.nodup_cons] at hnd ⊢
          have h3 := List.nodup_append.mp hnd.2
          refine ⟨fun q => hnd.1 ?_, List.nodup_append.mpr ⟨h3.1, List.nodup_cons.mpr ⟨List.not_mem_nil, .nil⟩, fun p hp q hq => h3.2.2 p hp q (by rw [List.mem_singleton.mp hq]; exact List.mem_cons_self)⟩⟩
          rcases List.mem_append.mp q with q | q
          · exact List.mem_append.mpr (.inl q)
          · exact List.mem_append.mpr (.inr (by rw [List.mem_singleton.mp q]; exact List.mem_cons_self))
        have r1 : Rch (adj0 N.ls) (fun z => posOf z os < posOf m os) x m := way_rch ok w1' (by simp) (fun z hz hzx => by
          rcases List.mem_append.mp hz with q | q
          · exact lb z q
          · exact absurd (List.mem_singleton.mp q) hzx) nd1
        have r2 : Rch (adj0 N.ls) (fun z => posOf z os < posOf m os) m y := way_rch ok w2' (by simp) (fun z hz hzx => by
          rcases List.mem_append.mp hz with q | q
          · exact la z q
          · exact absurd (List.mem_singleton.mp q) hzx) nd2
        have p1 : PairP N.ls os m x := ⟨by omega, r1.sym (adj0_ok ok)⟩
        have p2 : PairP N.ls os m y := ⟨by omega, r2⟩
        have hml := (hlw m).mpr ⟨p1, p2⟩
        obtain ⟨i1, i2⟩ := ih m hml
        obtain ⟨g1, hg1, e1⟩ := i1.2 c1 ⟨_, w1'⟩
        obtain ⟨g2, hg2, e2⟩ := i2.2 c2 ⟨_, w2'⟩
        exact done (g1 + g2) (by omega) (bestF_le (c := g1 + g2) hml (by
          show addO (F x m) (F m y) = some (g1 + g2)
          rw [e1, e2]
          rfl))
theorem fill_dist (ok : NetOk N) (oo : OrdOk N.n os) (h : FillOk N os rows) : ∀ (k : Nat) (u v : Int), posOf u os = k → PairP N.ls os u v → Dist (linkW N.ls) (loExt os u k) u v (prR rows u v) ∧ Dist (linkW N.ls) (loExt os v k) v u (prR rows v u) := by
  intro k
  induction k using Nat.strongRecOn with
  | ind k ih =>
    intro u v hk hp
    obtain ⟨r, hr, rfl, rfl⟩ := fill_row ok oo h hp
    have hpi := hp.ins ok
    have hu := oo.mem.mpr hpi.1
    have hv := oo.mem.mpr hpi.2
    have huv := hp.1
    have e1 := congrArg Prod.fst (h.up r hr)
    have e2 := congrArg Prod.fst (h.dn r hr)
    obtain ⟨q1, q2⟩ := prR_up ok oo h hr
    have mem : ∀ w, w ∈ lowerL (pairsL N.ls os) os r.u r.v ↔ PairP N.ls os w r.u ∧ PairP N.ls os w r.v := fun w => by
      rw [mem_lowerL, mem_pairsL ok oo, mem_pairsL ok oo]
      exact ⟨fun q => q.2, fun q => ⟨oo.mem.mpr (q.1.ins ok).1, q⟩⟩
    have low : ∀ w ∈ lowerL (pairsL N.ls os) os r.u r.v, posOf w os < k := fun w hw => by
      have := ((mem w).mp hw).1.1
      omega
    rw [q1, q2]
    constructor
    · exact fill_one (F := prR rows) (s := fun _ => none) ok oo hp.ne hu (by omega) (by omega) e1 mem low fun w hw => ⟨(ih _ (low w hw) w r.u rfl ((mem w).mp hw).1).2, (ih _ (low w hw) w r.v rfl ((mem w).mp hw).2).1⟩
    · exact fill_one (F := prR rows) (s := fun _ => none) ok oo hp.ne.symm hv (by omega) (by omega) e2 (fun w => by rw [mem, And.comm]) low fun w hw => ⟨(ih _ (low w hw) w r.v rfl ((mem w).mp hw).2).2, (ih _ (low w hw) w r.u rfl ((mem w).mp hw).1).1⟩
end
/-! ### ways that go up -/
inductive UpW (F : Int → Int → Option Int) (pos : Int → Nat) (s : Int) : Int → Int → Prop
  | one : UpW F pos s s 0
  | step {y x c p : Int} : UpW F pos s y c → pos y < pos x → F y x = some p → UpW F pos s x (c + p)
theorem UpW.le {F : Int → Int → Option Int} {pos : Int → Nat} {s x c : Int} (h : UpW F pos s x c) : x = s ∨ pos s < pos x := by
  induction h with
  | one => exact .inl rfl
  | step _ hl _ ih =>
    rcases ih with e | e
    · rw [e] at hl
      exact .inr hl
    · exact .inr (Nat.lt_trans e hl)
/-! ### the search over the rows -/
def sumStep (cols : Row → Option Int) (f : Int → Option Int × Option Int) (r : Row) : Int → Option Int × Option Int :=
  match (f r.u).1, cols r with
  | some b, some p => match (f r.v).1 with
    | none => updF f r.v (some (b + p), some r.u)
    | some k => if b + p < k then updF f r.v (some (b + p), some r.u) else f
  | _, _ => f
def sums0 (s : Int) : Int → Option Int × Option Int := fun z => if z = s then (some 0, none) else (none, none)
def sumsF (cols : Row → Option Int) (s : Int) (rows : List Row) : Int → Option Int × Option Int := rows.foldl (sumStep cols) (sums0 s)
section
variable {cols : Row → Option Int} {f : Int → Option Int × Option Int}
theorem sumStep_ne {r : Row} {z : Int} (h : z ≠ r.v) : sumStep cols f r z = f z := by
  unfold sumStep
  cases (f r.u).1 with
  | none => rfl
  | some b =>
    cases cols r with
    | none => rfl
    | some p =>
      cases (f r.v).1 with
      | none => exact updF_ne h
      | some k =>
        dsimp only
        split
        · exact updF_ne h
        · rfl
/-- at the higher place the step is a bettering -/
theorem sumStep_at {r : Row} : sumStep cols f r r.v = bestStep (fun u => addO (f u).1 (cols r)) (f r.v) r.u := by
  unfold sumStep bestStep
  dsimp only
  cases e1 : (f r.u).1 with
  | none => rfl
  | some b =>
    cases e2 : cols r with
    | none => rfl
    | some p =>
      show _ = (match some (b + p) with
        | none => f r.v
        | some t => match (f r.v).1 with
          | none => (some t, some r.u)
          | some b => if t < b then (some t, some r.u) else f r.v)
      dsimp only
      cases e3 : (f r.v).1 with
      | none => exact updF_at
      | some k =>
        dsimp only
        split
        · exact updF_at
        · rfl
theorem sums_keep : ∀ (rows : List Row) (f : Int → Option Int × Option Int) {x : Int}, (∀ r ∈ rows, r.v ≠ x) → rows.foldl (sumStep cols) f x = f x
  | [], _, _, _ => rfl
  | r :: rows, f, x, h => by
    rw [List.foldl_cons, sums_keep rows _ fun q hq => h q (List.mem_cons_of_mem _ hq)]
    exact sumStep_ne (h r List.mem_cons_self).symm
theorem bet_step {r : Row} : Bet (fun z => (f z).1) (fun z => (sumStep cols f r z).1) := fun z c hz => by
  show ∃ d, d ≤ c ∧ (sumStep cols f r z).1 = some d
  by_cases e : z = r.v
  · subst e
    rw [sumStep_at]
    exact (best_le (s := fun u => addO (f u).1 (cols r)) [r.u] (f r.v)).1 c hz
  · rw [sumStep_ne e]
    exact ⟨c, Int.le_refl _, hz⟩
theorem bet_sums : ∀ (rows : List Row) (f : Int → Option Int × Option Int), Bet (fun z => (f z).1) (fun z => (rows.foldl (sumStep cols) f z).1)
  | [], f => Bet.refl _
  | r :: rows, f => Bet.trans (bet_step (cols := cols) (r := r)) (bet_sums rows (sumStep cols f r))
theorem sums_sound {F : Int → Int → Option Int} {pos : Int → Nat} {s : Int} : ∀ (rows : List Row) (f : Int → Option Int × Option Int), (∀ r ∈ rows, F r.u r.v = cols r ∧ pos r.u < pos r.v) → (∀ z c, (f z).1 = some c → UpW F pos s z c) → ∀ z c, (rows.foldl (sumStep cols) f z).1 = some c → UpW F pos s z c
  | [], f, _, h => h
  | r :: rows, f, hr, h => by
    refine sums_sound rows _ (fun q hq => hr q (List.mem_cons_of_mem _ hq)) fun z c hz => ?_
    by_cases e : z = r.v
    · subst e
      rw [sumStep_at] at hz
      refine (best_all (P := fun c => UpW F pos s r.v c) (M := fun _ => True) (s := fun u => addO (f u).1 (cols r)) [r.u] (f r.v) (fun c hc => h _ c hc) (fun _ _ => trivial) fun w hw => ⟨fun c hc => ?_, trivial⟩).1 c hz
      rw [List.mem_singleton.mp hw] at hc
      obtain ⟨a, b, ha, hb, rfl⟩ := addO_some hc
      obtain ⟨h1, h2⟩ := hr r List.mem_cons_self
      exact .step (h _ a ha) h2 (h1.trans hb)
    · rw [sumStep_ne e] at hz
      exact h z c hz
/-- what the rows make of one place -/
theorem sums_one {F : Int → Int → Option Int} {pos : Int → Nat} {x : Int} : ∀ (rows : List Row) (f : Int → Option Int × Option Int), (∀ r ∈ rows, F r.u r.v = cols r ∧ pos r.u < pos r.v) → rows.Pairwise (fun r q => pos r.u ≤ pos q.u) →
    rows.foldl (sumStep cols) f x = (rows.filterMap fun r => if r.v = x then some r.u else none).foldl (bestStep fun u => addO (rows.foldl (sumStep cols) f u).1 (F u x)) (f x)
  | [], f, _, _ => rfl
  | r :: rows, f, hr, hp => by
    have hp2 := List.pairwise_cons.mp hp
    have h1 := hr r List.mem_cons_self
    have ih := sums_one (F := F) (pos := pos) (x := x) rows (sumStep cols f r) (fun q hq => hr q (List.mem_cons_of_mem _ hq)) hp2.2
    have eu : (r :: rows).foldl (sumStep cols) f r.u = f r.u := sums_keep (r :: rows) f fun q hq e => by
      rcases List.mem_cons.mp hq with z | z
      · rw [z] at e
        rw [e] at h1
        exact Nat.lt_irrefl _ h1.2
      · have := hp2.1 q z
        have := (hr q (List.mem_cons_of_mem _ z)).2
        rw [e] at this
        omega
    rw [List.foldl_cons] at eu ⊢
    rw [ih]
    by_cases e : r.v = x
    · rw [List.filterMap_cons, if_pos e]
      dsimp only
      rw [List.foldl_cons]
      congr 1
      subst e
      rw [sumStep_at]
      unfold bestStep
      dsimp only
      rw [eu, h1.1]
    · rw [List.filterMap_cons, if_neg e]
      dsimp only
      rw [sumStep_ne (fun z => e z.symm)]
end
section
variable {N : Net} {os : List Int} {rows : List Row} {cols : Row → Option Int} {F : Int → Int → Option Int}
/-- the rows of a filling, and prices of the ways of one direction -/
structure ColOk (N : Net) (os : List Int) (rows : List Row) (cols : Row → Option Int) (F : Int → Int → Option Int) : Prop where
  pairs : rows.map prOf = pairsL N.ls os
  at_ : ∀ r ∈ rows, F r.u r.v = cols r
  none : ∀ u v, posOf u os < posOf v os → ¬ PairP N.ls os u v → F u v = none
theorem ColOk.rws (ok : NetOk N) (oo : OrdOk N.n os) (h : ColOk N os rows cols F) : (∀ r ∈ rows, F r.u r.v = cols r ∧ posOf r.u os < posOf r.v os) ∧ rows.Pairwise fun r q => posOf r.u os ≤ posOf q.u os := by
  constructor
  · intro r hr
    refine ⟨h.at_ r hr, ?_⟩
    have : (r.u, r.v) ∈ pairsL N.ls os := by
      rw [← h.pairs]
      exact List.mem_map.mpr ⟨r, hr, rfl⟩
    exact ((mem_pairsL ok oo).mp this).1
  · have := pairsL_sorted (ls := N.ls) oo
    rw [← h.pairs, List.pairwise_map] at this
    exact this
theorem ColOk.row (ok : NetOk N) (oo : OrdOk N.n os) (h : ColOk N os rows cols F) {u v p : Int} (hl : posOf u os < posOf v os) (hp : F u v = some p) : ∃ r ∈ rows, r.u = u ∧ r.v = v ∧ cols r = some p := by
  by_cases c : PairP N.ls os u v
  · have := (mem_pairsL ok oo).mpr c
    rw [← h.pairs] at this
    obtain ⟨r, hr, e⟩ := List.mem_map.mp this
    have e1 : r.u = u := congrArg Prod.fst e
    have e2 : r.v = v := congrArg Prod.snd e
    refine ⟨r, hr, e1, e2, ?_⟩
    rw [← h.at_ r hr, e1, e2]
    exact hp
  · rw [h.none u v hl c] at hp
    cases hp
theorem sums_least (ok : NetOk N) (oo : OrdOk N.n os) (h : ColOk N os rows cols F) (s x : Int) : Least (fun c => UpW F (fun z => posOf z os) s x c) (sumsF cols s rows x).1 := by
  obtain ⟨h1, h2⟩ := h.rws ok oo
  constructor
  · refine sums_sound rows (sums0 s) h1 (fun z c hz => ?_) x
    unfold sums0 at hz
    by_cases e : z = s
    · rw [if_pos e] at hz
      cases hz
      rw [e]
      exact .one
    · rw [if_neg e] at hz
      cases hz
  · intro c hc
    induction hc with
    | one =>
      refine bet_sums rows (sums0 s) s 0 ?_
      show (sums0 s s).1 = some 0
      rw [show sums0 s s = (some 0, none) from if_pos rfl]
    | @step y x c p hy hl hp ih =>
      obtain ⟨d, hd, e⟩ := ih
      obtain ⟨r, hr, e1, e2, e3⟩ := h.row ok oo hl hp
      obtain ⟨a, b, rfl⟩ := List.append_of_mem hr
      have hb : ∀ q ∈ r :: b, q.v ≠ y := fun q hq z => by
        have hpw := (List.pairwise_append.mp h2).2.1
        have hpw := List.pairwise_cons.mp hpw
        rcases List.mem_cons.mp hq with k | k
        · rw [k, e2] at z
          rw [z] at hl
          exact Nat.lt_irrefl _ hl
        · have k1 := hpw.1 q k
          have k2 := (h1 q (List.mem_append.mpr (.inr (List.mem_cons_of_mem _ k)))).2
          rw [z] at k2
          rw [e1] at k1
          omega
      unfold sumsF at e ⊢
      rw [List.foldl_append] at e ⊢
      rw [sums_keep (r :: b) _ hb] at e
      rw [List.foldl_cons]
      have key : ∃ g, g ≤ d + p ∧ (sumStep cols (a.foldl (sumStep cols) (sums0 s)) r x).1 = some g := by
        rw [← e2, sumStep_at]
        refine (best_le (s := fun u => addO (a.foldl (sumStep cols) (sums0 s) u).1 (cols r)) [r.u] _).2 r.u List.mem_cons_self (d + p) ?_
        show addO (a.foldl (sumStep cols) (sums0 s) r.u).1 (cols r) = some (d + p)
        rw [e1, e, e3]
        rfl
      obtain ⟨g, hg, e4⟩ := key
      obtain ⟨g2, hg2, e5⟩ := bet_sums (cols := cols) b _ x g e4
      exact ⟨g2, by omega, e5⟩
theorem sums_self (ok : NetOk N) (oo : OrdOk N.n os) (h : ColOk N os rows cols F) (s : Int) : sumsF cols s rows s = (some 0, none) := by
  obtain ⟨h1, h2⟩ := h.rws ok oo
  unfold sumsF
  rw [sums_one (F := F) (pos := fun z => posOf z os) rows (sums0 s) h1 h2]
  have e0 : sums0 s s = (some 0, none) := if_pos rfl
  rw [e0]
  have gen : ∀ (us : List Int) (acc : Option Int × Option Int), (∀ u ∈ us, (sumsF cols s rows u).1 = none) → us.foldl (bestStep fun u => addO (sumsF cols s rows u).1 (F u s)) acc = acc := by
    intro us
    induction us with
    | nil => exact fun _ _ => rfl
    | cons u us ih =>
      intro acc hu
      rw [List.foldl_cons, show bestStep (fun u => addO (sumsF cols s rows u).1 (F u s)) acc u = acc by
        unfold bestStep
        dsimp only
        rw [hu u List.mem_cons_self]
        rfl]
      exact ih acc fun v hv => hu v (List.mem_cons_of_mem _ hv)
  refine gen _ _ fun u hu => ?_
  obtain ⟨r, hr, e⟩ := List.mem_filterMap.mp hu
  by_cases c : r.v = s
  · rw [if_pos c] at e
    cases e
    cases e2 : (sumsF cols s rows r.u).1 with
    | none => rfl
    | some d =>
      have hU := (sums_least ok oo h s r.u).1 d e2
      have := (h1 r hr).2
      rw [c] at this
      rcases hU.le with z | z
      · rw [z] at this
        exact absurd this (Nat.lt_irrefl _)
      · exact absurd (Nat.lt_trans this z) (Nat.lt_irrefl _)
  · rw [if_neg c] at e
    cases e
theorem foldl_skip {s : Int → Option Int} {p : Int → Bool} : ∀ (ws : List Int) (acc : Option Int × Option Int), (∀ w ∈ ws, p w = false → s w = none) → ws.foldl (bestStep s) acc = (ws.filter p).foldl (bestStep s) acc
  | [], _, _ => rfl
  | w :: ws, acc, h => by
    have ih := foldl_skip (s := s) (p := p) ws
    cases e : p w with
    | true =>
      rw [List.filter_cons_of_pos e, List.foldl_cons, List.foldl_cons]
      exact ih _ fun v hv => h v (List.mem_cons_of_mem _ hv)
    | false =>
      rw [List.filter_cons_of_neg (by rw [e]; exact Bool.false_ne_true), List.foldl_cons, show bestStep s acc w = acc by
        unfold bestStep
        rw [h w List.mem_cons_self e]]
      exact ih _ fun v hv => h v (List.mem_cons_of_mem _ hv)
open Classical in
theorem rows_into (ok : NetOk N) (oo : OrdOk N.n os) (hp : rows.map prOf = pairsL N.ls os) (x : Int) : (rows.filterMap fun r => if r.v = x then some r.u else none) = os.filter fun u => decide (PairP N.ls os u x) := by
  have e : (rows.filterMap fun r => if r.v = x then some r.u else none) = (rows.map prOf).filterMap fun q => if q.2 = x then some q.1 else none := by
    rw [List.filterMap_map]
    rfl
  rw [e, hp]
  unfold pairsL
  rw [List.filterMap_flatMap]
  have gen : ∀ us : List Int, (us.flatMap fun u => ((upP N.ls os u).map fun v => (u, v)).filterMap fun q => if q.2 = x then some q.1 else none) = us.filter fun u => decide (PairP N.ls os u x) := by
    intro us
    induction us with
    | nil => rfl
    | cons u us ih =>
      rw [List.flatMap_cons, ih]
      have e1 : ((upP N.ls os u).map fun v => (u, v)).filterMap (fun q => if q.2 = x then some q.1 else none) = if PairP N.ls os u x then [u] else [] := by
        rw [List.filterMap_map]
        have nd := up_nodup (u := u) (N := N) oo
        have hm := mem_upP (v := x) (u := u) ok oo
        generalize upP N.ls os u = vs at nd hm
        induction vs with
        | nil =>
          by_cases c : PairP N.ls os u x
          · exact absurd (hm.mpr c) List.not_mem_nil
          · rw [if_neg c]
            rfl
        | cons v vs ih2 =>
          rw [List.nodup_cons] at nd
          rw [List.filterMap_cons]
          rw [show ((fun q : Int × Int => if q.2 = x then some q.1 else none) ∘ fun v => (u, v)) v = if v = x then some u else none from rfl]
          by_cases c : v = x
          · rw [if_pos c]
            have hx : x ∉ vs := by rw [← c]; exact nd.1
            have e2 : vs.filterMap ((fun q : Int × Int => if q.2 = x then some q.1 else none) ∘ fun v => (u, v)) = [] := by
              rw [List.filterMap_eq_nil_iff]
              intro z hz
              show (if z = x then some u else none : Option Int) = none
              rw [if_neg (fun e => hx (by rw [← e]; exact hz))]
            dsimp only
            rw [e2, if_pos (hm.mp (by rw [c]; exact List.mem_cons_self))]
          · rw [if_neg c]
            dsimp only
            refine ih2 nd.2 ⟨fun h => hm.mp (List.mem_cons_of_mem _ h), fun h => ?_⟩
            rcases List.mem_cons.mp (hm.mpr h) with z | z
            · exact absurd z.symm c
            · exact z
      rw [e1]
      by_cases c : PairP N.ls os u x
      · rw [if_pos c, List.filter_cons_of_pos (by exact decide_eq_true c)]
        rfl
      · rw [if_neg c, List.filter_cons_of_neg (by exact fun z => c (of_decide_eq_true z))]
        rfl
  exact gen os
/-- the search, place by place in the order -/
theorem sums_law (ok : NetOk N) (oo : OrdOk N.n os) (h : ColOk N os rows cols F) {s x : Int} (hx : x ∈ os) (xs : x ≠ s) : sumsF cols s rows x = bestF none (fun y => addO (sumsF cols s rows y).1 (F y x)) (os.take (posOf x os)) := by
  classical
  obtain ⟨h1, h2⟩ := h.rws ok oo
  have e : sumsF cols s rows x = (rows.filterMap fun r => if r.v = x then some r.u else none).foldl (bestStep fun u => addO (sumsF cols s rows u).1 (F u x)) (sums0 s x) := sums_one (F := F) (pos := fun z => posOf z os) rows (sums0 s) h1 h2
  rw [e, rows_into ok oo h.pairs, show sums0 s x = (none, none) from if_neg xs]
  unfold bestF
  rw [foldl_skip (p := fun u => decide (PairP N.ls os u x)) (os.take (posOf x os)) _ fun w hw hp => ?_]
  · congr 1
    have hpx := pos_len hx
    have e1 := List.take_append_drop (posOf x os) os
    have e2 : os.filter (fun u => decide (PairP N.ls os u x)) = (os.take (posOf x os)).filter (fun u => decide (PairP N.ls os u x)) ++ (os.drop (posOf x os)).filter (fun u => decide (PairP N.ls os u x)) := by
      rw [← List.filter_append, e1]
    rw [e2, show (os.drop (posOf x os)).filter (fun u => decide (PairP N.ls os u x)) = [] by
      rw [List.filter_eq_nil_iff]
      intro u hu z
      have hz := (of_decide_eq_true z).1
      obtain ⟨j, hj, ej⟩ := List.getElem_of_mem hu
      rw [List.length_drop] at hj
      have hg : os[posOf x os + j]? = some u := by
        rw [List.getElem?_eq_getElem (by omega), ← ej, List.getElem_drop]
      have := posOf_get oo.nodup hg
      omega, List.append_nil]
  · have hlt : posOf w os < posOf x os := by
      obtain ⟨j, hj, ej⟩ := List.getElem_of_mem hw
      rw [List.length_take] at hj
      have hg : os[j]? = some w := by
        rw [List.getElem?_eq_getElem (by omega), ← ej, List.getElem_take]
      have := posOf_get oo.nodup hg
      omega
    rw [h.none w x hlt (of_decide_eq_false hp)]
    cases (sumsF cols s rows w).1 <;> rfl
end
/-! ### answers are least sums -/
theorem nodup_rev {l : List Int} (h : l.Nodup) : l.reverse.Nodup := by
  show List.Pairwise _ _
  rw [List.pairwise_reverse]
  exact List.Pairwise.imp (fun h => h.symm) h
abbrev tru : Int → Prop := fun _ => True
abbrev tr (w : Int → Int → Option Int) : Int → Int → Option Int := fun x y => w y x
theorem Way.pre {w : Int → Int → Option Int} {s y p : Int} (hp : w s y = some p) {l : List Int} {c : Int} (h : Way w tru y l c) : Way w tru s (l ++ [s]) (p + c) := by
  induction h with
  | one =>
    have := Way.step (Way.one (w := w) (ext := tru) (s := s)) trivial hp
    rw [Int.zero_add] at this
    rw [Int.add_zero]
    exact this
  | step _ _ h3 ih =>
    rw [← Int.add_assoc]
    exact .step ih trivial h3
theorem Way.rev {w : Int → Int → Option Int} {s : Int} {l : List Int} {c : Int} (h : Way w tru s l c) : ∀ {z : Int} {l' : List Int}, l = z :: l' → Way (tr w) tru z l.reverse c := by
  induction h with
  | one =>
    intro z l' e
    injection e with e1 e2
    rw [e1]
    exact .one
  | @step y z c p l h1 _ h3 ih =>
    intro z' l' e
    injection e with e1 e2
    subst e1
    have := Way.pre (w := tr w) (s := z) (p := p) h3 (ih rfl)
    rw [List.reverse_cons, Int.add_comm]
    exact this
theorem UpW.way {w : Int → Int → Option Int} {F : Int → Int → Option Int} {pos : Int → Nat} {s x c : Int} (hF : ∀ y x p, pos y < pos x → F y x = some p → ∃ l, Way w tru y (x :: l) p) (h : UpW F pos s x c) : ∃ l, Way w tru s (x :: l) c := by
  induction h with
  | one => exact ⟨[], .one⟩
  | step _ hl hp ih =>
    obtain ⟨l1, h1⟩ := ih
    obtain ⟨l2, h2⟩ := hF _ _ _ hl hp
    exact h1.append (fun _ _ => trivial) (fun _ _ => trivial) h2
theorem up_of_way {w F : Int → Int → Option Int} {os : List Int} {s : Int}
    (hF : ∀ (y m : Int) (a : List Int) (c : Int), y ∈ os → Way w tru y (m :: (a ++ [y])) c → (m :: (a ++ [y])).Nodup → (∀ z ∈ a, posOf z os < posOf y os) → posOf y os < posOf m os → ∃ d, d ≤ c ∧ F y m = some d) :
    ∀ (k : Nat) (l : List Int) (m c : Int), l.length ≤ k → Way w tru s (m :: l) c → (m :: l).Nodup → (∀ y ∈ l, y ∈ os) → (∀ y ∈ l, posOf y os < posOf m os) → ∃ d, d ≤ c ∧ UpW F (fun z => posOf z os) s m d
  | k, l, m, c, hk, h, hn, hin, hlo => by
    by_cases e : l = []
    · subst e
      obtain ⟨rfl, rfl⟩ := h.one_inv
      exact ⟨0, Int.le_refl _, .one⟩
    · obtain ⟨y, hy, htop⟩ := top_of (fun z => posOf z os) l e
      obtain ⟨a, b, rfl⟩ := List.append_of_mem hy
      obtain ⟨c1, c2, w1, w2, rfl⟩ := Way.split (m :: a) (b := b) (m := y) h
      have hn2 := (List.nodup_cons.mp hn).2
      have h3 := List.nodup_append.mp hn2
      have h4 := List.nodup_cons.mp h3.2.1
      have lower : ∀ z ∈ a ++ y :: b, z ≠ y → posOf z os < posOf y os := fun z hz hne => by
        have h1 : posOf z os ≤ posOf y os := htop z hz
        have h2 : posOf z os ≠ posOf y os := fun e => hne (pos_inj (hin z hz) (hin y hy) e)
        omega
      have lb : ∀ z ∈ b, posOf z os < posOf y os := fun z hz => lower z (List.mem_append.mpr (.inr (List.mem_cons_of_mem _ hz))) fun e => h4.1 (by rw [← e]; exact hz)
      have la : ∀ z ∈ a, posOf z os < posOf y os := fun z hz => lower z (List.mem_append.mpr (.inl hz)) fun e => h3.2.2 z hz y List.mem_cons_self e
      have hlen : b.length < (a ++ y :: b).length := by
        rw [List.length_append, List.length_cons]
        omega
      match k, hk with
      | 0, hk => omega
      | k + 1, hk =>
        obtain ⟨d1, hd1, u1⟩ := up_of_way hF k b y c1 (by omega) w1 h3.2.1 (fun z hz => hin z (List.mem_append.mpr (.inr (List.mem_cons_of_mem _ hz)))) lb
        have nd2 : (m :: (a ++ [y])).Nodup := by
          rw [List.nodup_cons] at hn ⊢
          refine ⟨fun q => hn.1 ?_, List.nodup_append.mpr ⟨h3.1, List.nodup_cons.mpr ⟨List.not_mem_nil, .nil⟩, fun p hp q hq => h3.2.2 p hp q (by rw [List.mem_singleton.mp hq]; exact List.mem_cons_self)⟩⟩
          rcases List.mem_append.mp q with q | q
          · exact List.mem_append.mpr (.inl q)
          · exact List.mem_append.mpr (.inr (by rw [List.mem_singleton.mp q]; exact List.mem_cons_self))
        obtain ⟨d2, hd2, e2⟩ := hF y m a c2 (hin y hy) w2 nd2 la (hlo y hy)
        exact ⟨d1 + d2, by omega, .step u1 (hlo y hy) e2⟩
section
variable {N : Net} {os : List Int} {rows : List Row}
theorem way_in (ok : NetOk N) (oo : OrdOk N.n os) {ext : Int → Prop} {s : Int} (hs : s ∈ os) {l : List Int} {c : Int} (h : Way (linkW N.ls) ext s l c) : ∀ z ∈ l, z ∈ os := by
  induction h with
  | one =>
    intro z hz
    rw [List.mem_singleton.mp hz]
    exact hs
  | step _ _ hp ih =>
    intro z hz
    rcases List.mem_cons.mp hz with e | e
    · rw [e]
      exact oo.mem.mpr (linkW_in ok hp).2.1
    · exact ih z e
/-- the prices of the ways, up and down, of a filling -/
theorem fill_up (ok : NetOk N) (oo : OrdOk N.n os) (h : FillOk N os rows) : ColOk N os rows (·.up) (prR rows) where
  pairs := h.pairs
  at_ := fun r hr => (prR_up ok oo h hr).1
  none := fun u v hl hp => by
    cases e : prR rows u v with
    | none => rfl
    | some c =>
      rcases prR_some e with ⟨r, hr, rfl, rfl, _⟩ | ⟨r, hr, rfl, rfl, _⟩
      · exact absurd (h.pair ok oo hr) hp
      · have := (h.pair ok oo hr).1
        omega
theorem fill_dn (ok : NetOk N) (oo : OrdOk N.n os) (h : FillOk N os rows) : ColOk N os rows (·.dn) (tr (prR rows)) where
  pairs := h.pairs
  at_ := fun r hr => (prR_up ok oo h hr).2
  none := fun u v hl hp => by
    show prR rows v u = none
    cases e : prR rows v u with
    | none => rfl
    | some c =>
      rcases prR_some e with ⟨r, hr, rfl, rfl, _⟩ | ⟨r, hr, rfl, rfl, _⟩
      · have := (h.pair ok oo hr).1
        omega
      · exact absurd (h.pair ok oo hr) hp
theorem up_way (ok : NetOk N) (oo : OrdOk N.n os) (h : FillOk N os rows) : ∀ y x p, posOf y os < posOf x os → prR rows y x = some p → ∃ l, Way (linkW N.ls) tru y (x :: l) p := fun y x p hl hp => by
  by_cases c : PairP N.ls os y x
  · obtain ⟨l, hw⟩ := (fill_dist ok oo h _ y x rfl c).1.1 p hp
    exact ⟨l, hw.wid fun _ _ _ => trivial⟩
  · rw [(fill_up ok oo h).none y x hl c] at hp
    cases hp
theorem dn_way (ok : NetOk N) (oo : OrdOk N.n os) (h : FillOk N os rows) : ∀ y x p, posOf y os < posOf x os → prR rows x y = some p → ∃ l, Way (linkW N.ls) tru x (y :: l) p := fun y x p hl hp => by
  by_cases c : PairP N.ls os y x
  · obtain ⟨l, hw⟩ := (fill_dist ok oo h _ y x rfl c).2.1 p hp
    exact ⟨l, hw.wid fun _ _ _ => trivial⟩
  · have := (fill_dn ok oo h).none y x hl c
    rw [show prR rows x y = none from this] at hp
    cases hp
theorem dn_way_tr (ok : NetOk N) (oo : OrdOk N.n os) (h : FillOk N os rows) : ∀ y x p, posOf y os < posOf x os → tr (prR rows) y x = some p → ∃ l, Way (tr (linkW N.ls)) tru y (x :: l) p := fun y x p hl hp => by
  obtain ⟨l, hw⟩ := dn_way ok oo h y x p hl hp
  have hr := hw.rev rfl
  obtain ⟨l', e⟩ := hw.last
  rw [e, List.reverse_append] at hr
  exact ⟨_, hr⟩
/-- the sum of a way of a pair is at least its price -/
theorem up_pair (ok : NetOk N) (oo : OrdOk N.n os) (h : FillOk N os rows) : ∀ (y m : Int) (a : List Int) (c : Int), y ∈ os → Way (linkW N.ls) tru y (m :: (a ++ [y])) c → (m :: (a ++ [y])).Nodup → (∀ z ∈ a, posOf z os < posOf y os) → posOf y os < posOf m os → ∃ d, d ≤ c ∧ prR rows y m = some d := fun y m a c hy hw hn ha hl => by
  have hex : ∀ z ∈ a ++ [y], z ≠ y → posOf z os < posOf y os := fun z hz hne => by
    rcases List.mem_append.mp hz with q | q
    · exact ha z q
    · exact absurd (List.mem_singleton.mp q) hne
  have hp : PairP N.ls os y m := ⟨hl, way_rch ok hw (by simp) hex hn⟩
  exact (fill_dist ok oo h _ y m rfl hp).1.2 c ⟨_, hw.wid fun z hz _ => by
    by_cases e : z = y
    · exact .inl e
    · exact .inr (hex z hz e)⟩
theorem dn_pair (ok : NetOk N) (oo : OrdOk N.n os) (h : FillOk N os rows) : ∀ (y m : Int) (a : List Int) (c : Int), y ∈ os → Way (tr (linkW N.ls)) tru y (m :: (a ++ [y])) c → (m :: (a ++ [y])).Nodup → (∀ z ∈ a, posOf z os < posOf y os) → posOf y os < posOf m os → ∃ d, d ≤ c ∧ tr (prR rows) y m = some d := fun y m a c hy hw hn ha hl => by
  have hr : Way (linkW N.ls) tru m (m :: (a ++ [y])).reverse c := hw.rev rfl
  have er : (m :: (a ++ [y])).reverse = y :: (a.reverse ++ [m]) := by simp
  rw [er] at hr
  have hn2 : (y :: (a.reverse ++ [m])).Nodup := by
    rw [← er]
    exact nodup_rev hn
  have hex : ∀ z ∈ a.reverse ++ [m], z ≠ m → posOf z os < posOf y os := fun z hz hne => by
    rcases List.mem_append.mp hz with q | q
    · exact ha z (List.mem_reverse.mp q)
    · exact absurd (List.mem_singleton.mp q) hne
  have hp : PairP N.ls os y m := ⟨hl, (way_rch ok hr (by simp) hex hn2).sym (adj0_ok ok)⟩
  exact (fill_dist ok oo h _ y m rfl hp).2.2 c ⟨_, hr.wid fun z hz _ => by
    by_cases e : z = m
    · exact .inl e
    · exact .inr (hex z hz e)⟩
/-- a road has a highest place: a way up to it, a way down from it -/
theorem road_top (ok : NetOk N) (oo : OrdOk N.n os) (h : FillOk N os rows) {s t c : Int} {l : List Int} (hs : s ∈ os) (hw : Way (linkW N.ls) tru s (t :: l) c) : ∃ m d1 d2, m ∈ os ∧ d1 + d2 ≤ c ∧ UpW (prR rows) (fun z => posOf z os) s m d1 ∧ UpW (tr (prR rows)) (fun z => posOf z os) t m d2 := by
  obtain ⟨l, d, hd, hw, hn, _⟩ := Way.simple (pos_net ok) _ t l c (Nat.le_refl _) hw
  have hin := way_in ok oo hs hw
  obtain ⟨m, hm, htop⟩ := top_of (fun z => posOf z os) (t :: l) (List.cons_ne_nil _ _)
  obtain ⟨a, b, e⟩ := List.append_of_mem hm
  rw [e] at hw hn hin hm htop
  obtain ⟨c1, c2, w1, w2, rfl⟩ := Way.split a hw
  have h3 := List.nodup_append.mp hn
  have h4 := List.nodup_cons.mp h3.2.1
  have lower : ∀ z ∈ a ++ m :: b, z ≠ m → posOf z os < posOf m os := fun z hz hne => by
    have h1 : posOf z os ≤ posOf m os := htop z hz
    have h2 : posOf z os ≠ posOf m os := fun e => hne (pos_inj (hin z hz) (hin m hm) e)
    omega
  have lb : ∀ z ∈ b, posOf z os < posOf m os := fun z hz => lower z (List.mem_append.mpr (.inr (List.mem_cons_of_mem _ hz))) fun e => h4.1 (by rw [← e]; exact hz)
  have la : ∀ z ∈ a, posOf z os < posOf m os := fun z hz => lower z (List.mem_append.mpr (.inl hz)) fun e => h3.2.2 z hz m List.mem_cons_self e
  obtain ⟨d1, hd1, u1⟩ := up_of_way (F := prR rows) (up_pair ok oo h) _ b m c1 (Nat.le_refl _) w1 h3.2.1 (fun z hz => hin z (List.mem_append.mpr (.inr (List.mem_cons_of_mem _ hz)))) lb
  have e2 : ∃ l', a ++ [m] = t :: l' := by
    cases a with
    | nil =>
      injection e with e1 _
      exact ⟨[], by rw [e1]; rfl⟩
    | cons x a =>
      injection e with e1 _
      exact ⟨a ++ [m], by rw [e1]; rfl⟩
  obtain ⟨l', e2⟩ := e2
  have w3 := w2.rev e2
  rw [List.reverse_append] at w3
  have w3 : Way (tr (linkW N.ls)) tru t (m :: a.reverse) c2 := w3
  obtain ⟨d2, hd2, u2⟩ := up_of_way (F := tr (prR rows)) (dn_pair ok oo h) _ a.reverse m c2 (Nat.le_refl _) w3 (List.nodup_cons.mpr ⟨fun q => h3.2.2 m (List.mem_reverse.mp q) m List.mem_cons_self rfl, nodup_rev h3.1⟩)
    (fun z hz => hin z (List.mem_append.mpr (.inl (List.mem_reverse.mp hz)))) (fun z hz => la z (List.mem_reverse.mp hz))
  exact ⟨m, d1, d2, hin m hm, by omega, u1, u2⟩
theorem upW_way (ok : NetOk N) (oo : OrdOk N.n os) (h : FillOk N os rows) {s x c : Int} (hu : UpW (prR rows) (fun z => posOf z os) s x c) : ∃ l, Way (linkW N.ls) tru s (x :: l) c := UpW.way (up_way ok oo h) hu
theorem dnW_way (ok : NetOk N) (oo : OrdOk N.n os) (h : FillOk N os rows) {t x c : Int} (hu : UpW (tr (prR rows)) (fun z => posOf z os) t x c) : ∃ l, Way (linkW N.ls) tru x (t :: l) c := by
  obtain ⟨l, hw⟩ := UpW.way (dn_way_tr ok oo h) hu
  have hr : Way (linkW N.ls) tru x (x :: l).reverse c := hw.rev rfl
  obtain ⟨l', e⟩ := hw.last
  rw [e, List.reverse_append] at hr
  exact ⟨_, hr⟩
/-- the answer is the least sum of all roads -/
theorem ans_dist (ok : NetOk N) (oo : OrdOk N.n os) (h : FillOk N os rows) {s t : Int} (hs : s ∈ os) : Dist (linkW N.ls) tru s t (bestF none (fun x => addO (sumsF (·.up) s rows x).1 (sumsF (·.dn) t rows x).1) os).1 := by
  constructor
  · refine best_fst (P := fun c => ∃ l, Way (linkW N.ls) tru s (t :: l) c) os (fun c hc => nomatch hc) fun x hx c hc => ?_
    obtain ⟨a, b, ha, hb, rfl⟩ := addO_some hc
    obtain ⟨l1, w1⟩ := upW_way ok oo h ((sums_least ok oo (fill_up ok oo h) s x).1 a ha)
    obtain ⟨l2, w2⟩ := dnW_way ok oo h ((sums_least ok oo (fill_dn ok oo h) t x).1 b hb)
    exact w1.append (fun _ _ => trivial) (fun _ _ => trivial) w2
  · rintro c ⟨l, hw⟩
    obtain ⟨m, d1, d2, hm, hd, u1, u2⟩ := road_top ok oo h hs hw
    obtain ⟨g1, hg1, e1⟩ := (sums_least ok oo (fill_up ok oo h) s m).2 d1 u1
    obtain ⟨g2, hg2, e2⟩ := (sums_least ok oo (fill_dn ok oo h) t m).2 d2 u2
    obtain ⟨g, hg, e⟩ := bestF_le (o := none) (s := fun x => addO (sumsF (·.up) s rows x).1 (sumsF (·.dn) t rows x).1) (c := g1 + g2) hm (by
      show addO (sumsF (·.up) s rows m).1 (sumsF (·.dn) t rows m).1 = some (g1 + g2)
      rw [e1, e2]
      rfl)
    exact ⟨g, by omega, e⟩
end
/-! ### a list with one element for each place -/
theorem rngG {n : Int} {i : Nat} (h : i < n.toNat) : (rng n)[i]? = some (i : Int) := by
  unfold rng
  rw [List.getElem?_map, List.getElem?_range h]
  rfl
theorem rng_at {α : Type} {n x : Int} {g : Int → α} (h : 0 ≤ x ∧ x < n) : atI ((rng n).map g) x = some (g x) := by
  obtain ⟨j, rfl⟩ := Int.eq_ofNat_of_zero_le h.1
  refine atI_nat ?_
  rw [List.getElem?_map, rngG (by omega)]
  rfl
theorem rng_set {α : Type} {n : Int} {k : Nat} {g : Int → α} {v : α} : ((rng n).map g).set k v = (rng n).map (updF g (k : Int) v) := by
  apply List.ext_getElem?
  intro i
  rw [List.getElem?_set]
  by_cases hi : i < n.toNat
  · rw [List.getElem?_map, List.getElem?_map, rngG hi, List.length_map, len_rng]
    show _ = some (updF g (k : Int) v (i : Int))
    by_cases e : k = i
    · subst e
      rw [if_pos rfl, if_pos hi, updF_at]
    · rw [if_neg e, updF_ne (y := (k : Int)) (z := (i : Int)) (by omega)]
      rfl
  · have e1 : ((rng n).map g)[i]? = none := List.getElem?_eq_none (by rw [List.length_map, len_rng]; omega)
    have e2 : ((rng n).map (updF g (k : Int) v))[i]? = none := List.getElem?_eq_none (by rw [List.length_map, len_rng]; omega)
    rw [e1, e2, List.length_map, len_rng]
    by_cases e : k = i
    · rw [if_pos e, if_neg (by omega)]
    · rw [if_neg e]
theorem map_updF {α β : Type} {f : Int → α} {g : α → β} {y : Int} {v : α} : (fun z => g (updF f y v z)) = updF (fun z => g (f z)) y (g v) := by
  funext z
  unfold updF
  split <;> rfl
section
variable {K : PySem.W.Frag} {σ : L2.St} {H : Hp} {a : Addr} {D : Ends} {tz tw : TS}
/-- for row in rows: the row itself in its slot -/
theorem DpAll.row_at {xs : List V} {rows : List Row} (hL : DpAll K H xs (rows.map rowD)) {i : Nat} {x : V} (hi : xs[i]? = some x) : ∃ r t, rows[i]? = some r ∧ x = .ref t ∧ SqT K H t (rowV r) := by
  have e := DpAll.len hL
  rw [List.length_map] at e
  have hlt := (List.getElem?_eq_some_iff.mp hi).1
  have hg : rows[i]? = some (rows[i]'(by omega)) := List.getElem?_eq_getElem (by omega)
  obtain ⟨v, hv, dv⟩ := DpAll.get (i := i) (d := rowD (rows[i]'(by omega))) hL (by
    rw [List.getElem?_map, hg]
    rfl)
  cases hi.symm.trans hv
  obtain ⟨t, rfl, ht⟩ := Dp.row_inv dv
  exact ⟨_, t, hg, rfl, ht⟩
theorem g_forRw {j : Nat} {Hb : Hp} {xs : List V} {rows : List Row} {tl : TE} (h : Vl tl σ H (.ref a)) (hx : SqL K Hb a xs) (hL : DpAll K Hb xs (rows.map rowD)) (hb : Same Hb H) (Pv : Nat → L2.St → Hp → Prop) (h0 : Pv 0 σ H) (hl : ∀ i σ' H', Pv i σ' H' → Same Hb H')
    (hs : ∀ (i : Nat) r t σ H, rows[i]? = some r → SqT K Hb t (rowV r) → Pv i σ H → tz { D with nx := Pv (i + 1), ct := Pv (i + 1), bk := D.nx } (σ.set j (some (.ref t))) H) (hd : ∀ σ H, Pv rows.length σ H → D.nx σ H) :
    tFor (iList K tl) (gName j) tz D σ H := h _ ⟨a, rfl, ⟨_, hb.seq hx⟩, for_list (xs := xs) Pv h0 (fun i σ H _ p => (hl i σ H p).seq hx) (fun i x σ H hi p => by
      obtain ⟨r, t, hg, rfl, ht⟩ := DpAll.row_at hL hi
      exact hs i r t σ H hg ht p) (fun σ H p => by
      have e := DpAll.len hL
      rw [List.length_map] at e
      rw [e] at p
      exact hd σ H p)⟩
theorem q_forRw {j : Nat} {Hb : Hp} {xs : List V} {rows : List Row} {tl : TE} (h : Vl tl σ H (.ref a)) (hx : SqL K Hb a xs) (hL : DpAll K Hb xs (rows.map rowD)) (hb : Same Hb H) (Pv : Nat → L2.St → Hp → Prop) (h0 : Pv 0 σ H) (hl : ∀ i σ' H', Pv i σ' H' → Same Hb H')
    (hs : ∀ (i : Nat) r t σ H, rows[i]? = some r → SqT K Hb t (rowV r) → Pv i σ H → tz { D with nx := Pv (i + 1), ct := Pv (i + 1), bk := tw D } (σ.set j (some (.ref t))) H) (hd : ∀ σ H, Pv rows.length σ H → tw D σ H) :
    tSeq (tFor (iList K tl) (gName j) tz) tw D σ H := g_forRw (D := { D with nx := tw D }) h hx hL hb Pv h0 hl hs hd
/-- for x, y, price in [(..), (..)] -/
theorem g_for3 {j1 j2 j3 : Nat} {Hb : Hp} {L T1 T2 : Addr} {d1 d2 : Int × Int × Option Int} (eL : Hb L = some (.lst [.ref T1, .ref T2])) (e1 : Hb T1 = some (.tup [.int d1.1, .int d1.2.1, oV d1.2.2])) (e2 : Hb T2 = some (.tup [.int d2.1, .int d2.2.1, oV d2.2.2])) (Pv : Nat → L2.St → Hp → Prop) (h0 : Pv 0 σ H)
    (hl : ∀ i σ' H', Pv i σ' H' → Same Hb H') (hs : ∀ (i : Nat) d σ H, [d1, d2][i]? = some d → Pv i σ H → tz { D with nx := Pv (i + 1), ct := Pv (i + 1), bk := D.nx } (((σ.set j1 (some (.int d.1))).set j2 (some (.int d.2.1))).set j3 (some (oV d.2.2))) H) (hd : ∀ σ H, Pv 2 σ H → D.nx σ H) :
    tFor (iList K fun _ H' Q => Q (.ref L) H') (gTup K 3 (gCons (gName j1) (gCons (gName j2) (gCons (gName j3) gNil)))) tz D σ H := ⟨L, rfl, ⟨_, .of (hl _ _ _ h0 _ _ eL)⟩, for_list (xs := [.ref T1, .ref T2]) Pv h0 (fun i σ H _ p => .of (hl i σ H p _ _ eL)) (fun i x σ H hi p => by
      match i, hi, p with
      | 0, hi, p =>
        cases hi
        exact ⟨T1, _, rfl, .of (hl _ _ _ p _ _ e1), rfl, _, _, rfl, _, _, rfl, _, _, rfl, rfl, hs 0 d1 σ H rfl p⟩
      | 1, hi, p =>
        cases hi
        exact ⟨T2, _, rfl, .of (hl _ _ _ p _ _ e2), rfl, _, _, rfl, _, _, rfl, _, _, rfl, rfl, hs 1 d2 σ H rfl p⟩
      | n + 2, hi, p => simp at hi) hd⟩
/-- .. the two made at once -/
theorem g_for3L {j1 j2 j3 : Nat} {t0 t1 t2 u0 u1 u2 : TE} {d1 d2 : Int × Int × Option Int} (a0 : Vl t0 σ H (.int d1.1)) (a1 : Vl t1 σ H (.int d1.2.1)) (a2 : Vl t2 σ H (oV d1.2.2)) (b0 : ∀ H', Same H H' → Vl u0 σ H' (.int d2.1)) (b1 : ∀ H', Same H H' → Vl u1 σ H' (.int d2.2.1)) (b2 : ∀ H', Same H H' → Vl u2 σ H' (oV d2.2.2))
    (k : ∀ (L T1 T2 : Addr) (H' : Hp), Same H H' → H' L = some (.lst [.ref T1, .ref T2]) → H' T1 = some (.tup [.int d1.1, .int d1.2.1, oV d1.2.2]) → H' T2 = some (.tup [.int d2.1, .int d2.2.1, oV d2.2.2]) → tFor (iList K fun _ H' Q => Q (.ref L) H') (gTup K 3 (gCons (gName j1) (gCons (gName j2) (gCons (gName j3) gNil)))) tz D σ H') :
    tFor (iList K (tLst (tCons (tTup (tCons t0 (tCons t1 (tCons t2 tNil)))) (tCons (tTup (tCons u0 (tCons u1 (tCons u2 tNil)))) tNil)))) (gTup K 3 (gCons (gName j1) (gCons (gName j2) (gCons (gName j3) gNil)))) tz D σ H := by
  refine g_forE (a0 _ (a1 _ (a2 _ ⟨by show 3 ≤ sizeLine; decide, fun T1 n1 => ?_⟩)))
  have s1 : Same H (upd H T1 (.tup [.int d1.1, .int d1.2.1, oV d1.2.2])) := same_upd n1
  refine b0 _ s1 _ (b1 _ s1 _ (b2 _ s1 _ ⟨by show 3 ≤ sizeLine; decide, fun T2 n2 => ⟨by show 2 ≤ sizeLine; decide, fun L nL => ?_⟩⟩))
  have s2 : Same (upd H T1 (.tup [.int d1.1, .int d1.2.1, oV d1.2.2])) (upd (upd H T1 (.tup [.int d1.1, .int d1.2.1, oV d1.2.2])) T2 (.tup [.int d2.1, .int d2.2.1, oV d2.2.2])) := same_upd n2
  have s3 : Same (upd (upd H T1 (.tup [.int d1.1, .int d1.2.1, oV d1.2.2])) T2 (.tup [.int d2.1, .int d2.2.1, oV d2.2.2])) (upd (upd (upd H T1 (.tup [.int d1.1, .int d1.2.1, oV d1.2.2])) T2 (.tup [.int d2.1, .int d2.2.1, oV d2.2.2])) L (.lst [.ref T1, .ref T2])) := same_upd nL
  exact k L T1 T2 _ ((s1.trans s2).trans s3) upd_same (s3 _ _ (s2 _ _ upd_same)) (s3 _ _ upd_same)
/-- xs[k] = e -/
theorem g_setE {te t0 t1 : TE} {v : V} {xs : List V} {k : Nat} (hv : Ve te σ H v) (h0 : ∀ H', Same H H' → Vl t0 σ H' (.ref a)) (h1 : ∀ H', Same H H' → Vl t1 σ H' (.int (k : Nat))) (ha : H a = some (.lst xs)) (hk : k < xs.length) (q : ∀ H', Same H H' → D.nx σ (upd H' a (.lst (xs.set k v)))) : tAsg te (gSub t0 t1 rSetL) D σ H :=
  hv _ fun H' s' => (h0 H' s') _ ((h1 H' s') _ ⟨a, xs, (k : Nat), k, rfl, rfl, s' _ _ ha, Evl.ixN_nat hk, q H' s'⟩)
theorem q_setE {te t0 t1 : TE} {v : V} {xs : List V} {k : Nat} (hv : Ve te σ H v) (h0 : ∀ H', Same H H' → Vl t0 σ H' (.ref a)) (h1 : ∀ H', Same H H' → Vl t1 σ H' (.int (k : Nat))) (ha : H a = some (.lst xs)) (hk : k < xs.length) (q : ∀ H', Same H H' → tw D σ (upd H' a (.lst (xs.set k v)))) : tSeq (tAsg te (gSub t0 t1 rSetL)) tw D σ H := g_setE (D := { D with nx := tw D }) hv h0 h1 ha hk q
end
/-! ### a filling by least sums over lower places, and by triangles -/
def loB (os : List Int) (x y : Int) : Int → Bool := fun z => decide (z = x) || decide (posOf z os < min (posOf x os) (posOf y os))
/-- the least sum of all roads from x to y whose inner places are lower than both -/
def leastL (N : Net) (os : List Int) (x y : Int) : Option Int := bf (loB os x y) N.ls x N.n.toNat y
theorem least_pair {N : Net} {os : List Int} {rows : List Row} (ok : NetOk N) (oo : OrdOk N.n os) (h : FillOk N os rows) {u v : Int} (hp : PairP N.ls os u v) : leastL N os u v = prR rows u v ∧ leastL N os v u = prR rows v u := by
  have hi := hp.ins ok
  have lt := hp.1
  obtain ⟨f1, f2⟩ := fill_dist ok oo h (posOf u os) u v rfl hp
  have one : ∀ x y : Int, (0 ≤ x ∧ x < N.n) → min (posOf x os) (posOf y os) = posOf u os → ∀ o, Dist (linkW N.ls) (loExt os x (posOf u os)) x y o → leastL N os x y = o := fun x y hx hm o ho => by
    have b := bf_dist ok (ext := loB os x y) hx y
    have e1 : ∀ z, loB os x y z = true → loExt os x (posOf u os) z := fun z hz => by
      unfold loB at hz
      rw [Bool.or_eq_true, decide_eq_true_eq, decide_eq_true_eq, hm] at hz
      exact hz
    have e2 : ∀ z, loExt os x (posOf u os) z → loB os x y z = true := fun z hz => by
      unfold loB
      rw [Bool.or_eq_true, decide_eq_true_eq, decide_eq_true_eq, hm]
      exact hz
    exact Least.uniq (Least.congr b (fun c ⟨l, w⟩ => ⟨c, Int.le_refl _, l, w.wid fun y _ hy => e1 y hy⟩) fun c ⟨l, w⟩ => ⟨c, Int.le_refl _, l, w.wid fun y _ hy => e2 y hy⟩) ho
  exact ⟨one u v hi.1 (by omega) _ f1, one v u hi.2 (by omega) _ f2⟩
theorem best_mid {s : Int → Option Int} : ∀ (ws : List Int) (o m : Option Int), (ws.foldl (bestStep s) (o, m)).2 = if (ws.foldl (bestStep s) (o, m)).1 = o then m else ws.find? fun w => decide (s w = (ws.foldl (bestStep s) (o, m)).1)
  | [], o, m => by
    rw [List.foldl_nil, if_pos rfl]
  | w :: ws, o, m => by
    rw [List.foldl_cons]
    have skip : bestStep s (o, m) w = (o, m) → (∀ d, s w = some d → ∃ c, o = some c ∧ c ≤ d) → (ws.foldl (bestStep s) (bestStep s (o, m) w)).2 = if (ws.foldl (bestStep s) (bestStep s (o, m) w)).1 = o then m else (w :: ws).find? fun z => decide (s z = (ws.foldl (bestStep s) (bestStep s (o, m) w)).1) := fun e h => by
      rw [e]
      have le := best_le (s := s) ws (o, m)
      have ih := best_mid (s := s) ws o m
      generalize ws.foldl (bestStep s) (o, m) = r at le ih
      by_cases c : r.1 = o
      · rw [ih, if_pos c, if_pos c]
      · rw [ih, if_neg c, if_neg c, List.find?_cons_of_neg]
        intro z
        have z := of_decide_eq_true z
        cases es : s w with
        | none =>
          rw [es] at z
          cases eo : o with
          | none => exact c (by rw [← z, eo])
          | some a =>
            obtain ⟨d, _, hd⟩ := le.1 a eo
            rw [hd] at z
            cases z
        | some d =>
          obtain ⟨a, ea, hle⟩ := h d es
          obtain ⟨d2, hd2, e2⟩ := le.1 a ea
          rw [es, e2] at z
          have z := Option.some.inj z
          exact c (by
            rw [e2, ea, show d2 = a by omega])
    have take : ∀ t, s w = some t → bestStep s (o, m) w = (some t, some w) → (∀ c, o = some c → t < c) → (ws.foldl (bestStep s) (bestStep s (o, m) w)).2 = if (ws.foldl (bestStep s) (bestStep s (o, m) w)).1 = o then m else (w :: ws).find? fun z => decide (s z = (ws.foldl (bestStep s) (bestStep s (o, m) w)).1) := fun t et e h => by
      rw [e]
      have le := (best_le (s := s) ws (some t, some w)).1 t rfl
      have ih := best_mid (s := s) ws (some t) (some w)
      generalize ws.foldl (bestStep s) (some t, some w) = r at le ih
      obtain ⟨d, hd, er⟩ := le
      have no : ¬ r.1 = o := fun z => by
        rw [er] at z
        have := h d z.symm
        omega
      rw [if_neg no, ih]
      by_cases c : r.1 = some t
      · rw [if_pos c, List.find?_cons_of_pos]
        exact decide_eq_true (et.trans c.symm)
      · rw [if_neg c, List.find?_cons_of_neg]
        intro z
        exact c ((of_decide_eq_true z).symm.trans et)
    cases es : s w with
    | none =>
      refine skip (by unfold bestStep; rw [es]) fun d hd => ?_
      rw [es] at hd
      cases hd
    | some t =>
      cases eo : o with
      | none =>
        rw [← eo]
        refine take t es (by unfold bestStep; rw [es, eo]) fun c hc => ?_
        rw [eo] at hc
        cases hc
      | some b =>
        by_cases l : t < b
        · rw [← eo]
          refine take t es (by unfold bestStep; rw [es, eo]; exact if_pos l) fun c hc => ?_
          rw [eo] at hc
          cases hc
          exact l
        · rw [← eo]
          refine skip (by unfold bestStep; rw [es, eo]; exact if_neg l) fun d hd => ⟨b, eo, ?_⟩
          rw [es] at hd
          cases hd
          omega
theorem bestF_two {o : Option Int} {s : Int → Option Int} {ws : List Int} : (bestF o s ws).2 = if (bestF o s ws).1 = o then none else ws.find? fun w => decide (s w = (bestF o s ws).1) := best_mid ws o none
/-- the last of the list from back to front that keeps a test is the first one -/
theorem find_back {p : Int → Bool} : ∀ ws : List Int, ws.reverse.foldl (fun m w => if p w = true then some w else m) none = ws.find? p
  | [] => rfl
  | w :: ws => by
    rw [List.reverse_cons, List.foldl_append, find_back ws, List.foldl_cons, List.foldl_nil]
    cases e : p w with
    | true => rw [List.find?_cons_of_pos e, if_pos rfl]
    | false => rw [List.find?_cons_of_neg (by rw [e]; decide), if_neg (by decide)]
/-- the middle that the law tells -/
def midL (N : Net) (F : Int → Int → Option Int) (lw : List Int) (x y : Int) : Option Int :=
  if F x y ≠ none ∧ linkW N.ls x y ≠ F x y then lw.reverse.foldl (fun m w => if decide (addO (F x w) (F w y) = F x y) = true then some w else m) none else none
theorem mid_best {N : Net} {F : Int → Int → Option Int} {lw : List Int} {x y : Int} (h : F x y = (bestF (linkW N.ls x y) (fun w => addO (F x w) (F w y)) lw).1) : midL N F lw x y = (bestF (linkW N.ls x y) (fun w => addO (F x w) (F w y)) lw).2 := by
  unfold midL
  rw [bestF_two, find_back (p := fun w => decide (addO (F x w) (F w y) = F x y)), h]
  have le := (best_le (s := fun w => addO (F x w) (F w y)) lw (linkW N.ls x y, none)).1
  change ∀ c, linkW N.ls x y = some c → ∃ d, d ≤ c ∧ (bestF (linkW N.ls x y) (fun w => addO (F x w) (F w y)) lw).1 = some d at le
  generalize bestF (linkW N.ls x y) (fun w => addO (F x w) (F w y)) lw = r at le
  by_cases c : r.1 = linkW N.ls x y
  · rw [if_pos c, if_neg (fun z => z.2 c.symm)]
  · rw [if_neg c]
    by_cases d : r.1 = none
    · exfalso
      cases e : linkW N.ls x y with
      | none => exact c (by rw [d, e])
      | some a =>
        obtain ⟨g, _, hg⟩ := le a e
        rw [d] at hg
        cases hg
    · rw [if_pos ⟨d, fun z => c z.symm⟩]
/-- the row of a pair as the law makes it -/
noncomputable def rowL (N : Net) (os : List Int) (F : Int → Int → Option Int) (u v : Int) : Row := ⟨u, v, F u v, F v u, midL N F (lowerL (pairsL N.ls os) os u v) u v, midL N F (lowerL (pairsL N.ls os) os u v) v u⟩
section
variable {N : Net} {os : List Int} {rows : List Row}
theorem row_law (ok : NetOk N) (oo : OrdOk N.n os) (h : FillOk N os rows) {r : Row} (hr : r ∈ rows) : r = rowL N os (prR rows) r.u r.v := by
  obtain ⟨e1, e2⟩ := prR_up ok oo h hr
  have h1 := h.up r hr
  have h2 := h.dn r hr
  have a1 := mid_best (N := N) (F := prR rows) (lw := lowerL (pairsL N.ls os) os r.u r.v) (x := r.u) (y := r.v) (by rw [e1]; exact congrArg Prod.fst h1)
  have a2 := mid_best (N := N) (F := prR rows) (lw := lowerL (pairsL N.ls os) os r.u r.v) (x := r.v) (y := r.u) (by rw [e2]; exact congrArg Prod.fst h2)
  unfold rowL
  rw [a1, a2, ← h1, ← h2, e1, e2]
theorem rows_law (ok : NetOk N) (oo : OrdOk N.n os) (h : FillOk N os rows) : rows = (pairsL N.ls os).map fun p => rowL N os (leastL N os) p.1 p.2 := by
  have hp : rows.map prOf = pairsL N.ls os := h.pairs
  rw [← hp, List.map_map]
  refine (List.map_id rows).symm.trans (List.map_congr_left fun r hr => ?_)
  show r = rowL N os (leastL N os) r.u r.v
  have e := row_law ok oo h hr
  have pp := h.pair ok oo hr
  obtain ⟨q1, q2⟩ := least_pair ok oo h pp
  have lw : ∀ w ∈ lowerL (pairsL N.ls os) os r.u r.v, ∀ z, (z = r.u ∨ z = r.v) → leastL N os z w = prR rows z w ∧ leastL N os w z = prR rows w z := fun w hw z hz => by
    have hm := mem_lowerL.mp hw
    have hwz : (w, z) ∈ pairsL N.ls os := by
      rcases hz with rfl | rfl
      · exact hm.2.1
      · exact hm.2.2
    have := least_pair ok oo h ((mem_pairsL ok oo).mp hwz)
    exact ⟨this.2, this.1⟩
  have md : ∀ x y, (x = r.u ∨ x = r.v) → (y = r.u ∨ y = r.v) → leastL N os x y = prR rows x y → midL N (leastL N os) (lowerL (pairsL N.ls os) os r.u r.v) x y = midL N (prR rows) (lowerL (pairsL N.ls os) os r.u r.v) x y := fun x y hx hy e => by
    unfold midL
    rw [e]
    have gen : ∀ (ws : List Int) (a : Option Int), (∀ w ∈ ws, w ∈ lowerL (pairsL N.ls os) os r.u r.v) → ws.foldl (fun m w => if decide (addO (leastL N os x w) (leastL N os w y) = prR rows x y) = true then some w else m) a = ws.foldl (fun m w => if decide (addO (prR rows x w) (prR rows w y) = prR rows x y) = true then some w else m) a := by
      intro ws
      induction ws with
      | nil => intro a _; rfl
      | cons w ws ih =>
        intro a hw
        have h1 := (lw w (hw w List.mem_cons_self) x hx).1
        have h2 := (lw w (hw w List.mem_cons_self) y hy).2
        rw [List.foldl_cons, List.foldl_cons, h1, h2]
        exact ih _ fun z hz => hw z (List.mem_cons_of_mem _ hz)
    rw [gen _ _ fun w hw => List.mem_reverse.mp hw]
  refine e.trans ?_
  unfold rowL
  rw [q1, q2, md r.u r.v (.inl rfl) (.inr rfl) q1, md r.v r.u (.inr rfl) (.inl rfl) q2]
/-- the lower places of a pair are those, of all places ahead of it, that have ways to both -/
theorem lower_take (ok : NetOk N) (oo : OrdOk N.n os) {u v : Int} (hp : PairP N.ls os u v) : lowerL (pairsL N.ls os) os u v = (os.take (posOf u os)).filter fun w => decide ((w, u) ∈ pairsL N.ls os) && decide ((w, v) ∈ pairsL N.ls os) := by
  have hu := oo.mem.mpr (hp.ins ok).1
  unfold lowerL
  have e : os = os.take (posOf u os) ++ os.drop (posOf u os) := (List.take_append_drop _ _).symm
  have key : (os.drop (posOf u os)).filter (fun w => decide ((w, u) ∈ pairsL N.ls os) && decide ((w, v) ∈ pairsL N.ls os)) = [] := by
    rw [List.filter_eq_nil_iff]
    intro w hw z
    rw [Bool.and_eq_true, decide_eq_true_eq, decide_eq_true_eq] at z
    have hl := ((mem_pairsL ok oo).mp z.1).1
    obtain ⟨k, hk, ek⟩ := List.getElem_of_mem hw
    rw [List.getElem_drop] at ek
    rw [List.length_drop] at hk
    have := posOf_get oo.nodup (i := posOf u os + k) (x := w) (by rw [← ek]; exact List.getElem?_eq_getElem (by omega))
    omega
  have e2 : os.filter (fun w => decide ((w, u) ∈ pairsL N.ls os) && decide ((w, v) ∈ pairsL N.ls os)) = (os.take (posOf u os) ++ os.drop (posOf u os)).filter (fun w => decide ((w, u) ∈ pairsL N.ls os) && decide ((w, v) ∈ pairsL N.ls os)) := congrArg (List.filter _) e
  rw [e2, List.filter_append, key, List.append_nil]
/-- by triangles: over all places ahead, those without ways are skipped -/
theorem tri_best (ok : NetOk N) (oo : OrdOk N.n os) {u v : Int} (hp : PairP N.ls os u v) {o : Option Int} {s : Int → Option Int} (hs : ∀ w, ¬ ((w, u) ∈ pairsL N.ls os ∧ (w, v) ∈ pairsL N.ls os) → w ∈ os.take (posOf u os) → s w = none) : bestF o s (os.take (posOf u os)) = bestF o s (lowerL (pairsL N.ls os) os u v) := by
  rw [lower_take ok oo hp]
  unfold bestF
  refine foldl_skip _ _ fun w hw hf => hs w (fun z => ?_) hw
  rw [decide_eq_true z.1, decide_eq_true z.2] at hf
  cases hf
end
theorem fill_same12 {N : Net} {os : List Int} (ok : NetOk N) (oo : OrdOk N.n os) {r1 r2 : List Row} (h1 : FillOk N os r1) (h2 : FillOk N os r2) : r1 = r2 := by
  have f1 := (fill_iff ok oo).mp h1
  have f2 := (fill_iff ok oo).mp h2
  have hp := f1.1.trans f2.1.symm
  have hl : r1.length = r2.length := by
    have := congrArg List.length hp
    rw [List.length_map, List.length_map] at this
    exact this
  have gen : ∀ k, r1.take k = r2.take k := by
    intro k
    induction k with
    | zero => rw [List.take_zero, List.take_zero]
    | succ k ih =>
      by_cases hk : k < r1.length
      · have g1 : r1[k]? = some r1[k] := List.getElem?_eq_getElem hk
        have g2 : r2[k]? = some (r2[k]'(by omega)) := List.getElem?_eq_getElem (by omega)
        generalize r1[k] = a at g1
        generalize r2[k]'(by omega) = b at g2
        have e1 := f1.2 k a g1
        have e2 := f2.2 k b g2
        have m1 : (r1.map prOf)[k]? = some (prOf a) := by rw [List.getElem?_map, g1] <;> rfl
        have m2 : (r2.map prOf)[k]? = some (prOf b) := by rw [List.getElem?_map, g2] <;> rfl
        have ep : prOf a = prOf b := by
          rw [hp, m2] at m1
          exact (Option.some.inj m1).symm
        have eu : a.u = b.u := congrArg Prod.fst ep
        have ev : a.v = b.v := congrArg Prod.snd ep
        have eab : a = b := e1.trans ((by rw [ih, eu, ev] : mkRow N os (pairsL N.ls os) (r1.take k) a.u a.v = mkRow N os (pairsL N.ls os) (r2.take k) b.u b.v).trans e2.symm)
        rw [take_snoc g1, take_snoc g2, ih, eab]
      · rw [List.take_of_length_le (by omega), List.take_of_length_le (by omega)] at ih
        rw [ih]
  have := gen r1.length
  rw [List.take_length, hl, List.take_length] at this
  exact this
/-! ### the law's least sum over lower places -/
def spLeast (K : PySem.W.Frag) : Sp := fun vs H Q _ => ∃ (v : V) (N : Net) (po : Addr) (os : List Int) (x y : Int), vs = [v, .ref po, .int x, .int y] ∧ Dp K H v (netD N) ∧ NetOk N ∧ SqL K H po (os.map V.int) ∧ OrdOk N.n os ∧ (0 ≤ x ∧ x < N.n) ∧ (0 ≤ y ∧ y < N.n) ∧
  ∀ H', Same H H' → Q (oV (leastL N os x y)) H'
theorem vl_indexL {K : PySem.W.Frag} {σ : L2.St} {H : Hp} {a : Addr} {os : List Int} {x : Int} {ta tb : TE} {i : Nat} (h1 : Vl ta σ H (.ref a)) (h2 : Vl tb σ H (.int x)) (ha : SqL K H a (os.map V.int)) (nd : os.Nodup) (hi : os[i]? = some x) : Vl (tBM K "list" (rIndex K) ta (tCons tb tNil)) σ H (.int (i : Nat)) := fun Q q =>
  h1 _ ⟨.inl ⟨rfl, _, ha⟩, h2 _ ⟨a, os.map V.int, .int x, i, .int x, rfl, rfl, ha, rfl, flat_ints os, by rw [List.getElem?_map, hi]; rfl, beq_self_eq_true x, fun m z hm hz => by
    rw [List.getElem?_map] at hz
    cases hg : os[m]? with
    | none =>
      rw [hg] at hz
      cases hz
    | some y =>
      rw [hg] at hz
      cases hz
      show (y == x) = false
      refine beq_eq_false_iff_ne.mpr fun e => ?_
      subst e
      have h1 := (List.getElem?_eq_some_iff.mp hi).1
      have := (List.getElem?_inj h1 nd).mp (hi.trans hg.symm)
      omega, q⟩⟩
/-- [order.index(k) for k in range(n)] -/
theorem vn_ranksR {K : PySem.W.Frag} {σ : L2.St} {H : Hp} {tr : TA} {to : TE} {po : Addr} {n : Int} {os : List Int} {j : Nat} (hj : j < σ.length) (n0 : 0 ≤ n) (n40 : n ≤ 1000) (oo : OrdOk n os) (hl : Va tr σ H [.int n]) (ho : ∀ H', Same H H' → ∀ z, Vl to ((σ.set j none).set j (some z)) H' (.ref po)) (hpo : SqL K H po (os.map V.int)) :
    Vn (tLc (iRng1 tr) (gName j) tYes (tBM K "list" (rIndex K) to (tCons (tVar j) tNil)) [j]) σ H ((rng n).map fun z => V.int (posOf z os : Nat)) :=
  vn_lcRV hl n0 (by omega) fun x h0 h1 H' s' => by
    have hjl : ((σ.set j none).set j (some (V.int x)))[j]? = some (some (V.int x)) := List.getElem?_set_self (by rw [List.length_set]; exact hj)
    exact ve_of (vl_indexL (K := K) (ho _ s' _) (vl_var hjl) (s'.seq hpo) oo.nodup (posOf_lt (oo.mem.mpr ⟨h0, h1⟩)))
abbrev sLeast : Stmt := topS 26
theorem scLeast : FnScope ["net", "order", "x", "y", "rank", "bound", "best", "turn", "a", "b", "there", "back", "p", "q", "price", "k"] ["net", "order", "x", "y"] (defScope sLeast) := ⟨rfl, rfl, rfl, by decide +kernel, rfl, by decide +kernel, by decide +kernel⟩
section
variable {P : Program} {w : World} {K : PySem.W.Frag} {mg : Str → Option Value} {base : Heap}
theorem ok_least {f : Addr} {fd : FuncData} {k : Nat} (F : Fun K "_law_least" "_law_least" sLeast f fd) (mr : mg "range" = none) (mm : mg "min" = none) : FnOk P w K mg base CX0 (k + 1) f fd ["net", "order", "x", "y"] (spLeast K) := by
  refine F.ok scLeast (fun vs H Q E h => ?_) (fun cdv A outer s H vs Q E hr h => ?_)
  · obtain ⟨v, N, po, os, x, y, rfl, _⟩ := h
    rfl
  · obtain ⟨v, N, po, os, sx, sy, rfl, hN, ok, hpo, oo, hs, hz, q⟩ := h
    have hu := hu_of hr
    refine ⟨_, pss_cons (ps_setLc (i := 4) (own := [("k", 15)]) (g := gName 15) (tt := tYes) (te := (tBM K "list" (rIndex K) (tVar 1) (tCons (tVar 15) tNil))) (by rfl) scLeast.nd rfl rfl (sw_true rfl rfl rfl (by decide +kernel)) (pi_range1 (by rfl) mr (pa_cons (pe_ix ix_tup (pv 0) pe_int (fun _ _ => rfl)) pa_nil)) (blkOk_by (own := [("k", 15)]) (N := ["net", "order", "x", "y", "rank", "bound", "best", "turn", "a", "b", "there", "back", "p", "q", "price", "k"]) (sc := defScope sLeast) (by decide +kernel)) (fun _ _ _ _ _ => pg_name (i := 15) scLeast.nd rfl (Or.inl rfl)) (fun _ _ _ _ _ => by exact pts_nil) (fun _ _ _ _ _ => by exact (pe_bm PySem.F.plainAttrs_list PySem.F.slot_list_index PySem.F.type_list_index mt_index (pv 1) (pa_cons (pv 15) pa_nil))))
      (pss_cons (ps_set (i := 5) scLeast.nd rfl (.inl rfl) (pe_callB (call_min2 rfl) (by rfl) mm (by decide +kernel) (pa_cons (pe_ix ix_list (pv 4) (pv 2) (fun _ _ => rfl)) (pa_cons (pe_ix ix_list (pv 4) (pv 3) (fun _ _ => rfl)) pa_nil))))
      (pss_cons (ps_setLc (i := 6) (own := [("k", 15)]) (g := gName 15) (tt := tYes) (te := (tC .non)) (by rfl) scLeast.nd rfl rfl (sw_true rfl rfl rfl (by decide +kernel)) (pi_range1 (by rfl) mr (pa_cons (pe_ix ix_tup (pv 0) pe_int (fun _ _ => rfl)) pa_nil)) (blkOk_by (own := [("k", 15)]) (N := ["net", "order", "x", "y", "rank", "bound", "best", "turn", "a", "b", "there", "back", "p", "q", "price", "k"]) (sc := defScope sLeast) (by decide +kernel)) (fun _ _ _ _ _ => pg_name (i := 15) scLeast.nd rfl (Or.inl rfl)) (fun _ _ _ _ _ => by exact pts_nil) (fun _ _ _ _ _ => by exact pe_non))
      (pss_cons (ps_asg pe_int (pg_sub (pv 6) (pv 2) set_list))
      (pss_cons (ps_for PassesOwn.never rfl (pi_range1 (by rfl) mr (pa_cons (pe_ix ix_tup (pv 0) pe_int (fun _ _ => rfl)) pa_nil)) (pg_name (i := 7) scLeast.nd rfl (.inl rfl))
      (pss_one (ps_for PassesOwn.never rfl (pi_list (pe_ix ix_tup (pv 0) pe_int (fun _ _ => rfl))) (pg_tup rfl (pgs_cons (pg_name (i := 8) scLeast.nd rfl (.inl rfl)) (pgs_cons (pg_name (i := 9) scLeast.nd rfl (.inl rfl)) (pgs_cons (pg_name (i := 10) scLeast.nd rfl (.inl rfl)) (pgs_cons (pg_name (i := 11) scLeast.nd rfl (.inl rfl)) pgs_nil)))))
        (pss_one (ps_for PassesOwn.never rfl (pi_list (pe_lst (pa_cons (pe_tup (pa_cons (pv 8) (pa_cons (pv 9) (pa_cons (pv 10) pa_nil)))) (pa_cons (pe_tup (pa_cons (pv 9) (pa_cons (pv 8) (pa_cons (pv 11) pa_nil)))) pa_nil)))) (pg_tup rfl (pgs_cons (pg_name (i := 12) scLeast.nd rfl (.inl rfl)) (pgs_cons (pg_name (i := 13) scLeast.nd rfl (.inl rfl)) (pgs_cons (pg_name (i := 14) scLeast.nd rfl (.inl rfl)) pgs_nil))))
          (pss_one (ps_if (PW.pt (pw_and (pt_cmpR op_notN (pv 14) pe_non (nomark _)) (pw_and (pt_cmpR op_notN (pe_ix ix_list (pv 6) (pv 12) (fun _ _ => rfl)) pe_non (nomark _)) (pw_and1 (PW.pt (pw_or (pt_cmpR op_eq (pv 12) (pv 2) (nomark _)) (pw_or1 (pt_cmpR op_lt (pe_ix ix_list (pv 4) (pv 12) (fun _ _ => rfl)) (pv 5) (nomark _)))))))))
            (pss_one (ps_if (PW.pt (pw_or (pt_cmpR op_isN (pe_ix ix_list (pv 6) (pv 13) (fun _ _ => rfl)) pe_non (nomark _)) (pw_or1 (pt_cmpR op_lt (pe_op op_add (pe_ix ix_list (pv 6) (pv 12) (fun _ _ => rfl)) (pv 14)) (pe_ix ix_list (pv 6) (pv 13) (fun _ _ => rfl)) (nomark _)))))
              (pss_one (ps_asg (pe_op op_add (pe_ix ix_list (pv 6) (pv 12) (fun _ _ => rfl)) (pv 14)) (pg_sub (pv 6) (pv 13) set_list)))
              pss_nil))
            pss_nil)))))))
      (pss_one (ps_ret (pe_ix ix_list (pv 6) (pv 3) (fun _ _ => rfl)))))))), ?_⟩
    obtain ⟨p, c, xs, rfl, hp, hc, hx⟩ := Dp.net_inv hN
    have n40 := ok.n40
    have n1 := ok.n1
    -- rank
    refine q_asgN (vn_ranksR (K := K) (by show 15 < 16; decide) (by omega) (by omega) oo (va_cons (vl_ixT (K := K) (vl_var rfl) vl_c hp (atI_nat (j := 0) rfl)) va_nil) (fun _ _ _ => vl_var rfl) hpo) fun rk H0 s0 nrk erk => ?_
    have grk : ∀ z, (0 ≤ z ∧ z < N.n) → atI ((rng N.n).map fun z => V.int (posOf z os : Nat)) z = some (V.int (posOf z os : Nat)) := fun z hz => rng_at (g := fun z => V.int (posOf z os : Nat)) hz
    -- bound
    refine q_asg ((vl_min2 (vl_ixL (vl_var rfl) (vl_var rfl) (.of erk) (grk sx hs)) (vl_ixL (vl_var rfl) (vl_var rfl) (.of erk) (grk sy hz))).is (w := .int ((min (posOf sx os) (posOf sy os) : Nat) : Int)) (congrArg V.int (by
      split <;> omega))) ?_
    -- best
    refine q_asgN (vn_lcRV (f := fun _ => V.non) (va_cons (vl_ixT (K := K) (vl_var rfl) vl_c (seqT s0 hp) (atI_nat (j := 0) rfl)) va_nil) (by omega) (by omega) (fun x _ _ H' s' => ve_of vl_c)) fun o H1 s1 no ho => ?_
    obtain ⟨sn, rfl⟩ := Int.eq_ofNat_of_zero_le hs.1
    refine q_setE (k := sn) (ve_of vl_c) (fun _ _ => vl_var rfl) (fun _ _ => vl_var rfl) ho (by rw [List.length_map, len_rng]; omega) fun H1' s1' => ?_
    have s01 : Same H0 (but (upd H1' o (.lst (((rng N.n).map fun _ => V.non).set sn (.int 0)))) o) := by
      rw [but_upd]
      exact same_but (s1.trans s1') no
    have ho1 : upd H1' o (.lst (((rng N.n).map fun _ => V.non).set sn (.int 0))) o = some (.lst ((rng N.n).map fun z => oV (bf0 (sn : Int) z))) := by
      rw [upd_same, rng_set]
      congr 3
      funext z
      unfold updF bf0
      split <;> rfl
    generalize upd H1' o (.lst (((rng N.n).map fun _ => V.non).set sn (.int 0))) = H2 at s01 ho1
    obtain ⟨ext, hext⟩ : ∃ ext, ext = loB os (sn : Int) sy := ⟨_, rfl⟩
    have hexv : ∀ x, ext x = (decide (x = (sn : Int)) || decide (posOf x os < min (posOf (sn : Int) os) (posOf sy os))) := fun x => by
      rw [hext]
      rfl
    have hp0 := seqT s0 hp
    have hc0 := s0.seq hc
    have hx0 := DpAll.to hx s0
    generalize hbd : min (posOf (sn : Int) os) (posOf sy os) = bd at hexv
    refine q_forR (n := N.n) (va_cons (vl_ixT (K := K) (vl_var rfl) vl_c (seqT (s01.trans but_same) hp0) (atI_nat (j := 0) rfl)) va_nil) ⟨by omega, by omega⟩
      (fun i σ H3 => ∃ y4 y5 y6 y7 y8 y9 y10 y11, σ = [some (.ref p), some (.ref po), some (.int (sn : Int)), some (.int sy), some (.ref rk), some (.int (bd : Int)), some (.ref o), y4, y5, y6, y7, y8, y9, y10, y11, none] ∧ Same H0 (but H3 o) ∧ H3 o = some (.lst ((rng N.n).map fun z => oV (bf ext N.ls sn i z))))
      ⟨_, _, _, _, _, _, _, _, by rw [← hbd]; rfl, s01, ho1⟩ (fun i σ H3 hi hP => ?_) (fun σ H3 hP => ?_)
    · obtain ⟨y4, y5, y6, y7, y8, y9, y10, y11, rfl, s3, ho⟩ := hP
      refine g_forLnk (j1 := 8) (j2 := 9) (j3 := 10) (j4 := 11) (Hb := H0) (vl_ixT (K := K) (vl_var rfl) vl_c (seqT (s3.trans but_same) hp0) (atI_nat (j := 1) rfl)) hc0 hx0 (s3.trans but_same)
        (fun j σ H4 => ∃ y5 y6 y7 y8 y9 y10 y11, σ = [some (.ref p), some (.ref po), some (.int (sn : Int)), some (.int sy), some (.ref rk), some (.int (bd : Int)), some (.ref o), some (.int (i : Int)), y5, y6, y7, y8, y9, y10, y11, none] ∧ Same H0 (but H4 o) ∧ H4 o = some (.lst ((rng N.n).map fun z => oV ((N.ls.take j).foldl (rlxL ext) (bf ext N.ls sn i) z))))
        ⟨_, _, _, _, _, _, _, rfl, s3, ho⟩ (fun j σ H4 hP => ?_) (fun j l σ H4 hj hP => ?_) (fun σ H4 hP => ?_)
      · obtain ⟨_, _, _, _, _, _, _, _, s4, _⟩ := hP
        exact s4.trans but_same
      · obtain ⟨y5, y6, y7, y8, y9, y10, y11, rfl, s4, ho⟩ := hP
        rw [take_snoc hj, List.foldl_append, List.foldl_cons, List.foldl_nil]
        have lo := ok.ok l (List.mem_of_getElem? hj)
        have a0 := lo.a0
        have ab := lo.ab
        have bn := lo.bn
        generalize (N.ls.take j).foldl (rlxL ext) (bf ext N.ls sn i) = f0 at ho
        refine g_for3L (K := K) (d1 := (l.a, l.b, l.t)) (d2 := (l.b, l.a, l.k)) (vl_var rfl) (vl_var rfl) (vl_var rfl) (fun _ _ => vl_var rfl) (fun _ _ => vl_var rfl) (fun _ _ => vl_var rfl) fun L T1 T2 H5 s5 eL e1 e2 => ?_
        have oL : L ≠ o := fun e => by
          rw [e, s5 _ _ ho] at eL
          injection eL with eL
          injection eL with eL
          have := congrArg List.length eL
          rw [List.length_map, len_rng] at this
          have h0 : ((rng N.n).map fun z => oV (f0 z))[0]? = some (V.ref T1) := by
            rw [eL]
            rfl
          rw [List.getElem?_map, rngG (by omega)] at h0
          have h0 : some (oV (f0 (0 : Nat))) = some (V.ref T1) := h0
          cases e : f0 (0 : Nat) with
          | none => rw [e] at h0; cases h0
          | some z => rw [e] at h0; cases h0
        have oT1 : T1 ≠ o := fun e => by
          rw [e, s5 _ _ ho] at e1
          cases e1
        have oT2 : T2 ≠ o := fun e => by
          rw [e, s5 _ _ ho] at e2
          cases e2
        refine g_for3 (K := K) (Hb := but H5 o) (L := L) (T1 := T1) (T2 := T2) (d1 := (l.a, l.b, l.t)) (d2 := (l.b, l.a, l.k)) (by rw [but_ne oL]; exact eL) (by rw [but_ne oT1]; exact e1) (by rw [but_ne oT2]; exact e2)
          (fun m σ H6 => ∃ y9 y10 y11, σ = [some (.ref p), some (.ref po), some (.int (sn : Int)), some (.int sy), some (.ref rk), some (.int (bd : Int)), some (.ref o), some (.int (i : Int)), some (.int l.a), some (.int l.b), some (oV l.t), some (oV l.k), y9, y10, y11, none] ∧ Same (but H5 o) (but H6 o) ∧ H6 o = some (.lst ((rng N.n).map fun z => oV (([(l.a, l.b, l.t), (l.b, l.a, l.k)].take m).foldl (fun f d => rlx ext f d.1 d.2.1 d.2.2) f0 z))))
          ⟨_, _, _, rfl, Same.refl _, s5 _ _ ho⟩ (fun m σ H6 hP => ?_) (fun m d σ H6 hm hP => ?_) (fun σ H6 hP => ?_)
        · obtain ⟨_, _, _, _, s6, _⟩ := hP
          exact s6.trans but_same
        · obtain ⟨y9, y10, y11, rfl, s6, ho⟩ := hP
          rw [take_snoc hm, List.foldl_append, List.foldl_cons, List.foldl_nil]
          generalize ([(l.a, l.b, l.t), (l.b, l.a, l.k)].take m).foldl (fun f d => rlx ext f d.1 d.2.1 d.2.2) f0 = g at ho
          have hd : (0 ≤ d.1 ∧ d.1 < N.n) ∧ (0 ≤ d.2.1 ∧ d.2.1 < N.n) := by
            have := List.mem_of_getElem? hm
            simp only [List.mem_cons, List.not_mem_nil, or_false] at this
            rcases this with e | e <;> rw [e] <;> dsimp only <;> omega
          obtain ⟨x, y, pr⟩ := d
          dsimp only at hd ⊢
          have s06 : Same H0 (but H6 o) := s4.trans ((but_mono s5).trans s6)
          have erk6 := (s06.trans but_same) _ _ erk
          let st : L2.St := [some (.ref p), some (.ref po), some (.int (sn : Int)), some (.int sy), some (.ref rk), some (.int (bd : Int)), some (.ref o), some (.int (i : Int)), some (.int l.a), some (.int l.b), some (oV l.t), some (oV l.k), some (.int x), some (.int y), some (oV pr), none]
          have gx : Vl (tOp (rIxL K) (tVar 6) (tVar 12)) st H6 (oV (g x)) := vl_ixL (vl_var rfl) (vl_var rfl) (.of ho) (rng_at (g := fun z => oV (g z)) hd.1)
          have gy : Vl (tOp (rIxL K) (tVar 6) (tVar 13)) st H6 (oV (g y)) := vl_ixL (vl_var rfl) (vl_var rfl) (.of ho) (rng_at (g := fun z => oV (g z)) hd.2)
          have gr : Vl (tOp (rIxL K) (tVar 4) (tVar 12)) st H6 (.int (posOf x os : Nat)) := vl_ixL (vl_var rfl) (vl_var rfl) (.of erk6) (grk x hd.1)
          have ge : An (tOr (tTest (tOp rEq (tVar 12) (tVar 2))) (tTest (tOp (rI0 fun i j => .bl (decide (i < j))) (tOp (rIxL K) (tVar 4) (tVar 12)) (tVar 5)))) st H6 (ext x) := by
            rw [hexv]
            refine an_or (k := decide (x = (sn : Int))) (m := decide (posOf x os < bd)) (an_test ((vl_eq (vl_var rfl) (vl_var rfl) rfl).is (congrArg V.bl ?_))) fun _ => an_test ((vl_I0 (g := fun i j => .bl (decide (i < j))) gr (vl_var rfl)).is (congrArg V.bl ?_))
            · rw [decide_eq_decide]
              exact ⟨fun e => V.int.inj e, fun e => by rw [e]⟩
            · rw [decide_eq_decide]
              exact Int.ofNat_lt
          have same : rlx ext g x y pr = g → ∃ y9 y10 y11, st = [some (.ref p), some (.ref po), some (.int (sn : Int)), some (.int sy), some (.ref rk), some (.int (bd : Int)), some (.ref o), some (.int (i : Int)), some (.int l.a), some (.int l.b), some (oV l.t), some (oV l.k), y9, y10, y11, none] ∧ Same (but H5 o) (but H6 o) ∧ H6 o = some (.lst ((rng N.n).map fun z => oV (rlx ext g x y pr z))) := fun e => ⟨_, _, _, rfl, s6, by rw [e]; exact ho⟩
          refine g_when (b := pr.isSome && ((g x).isSome && ext x)) (an_and (k := pr.isSome) (m := (g x).isSome && ext x) (an_test ((vl_notN (vl_var rfl)).is (by cases pr <;> rfl))) fun _ => an_and (k := (g x).isSome) (m := ext x) (an_test ((vl_notN gx).is (by cases g x <;> rfl))) fun _ => ge) (fun hb => ?_) (fun hb => ?_)
          · rw [Bool.and_eq_true, Bool.and_eq_true] at hb
            obtain ⟨h1, h2, h3⟩ := hb
            obtain ⟨pv_, rfl⟩ := Option.isSome_iff_exists.mp h1
            obtain ⟨b, egx⟩ := Option.isSome_iff_exists.mp h2
            rw [egx] at gx
            have put : rlx ext g x y (some pv_) = updF g y (some (b + pv_)) → tAsg (tOp (rI0 fun i j => .int (i + j)) (tOp (rIxL K) (tVar 6) (tVar 12)) (tVar 14)) (gSub (tVar 6) (tVar 13) rSetL) { nx := fun σ H7 => ∃ y9 y10 y11, σ = [some (.ref p), some (.ref po), some (.int (sn : Int)), some (.int sy), some (.ref rk), some (.int (bd : Int)), some (.ref o), some (.int (i : Int)), some (.int l.a), some (.int l.b), some (oV l.t), some (oV l.k), y9, y10, y11, none] ∧ Same (but H5 o) (but H7 o) ∧ H7 o = some (.lst ((rng N.n).map fun z => oV (rlx ext g x y (some pv_) z))), rt := fun _ _ => True, bk := fun _ _ => True, ct := fun _ _ => True } st H6 := fun e => by
              obtain ⟨yn, rfl⟩ := Int.eq_ofNat_of_zero_le hd.2.1
              refine g_setE (k := yn) (v := .int (b + pv_)) (ve_of (vl_I0 gx (vl_var rfl))) (fun _ _ => vl_var rfl) (fun _ _ => vl_var rfl) ho (by rw [List.length_map, len_rng]; omega) fun H7 s7 => ⟨_, _, _, rfl, ?_, ?_⟩
              · rw [but_upd]
                exact s6.trans (but_mono s7)
              · rw [upd_same, rng_set, e]
                congr 3
                rw [map_updF]
                rfl
            cases egy : g y with
            | none =>
              rw [egy] at gy
              refine g_when (b := true) (an_or (k := true) (m := true) (an_test ((vl_isN gy).is rfl)) fun h => by cases h) (fun _ => ?_) (fun h => by cases h)
              refine put ?_
              unfold rlx
              rw [egx, egy]
              exact if_pos h3
            | some d2 =>
              rw [egy] at gy
              refine g_when (b := decide (b + pv_ < d2)) ((an_or (k := false) (m := decide (b + pv_ < d2)) (an_test ((vl_isN gy).is rfl)) fun _ => an_test (vl_I0 (g := fun i j => .bl (decide (i < j))) (vl_I0 gx (vl_var rfl)) gy)).is (Bool.false_or _)) (fun h => ?_) (fun h => ?_)
              · refine put ?_
                unfold rlx
                rw [egx, egy]
                show (if ext x then (if b + pv_ < d2 then _ else _) else _) = _
                rw [if_pos h3, if_pos (of_decide_eq_true h)]
              · refine same ?_
                unfold rlx
                rw [egx, egy]
                show (if ext x then (if b + pv_ < d2 then _ else _) else _) = _
                rw [if_pos h3, if_neg (of_decide_eq_false h)]
          · refine same ?_
            unfold rlx
            cases pr with
            | none => rfl
            | some pv_ =>
              cases egx : g x with
              | none => rfl
              | some b =>
                rw [egx] at hb
                have hb : ext x = false := hb
                show (if ext x then _ else _) = _
                rw [hb]
                rfl
        · obtain ⟨y9, y10, y11, rfl, s6, ho⟩ := hP
          exact ⟨_, _, _, _, _, _, _, rfl, s4.trans ((but_mono s5).trans s6), ho⟩
      · obtain ⟨y5, y6, y7, y8, y9, y10, y11, rfl, s4, ho⟩ := hP
        rw [List.take_length] at ho
        exact ⟨_, _, _, _, _, _, _, _, rfl, s4, ho⟩
    · obtain ⟨y4, y5, y6, y7, y8, y9, y10, y11, rfl, s3, ho⟩ := hP
      have e : leastL N os (sn : Int) sy = bf ext N.ls sn N.n.toNat sy := by
        rw [hext]
        rfl
      exact g_ret ((vl_ixL (vl_var rfl) (vl_var rfl) (.of ho) (rng_at (g := fun z => oV (bf ext N.ls sn N.n.toNat z)) hz)).is (by rw [e])) (q H3 (s0.trans (s3.trans but_same)))
end
/-! ### the law's own filling -/
def spFillL (K : PySem.W.Frag) : Sp := fun vs H Q _ => ∃ (v : V) (N : Net) (p : Addr) (os : List Int), vs = [v, .ref p] ∧ Dp K H v (netD N) ∧ NetOk N ∧ SqL K H p (os.map V.int) ∧ OrdOk N.n os ∧
  ∀ H' q ts, Same H H' → H q = none → H' q = some (.lst ts) → RowsT H' ts ((pairsL N.ls os).map fun p => rowL N os (leastL N os) p.1 p.2) → Q (.ref q) H'
/-- the dict of prices, told by a function -/
structure PrF (kvs : List (List L2.Key × V)) (L : List (Int × Int)) (F : Int → Int → Option Int) : Prop where
  len : kvs.length ≤ 2 * L.length
  at_ : ∀ x y : Int, ((x, y) ∈ L ∨ (y, x) ∈ L) → valV kvs (K2 (x, y)) = some (oV (F x y))
theorem PrF.nil {F : Int → Int → Option Int} : PrF [] [] F := ⟨Nat.le_refl _, fun x y h => by rcases h with h | h <;> cases h⟩
theorem PrF.step {kvs : List (List L2.Key × V)} {L : List (Int × Int)} {F : Int → Int → Option Int} {u v : Int} (h : PrF kvs L F) : PrF (putK (putK kvs [.inl u, .inl v] (oV (F u v))) [.inl v, .inl u] (oV (F v u))) (L ++ [(u, v)]) F := by
  refine ⟨?_, fun x y hxy => ?_⟩
  · have h1 := put_len (kvs := putK kvs (K2 (u, v)) (oV (F u v))) (k := K2 (v, u)) (v := oV (F v u))
    have h2 := put_len (kvs := kvs) (k := K2 (u, v)) (v := oV (F u v))
    have h3 := h.len
    rw [List.length_append]
    show _ ≤ 2 * (_ + 1)
    exact Nat.le_trans h1 (by omega)
  · show valV (putK (putK kvs (K2 (u, v)) (oV (F u v))) (K2 (v, u)) (oV (F v u))) (K2 (x, y)) = _
    rw [valV_put, valV_put]
    by_cases c1 : (x, y) = (v, u)
    · cases c1
      exact if_pos rfl
    · rw [if_neg (fun z => c1 (K2_inj (p := (x, y)) (q := (v, u)) z))]
      by_cases c2 : (x, y) = (u, v)
      · cases c2
        exact if_pos rfl
      · rw [if_neg (fun z => c2 (K2_inj (p := (x, y)) (q := (u, v)) z))]
        refine h.at_ x y (hxy.imp (fun e => ?_) fun e => ?_)
        · rcases List.mem_append.mp e with e | e
          · exact e
          · exact absurd (List.mem_singleton.mp e) c2
        · rcases List.mem_append.mp e with e | e
          · exact e
          · have e := List.mem_singleton.mp e
            exact absurd (Prod.ext (congrArg Prod.snd e) (congrArg Prod.fst e)) c1
section
variable {K : PySem.W.Frag} {σ : L2.St} {H : Hp} {D : Ends} {tz tw : TS} {te td ta tb t0 t1 t2 t3 t4 t5 u0 u1 : TE}
theorem q_dputE12 {v : V} {o : Addr} {kvs : List (List L2.Key × V)} {y1 y2 : Int} (hv : Ve te σ H v) (ho : ∀ H', Same H H' → Vl td σ H' (.ref o)) (h1 : ∀ H', Same H H' → Vl ta σ H' (.int y1)) (h2 : ∀ H', Same H H' → Vl tb σ H' (.int y2)) (hd : H o = some (.dT kvs)) (hl : kvs.length < sizeLine)
    (k : ∀ T H', Same H H' → H' T = none → o ≠ T → tw D σ (upd (upd H' T (.tup [.int y1, .int y2])) o (.dT (putK kvs [.inl y1, .inl y2] v)))) : tSeq (sDPut td (tTup (tCons ta (tCons tb tNil))) te) tw D σ H :=
  hv _ fun H' s' => (ho H' s') _ ((h1 H' s') _ ((h2 H' s') _ ⟨by show 2 ≤ sizeLine; decide, fun T nT => by
    have hd' := s' _ _ hd
    have oT : o ≠ T := ne_of_none hd' nT
    exact ⟨o, _, rfl, DPut.t (k := [.inl y1, .inl y2]) (by rw [upd_ne oT]; exact hd') upd_same hl, k T H' s' nT oT⟩⟩))
theorem g_dputE12 {v : V} {o : Addr} {kvs : List (List L2.Key × V)} {y1 y2 : Int} (hv : Ve te σ H v) (ho : ∀ H', Same H H' → Vl td σ H' (.ref o)) (h1 : ∀ H', Same H H' → Vl ta σ H' (.int y1)) (h2 : ∀ H', Same H H' → Vl tb σ H' (.int y2)) (hd : H o = some (.dT kvs)) (hl : kvs.length < sizeLine)
    (k : ∀ T H', Same H H' → H' T = none → o ≠ T → D.nx σ (upd (upd H' T (.tup [.int y1, .int y2])) o (.dT (putK kvs [.inl y1, .inl y2] v)))) : sDPut td (tTup (tCons ta (tCons tb tNil))) te D σ H := q_dputE12 (tw := fun D σ H => D.nx σ H) hv ho h1 h2 hd hl k
/-- rows.append((..)) of a row -/
theorem g_appRow {l : Addr} {xs : List V} {r : Row} (ho : Vl ta σ H (.ref l)) (hl : H l = some (.lst xs)) (hz : xs.length < sizeLine) (h0 : Vl t0 σ H (.int r.u)) (h1 : Vl t1 σ H (.int r.v)) (h2 : Ve t2 σ H (oV r.up)) (h3 : ∀ H', Same H H' → Ve t3 σ H' (oV r.dn)) (h4 : ∀ H', Same H H' → Vl t4 σ H' (oV r.um)) (h5 : ∀ H', Same H H' → Vl t5 σ H' (oV r.dm))
    (k : ∀ T H', Same H H' → H' T = none → D.nx σ (L2.upd (L2.upd H' T (.tup (rowV r))) l (.lst (xs ++ [.ref T])))) :
    tDrop (tBM K "list" rAppend ta (tCons (tTup (tCons t0 (tCons t1 (tCons t2 (tCons t3 (tCons t4 (tCons t5 tNil))))))) tNil)) D σ H := ho _ ⟨.inl ⟨rfl, _, .inl (.inl hl)⟩, h0 _ (h1 _ (h2 _ fun H1 s1 => (h3 H1 s1) _ fun H2 s2 => (h4 H2 (s1.trans s2)) _ ((h5 H2 (s1.trans s2)) _ ⟨by show 6 ≤ sizeLine; decide, fun T nT => ⟨l, xs, .ref T, rfl, rfl, (s1.trans (s2.trans (same_upd nT))) _ _ hl, hz, k T H2 (s1.trans s2) nT⟩⟩)))⟩
/-- for x, y in [(a, b), (b, a)] -/
theorem q_for2 {j1 j2 : Nat} {a b : Int} (a0 : Vl t0 σ H (.int a)) (a1 : Vl t1 σ H (.int b)) (b0 : ∀ H', Same H H' → Vl u0 σ H' (.int b)) (b1 : ∀ H', Same H H' → Vl u1 σ H' (.int a))
    (k : ∀ H' L T1 T2, Same H H' → H' L = some (.lst [.ref T1, .ref T2]) → H' T1 = some (.tup [.int a, .int b]) → H' T2 = some (.tup [.int b, .int a]) → ∃ (Pv : Nat → L2.St → Hp → Prop) (Hb : Hp), Hb L = some (.lst [.ref T1, .ref T2]) ∧ Hb T1 = some (.tup [.int a, .int b]) ∧ Hb T2 = some (.tup [.int b, .int a]) ∧ Pv 0 σ H' ∧ (∀ i σ' H'', Pv i σ' H'' → Same Hb H'') ∧ (∀ (i : Nat) d σ H, [(a, b), (b, a)][i]? = some d → Pv i σ H → tz { D with nx := Pv (i + 1), ct := Pv (i + 1), bk := tw D } ((σ.set j1 (some (.int d.1))).set j2 (some (.int d.2))) H) ∧ ∀ σ H, Pv 2 σ H → tw D σ H) :
    tSeq (tFor (iList K (tLst (tCons (tTup (tCons t0 (tCons t1 tNil))) (tCons (tTup (tCons u0 (tCons u1 tNil))) tNil)))) (gTup K 2 (gCons (gName j1) (gCons (gName j2) gNil))) tz) tw D σ H := by
  refine q_forE (a0 _ (a1 _ ⟨by show 2 ≤ sizeLine; decide, fun T1 n1 => ?_⟩))
  have s1 : Same H (upd H T1 (.tup [.int a, .int b])) := same_upd n1
  refine b0 _ s1 _ (b1 _ s1 _ ⟨by show 2 ≤ sizeLine; decide, fun T2 n2 => ⟨by show 2 ≤ sizeLine; decide, fun L nL => ?_⟩⟩)
  have s2 : Same (upd H T1 (.tup [.int a, .int b])) (upd (upd H T1 (.tup [.int a, .int b])) T2 (.tup [.int b, .int a])) := same_upd n2
  have s3 : Same (upd (upd H T1 (.tup [.int a, .int b])) T2 (.tup [.int b, .int a])) (upd (upd (upd H T1 (.tup [.int a, .int b])) T2 (.tup [.int b, .int a])) L (.lst [.ref T1, .ref T2])) := same_upd nL
  have e1 : upd (upd (upd H T1 (.tup [.int a, .int b])) T2 (.tup [.int b, .int a])) L (.lst [.ref T1, .ref T2]) T1 = some (.tup [.int a, .int b]) := s3 _ _ (s2 _ _ upd_same)
  have e2 : upd (upd (upd H T1 (.tup [.int a, .int b])) T2 (.tup [.int b, .int a])) L (.lst [.ref T1, .ref T2]) T2 = some (.tup [.int b, .int a]) := s3 _ _ upd_same
  have eL : upd (upd (upd H T1 (.tup [.int a, .int b])) T2 (.tup [.int b, .int a])) L (.lst [.ref T1, .ref T2]) L = some (.lst [.ref T1, .ref T2]) := upd_same
  have st := (s1.trans s2).trans s3
  change tSeq (tFor (iList K fun _ H' Q => Q (.ref L) H') (gTup K 2 (gCons (gName j1) (gCons (gName j2) gNil))) tz) tw D σ (upd (upd (upd H T1 (.tup [.int a, .int b])) T2 (.tup [.int b, .int a])) L (.lst [.ref T1, .ref T2]))
  generalize upd (upd (upd H T1 (.tup [.int a, .int b])) T2 (.tup [.int b, .int a])) L (.lst [.ref T1, .ref T2]) = H' at e1 e2 eL st ⊢
  obtain ⟨Pv, Hb, eL, e1, e2, h0, hl, hs, hd⟩ := k H' L T1 T2 st eL e1 e2
  exact ⟨L, rfl, ⟨_, .of (hl _ _ _ h0 _ _ eL)⟩, for_list (xs := [.ref T1, .ref T2]) Pv h0 (fun i σ H _ p => .of (hl i σ H p _ _ eL)) (fun i x σ H hi p => by
      match i, hi, p with
      | 0, hi, p =>
        cases hi
        exact ⟨T1, _, rfl, .of (hl _ _ _ p _ _ e1), rfl, _, _, rfl, _, _, rfl, rfl, hs 0 (a, b) σ H rfl p⟩
      | 1, hi, p =>
        cases hi
        exact ⟨T2, _, rfl, .of (hl _ _ _ p _ _ e2), rfl, _, _, rfl, _, _, rfl, rfl, hs 1 (b, a) σ H rfl p⟩
      | n + 2, hi, p => simp at hi) hd⟩
theorem ax_neV12 {x y : V} (ha : Ve ta σ H x) (hb : ∀ H', Same H H' → Ve tb σ H' y) (hs : scal x y = true) : Ax (tTest (tOp rNe ta tb)) σ H (!decide (x = y)) := fun Q k => ha _ fun H1 s1 => hb H1 s1 _ fun H2 s2 => ⟨hs, _, rfl, k H2 (s1.trans s2)⟩
theorem ax_eqV12 {x y : V} (ha : Ve ta σ H x) (hb : ∀ H', Same H H' → Ve tb σ H' y) (hs : scal x y = true) : Ax (tTest (tOp rEq ta tb)) σ H (decide (x = y)) := fun Q k => ha _ fun H1 s1 => hb H1 s1 _ fun H2 s2 => ⟨hs, _, rfl, k H2 (s1.trans s2)⟩
end
theorem scal_o {a b : Option Int} : scal (oV a) (oV b) = true := by cases a <;> cases b <;> rfl
theorem oV_inj {a b : Option Int} : (oV a = oV b) ↔ a = b := by
  constructor
  · intro e
    cases a <;> cases b
    · rfl
    · cases e
    · cases e
    · rw [V.int.inj e]
  · intro e
    rw [e]
theorem midL_step {F : Int → Int → Option Int} {ws : List Int} {x y w : Int} {i : Nat} (h : ws[i]? = some w) : (ws.take (i + 1)).foldl (fun m w => if decide (addO (F x w) (F w y) = F x y) = true then some w else m) none = if addO (F x w) (F w y) = F x y then some w else (ws.take i).foldl (fun m w => if decide (addO (F x w) (F w y) = F x y) = true then some w else m) none := by
  rw [take_snoc h, List.foldl_append, List.foldl_cons, List.foldl_nil]
  by_cases c : addO (F x w) (F w y) = F x y
  · rw [if_pos c, if_pos (decide_eq_true c)]
  · rw [if_neg c, if_neg (fun z => c (of_decide_eq_true z))]
abbrev sFillL : Stmt := topS 27
theorem scFillL : FnScope ["net", "order", "found", "prices", "low", "high", "rows", "middles", "x", "y", "middle", "w"] ["net", "order"] (defScope sFillL) := ⟨rfl, rfl, rfl, by decide +kernel, rfl, by decide +kernel, by decide +kernel⟩
section
variable {P : Program} {w : World} {K : PySem.W.Frag} {mg : Str → Option Value} {base : Heap}
theorem ok_fillL {f : Addr} {fd : FuncData} {k k1 k2 k3 k4 : Nat} (h1 : k1 ≤ k) (h2 : k2 ≤ k) (h3 : k3 ≤ k) (h4 : k4 ≤ k) (F : Fun K "_law_fill" "_law_fill" sFillL f fd) (c_law_pairs : Kal P w K mg base k1 "_law_pairs" ["net", "order"] (spLPairs K)) (c_law_least : Kal P w K mg base k2 "_law_least" ["net", "order", "x", "y"] (spLeast K))
    (c_law_link : Kal P w K mg base k3 "_law_link" ["net", "x", "y"] (spLLink K)) (c_law_lower : Kal P w K mg base k4 "_law_lower" ["found", "order", "low", "high"] (spLower K)) : FnOk P w K mg base CX0 (k + 1) f fd ["net", "order"] (spFillL K) := by
  refine F.ok scFillL (fun vs H Q E h => ?_) (fun cdv A outer s H vs Q E hr h => ?_)
  · obtain ⟨v, N, p, os, rfl, _⟩ := h
    rfl
  · obtain ⟨v, N, p, os, rfl, hN, okN, hS, oo, q⟩ := h
    have hu := hu_of hr
    refine ⟨_, pss_cons (ps_set (i := 2) scFillL.nd rfl (.inl rfl) (pe_k c_law_pairs hr (by first | decide | omega) (by rfl) (pa_cons (pv 0) (pa_cons (pv 1) pa_nil))))
      (pss_cons (ps_set (i := 3) scFillL.nd rfl (.inl rfl) pe_dnewT)
      (pss_cons (ps_for PassesOwn.never rfl (pi_list (pv 2)) (pg_tup rfl (pgs_cons (pg_name (i := 4) scFillL.nd rfl (.inl rfl)) (pgs_cons (pg_name (i := 5) scFillL.nd rfl (.inl rfl)) pgs_nil)))
      (pss_cons (ps_dput hu (pv 3) (pe_tup (pa_cons (pv 4) (pa_cons (pv 5) pa_nil))) (pe_k c_law_least hr (by first | decide | omega) (by rfl) (pa_cons (pv 0) (pa_cons (pv 1) (pa_cons (pv 4) (pa_cons (pv 5) pa_nil))))) rfl)
        (pss_one (ps_dput hu (pv 3) (pe_tup (pa_cons (pv 5) (pa_cons (pv 4) pa_nil))) (pe_k c_law_least hr (by first | decide | omega) (by rfl) (pa_cons (pv 0) (pa_cons (pv 1) (pa_cons (pv 5) (pa_cons (pv 4) pa_nil))))) rfl))))
      (pss_cons (ps_set (i := 6) scFillL.nd rfl (.inl rfl) (pe_lst pa_nil))
      (pss_cons (ps_for PassesOwn.never rfl (pi_list (pv 2)) (pg_tup rfl (pgs_cons (pg_name (i := 4) scFillL.nd rfl (.inl rfl)) (pgs_cons (pg_name (i := 5) scFillL.nd rfl (.inl rfl)) pgs_nil)))
      (pss_cons (ps_set (i := 7) scFillL.nd rfl (.inl rfl) (pe_lst pa_nil))
        (pss_cons (ps_for PassesOwn.never rfl (pi_list (pe_lst (pa_cons (pe_tup (pa_cons (pv 4) (pa_cons (pv 5) pa_nil))) (pa_cons (pe_tup (pa_cons (pv 5) (pa_cons (pv 4) pa_nil))) pa_nil)))) (pg_tup rfl (pgs_cons (pg_name (i := 8) scFillL.nd rfl (.inl rfl)) (pgs_cons (pg_name (i := 9) scFillL.nd rfl (.inl rfl)) pgs_nil)))
        (pss_cons (ps_set (i := 10) scFillL.nd rfl (.inl rfl) pe_non)
          (Evl.pss_cut (ps_if (PW.pt (pw_and (pt_cmpR op_notN (pe_dget hu (pv 3) (pe_tup (pa_cons (pv 8) (pa_cons (pv 9) pa_nil))) (fun _ _ => rfl)) pe_non (nomark _)) (pw_and1 (pt_cmpR op_ne (pe_k c_law_link hr (by first | decide | omega) (by rfl) (pa_cons (pv 0) (pa_cons (pv 8) (pa_cons (pv 9) pa_nil)))) (pe_dget hu (pv 3) (pe_tup (pa_cons (pv 8) (pa_cons (pv 9) pa_nil))) (fun _ _ => rfl)) (nomark _)))))
          (pss_one (ps_for PassesOwn.never rfl (pi_list (pe_revL (pe_k c_law_lower hr (by first | decide | omega) (by rfl) (pa_cons (pv 2) (pa_cons (pv 1) (pa_cons (pv 4) (pa_cons (pv 5) pa_nil))))))) (pg_name (i := 11) scFillL.nd rfl (.inl rfl))
            (pss_one (ps_if (PW.pt (pw_and (pt_cmpR op_notN (pe_dget hu (pv 3) (pe_tup (pa_cons (pv 8) (pa_cons (pv 11) pa_nil))) (fun _ _ => rfl)) pe_non (nomark _)) (pw_and1 (pt_cmpR op_notN (pe_dget hu (pv 3) (pe_tup (pa_cons (pv 11) (pa_cons (pv 9) pa_nil))) (fun _ _ => rfl)) pe_non (nomark _)))))
              (pss_one (ps_if (pt_cmpR op_eq (pe_op op_add (pe_dget hu (pv 3) (pe_tup (pa_cons (pv 8) (pa_cons (pv 11) pa_nil))) (fun _ _ => rfl)) (pe_dget hu (pv 3) (pe_tup (pa_cons (pv 11) (pa_cons (pv 9) pa_nil))) (fun _ _ => rfl))) (pe_dget hu (pv 3) (pe_tup (pa_cons (pv 8) (pa_cons (pv 9) pa_nil))) (fun _ _ => rfl)) (nomark _))
                (pss_one (ps_set (i := 10) scFillL.nd rfl (.inl rfl) (pv 11)))
                pss_nil))
              pss_nil))))
          pss_nil)
          (pss_one (ps_expr (pe_bm PySem.F.plainAttrs_list PySem.F.slot_list_append PySem.F.type_list_append mt_append (pv 7) (pa_cons (pv 10) pa_nil)))))))
        (pss_one (ps_expr (pe_bm PySem.F.plainAttrs_list PySem.F.slot_list_append PySem.F.type_list_append mt_append (pv 6) (pa_cons (pe_tup (pa_cons (pv 4) (pa_cons (pv 5) (pa_cons (pe_dget hu (pv 3) (pe_tup (pa_cons (pv 4) (pa_cons (pv 5) pa_nil))) (fun _ _ => rfl)) (pa_cons (pe_dget hu (pv 3) (pe_tup (pa_cons (pv 5) (pa_cons (pv 4) pa_nil))) (fun _ _ => rfl)) (pa_cons (pe_ix ix_list (pv 7) pe_int (fun _ _ => rfl)) (pa_cons (pe_ix ix_list (pv 7) pe_int (fun _ _ => rfl)) pa_nil))))))) pa_nil)))))))
      (pss_one (ps_ret (pv 6))))))), ?_⟩
    have l16 := okN.len
    have n40 := okN.n40
    have ol := oo.len
    have hLl := pairsL_len okN oo
    obtain ⟨F, hFe⟩ : ∃ F, F = leastL N os := ⟨_, rfl⟩
    rw [← hFe] at q
    refine q_asgE ⟨v, rfl, .ref p, rfl, v, N, p, os, rfl, hN, okN, hS, oo, fun H1 fp ts s1 nfp efp hT => ?_⟩
    refine q_dnewT fun dp ndp => ?_
    have s2 : Same H1 (upd H1 dp (.dT [])) := same_upd ndp
    have hN1 := Dp.to hN s1
    have hS1 := s1.seq hS
    have inP : ∀ x y, (x, y) ∈ pairsL N.ls os → (0 ≤ x ∧ x < N.n) ∧ (0 ≤ y ∧ y < N.n) := fun x y hm => ((mem_pairsL okN oo).mp hm).ins okN
    -- prices
    refine q_forP (vl_var rfl) (.of (s2 _ _ efp)) hT.len
      (fun i σ H4 => ∃ y4 y5 kvs, σ = [some v, some (.ref p), some (.ref fp), some (.ref dp), y4, y5, none, none, none, none, none, none] ∧ Same H1 H4 ∧ H4 dp = some (.dT kvs) ∧ PrF kvs ((pairsL N.ls os).take i) F)
      ⟨none, none, [], rfl, s2, upd_same, PrF.nil⟩ (fun i σ H4 hP => ?_) (fun i u v0 t σ H4 hi ht hP => ?_) (fun σ H4 hP => ?_)
    · obtain ⟨_, _, _, _, s6, _⟩ := hP
      exact ⟨.of (s6 _ _ efp), hT.to s6⟩
    · obtain ⟨y4, y5, kvs, rfl, s6, edp, hPr⟩ := hP
      have hm : (u, v0) ∈ pairsL N.ls os := List.mem_of_getElem? hi
      have hil := (List.getElem?_eq_some_iff.mp hi).1
      have hin := inP u v0 hm
      have hln := hPr.len
      rw [List.length_take] at hln
      refine q_dputE12 (v := oV (F u v0)) (y1 := u) (y2 := v0) (fun Q k => ⟨v, rfl, .ref p, rfl, .int u, rfl, .int v0, rfl, v, N, p, os, u, v0, rfl, Dp.to hN1 s6, okN, s6.seq hS1, oo, hin.1, hin.2, fun H' s' => by
        rw [← hFe]
        exact k H' s'⟩) (fun _ _ => vl_var rfl) (fun _ _ => vl_var rfl) (fun _ _ => vl_var rfl) edp (Nat.lt_of_le_of_lt (m := 100000) (by omega) (by decide)) fun T1 H5 s7 nT1 oT1 => ?_
      have g8 : Same H1 (upd (upd H5 T1 (.tup [.int u, .int v0])) dp (.dT (putK kvs [.inl u, .inl v0] (oV (F u v0))))) := same_upd' ((s6.trans s7).trans (same_upd nT1)) ndp
      have e8 : upd (upd H5 T1 (.tup [.int u, .int v0])) dp (.dT (putK kvs [.inl u, .inl v0] (oV (F u v0)))) dp = some (.dT (putK kvs [.inl u, .inl v0] (oV (F u v0)))) := upd_same
      generalize upd (upd H5 T1 (.tup [.int u, .int v0])) dp (.dT (putK kvs [.inl u, .inl v0] (oV (F u v0)))) = H8 at g8 e8 ⊢
      have h2l := put_len (kvs := kvs) (k := [Sum.inl u, Sum.inl v0]) (v := oV (F u v0))
      refine g_dputE12 (v := oV (F v0 u)) (y1 := v0) (y2 := u) (fun Q k => ⟨v, rfl, .ref p, rfl, .int v0, rfl, .int u, rfl, v, N, p, os, v0, u, rfl, Dp.to hN1 g8, okN, g8.seq hS1, oo, hin.2, hin.1, fun H' s' => by
        rw [← hFe]
        exact k H' s'⟩) (fun _ _ => vl_var rfl) (fun _ _ => vl_var rfl) (fun _ _ => vl_var rfl) e8 (Nat.lt_of_le_of_lt (m := 100000) (by omega) (by decide)) fun T2 H9 s9 nT2 oT2 => ?_
      refine ⟨_, _, _, rfl, same_upd' ((g8.trans s9).trans (same_upd nT2)) ndp, upd_same, ?_⟩
      rw [take_snoc hi]
      exact hPr.step
    · obtain ⟨y4, y5, kvs, rfl, s6, edp, hPr⟩ := hP
      rw [List.take_length] at hPr
      refine q_lnew fun ro nro => ?_
      have s7 : Same H4 (upd H4 ro (.lst [])) := same_upd nro
      have hN4 := Dp.to hN1 s6
      have hS4 := s6.seq hS1
      have hT4 := hT.to s6
      have efp4 := s6 _ _ efp
      refine q_forP (vl_var rfl) (.of (s7 _ _ efp4)) hT.len
        (fun i σ H5 => ∃ y4 y5 y7 y8 y9 y10 y11 rs tr, σ = [some v, some (.ref p), some (.ref fp), some (.ref dp), y4, y5, some (.ref ro), y7, y8, y9, y10, y11] ∧ Same H4 H5 ∧ H5 ro = some (.lst tr) ∧ RowsT H5 tr rs ∧ rs = ((pairsL N.ls os).take i).map fun p => rowL N os F p.1 p.2)
        ⟨_, _, _, _, _, _, _, [], [], rfl, s7, upd_same, ⟨rfl, fun k r e => by simp at e⟩, rfl⟩ (fun i σ H5 hP => ?_) (fun i u v0 t σ H5 hi ht hP => ?_) (fun σ H5 hP => ?_)
      · obtain ⟨_, _, _, _, _, _, _, _, _, _, s8, _⟩ := hP
        exact ⟨.of (s8 _ _ efp4), hT4.to s8⟩
      · obtain ⟨y4, y5, y7, y8, y9, y10, y11, rs, tr, rfl, s8, ero, hR, hrs⟩ := hP
        have hm : (u, v0) ∈ pairsL N.ls os := List.mem_of_getElem? hi
        have hil := (List.getElem?_eq_some_iff.mp hi).1
        have hin := inP u v0 hm
        refine q_lnew fun M nM => ?_
        have s9 : Same H5 (upd H5 M (.lst [])) := same_upd nM
        have edp5 := s8 _ _ edp
        generalize hlw : lowerL (pairsL N.ls os) os u v0 = lw
        have wants : ∀ w ∈ lw, ∀ z, (z = u ∨ z = v0) → valV kvs (K2 (z, w)) = some (oV (F z w)) ∧ valV kvs (K2 (w, z)) = some (oV (F w z)) := fun w hw z hz => by
          rw [← hlw] at hw
          have hm := mem_lowerL.mp hw
          have hwz : (w, z) ∈ pairsL N.ls os := by
            rcases hz with rfl | rfl
            · exact hm.2.1
            · exact hm.2.2
          exact ⟨hPr.at_ z w (.inr hwz), hPr.at_ w z (.inl hwz)⟩
        have lwl : lw.length ≤ os.length := by
          rw [← hlw]
          exact List.length_filter_le _ _
        refine q_for2 (a := u) (b := v0) (vl_var rfl) (vl_var rfl) (fun _ _ => vl_var rfl) (fun _ _ => vl_var rfl)
          fun Hk L T1 T2 s10 eL e1 e2 => ?_
        have eM : Hk M = some (.lst []) := s10 _ _ upd_same
        have oL : L ≠ M := fun e => by
          rw [e, eM] at eL
          cases eL
        have o1 : T1 ≠ M := fun e => by
          rw [e, eM] at e1
          cases e1
        have o2 : T2 ≠ M := fun e => by
          rw [e, eM] at e2
          cases e2
        refine ⟨(fun i σ H6 => ∃ y8 y9 y10 y11, σ = [some v, some (.ref p), some (.ref fp), some (.ref dp), some (.int u), some (.int v0), some (.ref ro), some (.ref M), y8, y9, y10, y11] ∧ Same H5 (but H6 M) ∧ Same (but Hk M) (but H6 M) ∧ H6 M = some (.lst (([(u, v0), (v0, u)].take i).map fun d => oV (midL N F lw d.1 d.2)))),
          but Hk M, by rw [but_ne oL]; exact eL, by rw [but_ne o1]; exact e1, by rw [but_ne o2]; exact e2, ⟨_, _, _, _, rfl, same_but (s9.trans s10) nM, Same.refl _, eM⟩, fun i σ H6 hP => ?_, fun i d σ H6 hi2 hP => ?_, fun σ H6 hP => ?_⟩
        · obtain ⟨_, _, _, _, _, _, s11, _⟩ := hP
          exact s11.trans but_same
        · obtain ⟨y8, y9, y10, y11, rfl, s5, s11, eM6⟩ := hP
          have htk : ([(u, v0), (v0, u)].take (i + 1)).map (fun d => oV (midL N F lw d.1 d.2)) = ([(u, v0), (v0, u)].take i).map (fun d => oV (midL N F lw d.1 d.2)) ++ [oV (midL N F lw d.1 d.2)] := by
            rw [take_snoc hi2, List.map_append]
            rfl
          have hdm := List.mem_of_getElem? hi2
          have hxy : (d.1 = u ∨ d.1 = v0) ∧ (d.2 = u ∨ d.2 = v0) ∧ ((d.1, d.2) ∈ pairsL N.ls os ∨ (d.2, d.1) ∈ pairsL N.ls os) := by
            simp only [List.mem_cons, List.not_mem_nil, or_false] at hdm
            rcases hdm with rfl | rfl
            · exact ⟨.inl rfl, .inr rfl, .inl hm⟩
            · exact ⟨.inr rfl, .inl rfl, .inr hm⟩
          obtain ⟨x, y⟩ := d
          have s46 : Same H4 H6 := s8.trans (s5.trans but_same)
          have edp6 := s46 _ _ edp
          have kxy := hPr.at_ x y hxy.2.2
          have mlen : (([(u, v0), (v0, u)].take i).map fun d => oV (midL N F lw d.1 d.2)).length < sizeLine := Nat.lt_of_le_of_lt (m := 2) (by rw [List.length_map, List.length_take]; exact Nat.min_le_right _ _) (by decide)
          generalize ([(u, v0), (v0, u)].take i).map (fun d => oV (midL N F lw d.1 d.2)) = ms at eM6 mlen htk
          have fin : ∀ H7, Same H6 H7 → Same H5 (but (upd H7 M (.lst (ms ++ [oV (midL N F lw x y)]))) M) ∧ Same (but Hk M) (but (upd H7 M (.lst (ms ++ [oV (midL N F lw x y)]))) M) := fun H7 s7 => by
            rw [but_upd]
            exact ⟨s5.trans (but_mono s7), s11.trans (but_mono s7)⟩
          refine q_asg vl_c ?_
          refine ⟨fun σ H7 => ∃ y11, σ = [some v, some (.ref p), some (.ref fp), some (.ref dp), some (.int u), some (.int v0), some (.ref ro), some (.ref M), some (.int x), some (.int y), some (oV (midL N F lw x y)), y11] ∧ Same H6 H7, ?_, fun σ H7 hP1 => ?_⟩
          rotate_left
          · obtain ⟨y11, rfl, s7⟩ := hP1
            exact g_app (v := oV (midL N F lw x y)) (vl_var rfl) (s7 _ _ eM6) (vl_var rfl) mlen ⟨_, _, _, _, rfl, (fin _ s7).1, (fin _ s7).2, by rw [upd_same, htk]⟩
          refine g_whenx (b := !decide (oV (F x y) = .non) && !decide (oV (linkW N.ls x y) = oV (F x y))) (ax_and (ax_notNV (ve_dgetN (vl_var rfl) (vl_var rfl) (vl_var rfl) edp6 kxy)) fun _ H' s' => ax_neV12 (fun Q k => ⟨v, rfl, .int x, rfl, .int y, rfl, v, N, x, y, rfl, Dp.to hN4 (s46.trans s'), fun H8 s8 => k H8 s8⟩) (fun H8 s8 => ve_dgetN (vl_var rfl) (vl_var rfl) (vl_var rfl) (s8 _ _ (s' _ _ edp6)) kxy) scal_o) (fun hb H7 s12 => ?_) (fun hb H7 s12 => ?_)
          · have hb : F x y ≠ none ∧ linkW N.ls x y ≠ F x y := by
              rw [Bool.and_eq_true, Bool.not_eq_true', Bool.not_eq_true', decide_eq_false_iff_not, decide_eq_false_iff_not] at hb
              exact ⟨fun e => hb.1 (by rw [e]; rfl), fun e => hb.2 (by rw [e])⟩
            have s47 := s46.trans s12
            refine g_forE ⟨.ref fp, rfl, .ref p, rfl, .int u, rfl, .int v0, rfl, .ref fp, pairsL N.ls os, p, os, u, v0, rfl, .lst (.of (s47 _ _ efp4)) (hT4.to s47).dp, s47.seq hS4, by omega, fun al H9 s13 nal hal => ⟨al, _, rfl, .of hal, fun rp nrp => ?_⟩⟩
            rw [hlw]
            have s14 : Same H9 (upd H9 rp (.lst (lw.map V.int).reverse)) := same_upd nrp
            have erp : upd H9 rp (.lst (lw.map V.int).reverse) rp = some (.lst (lw.reverse.map V.int)) := by
              rw [upd_same, List.map_reverse]
            generalize upd H9 rp (.lst (lw.map V.int).reverse) = Hr at s14 erp ⊢
            have s6r : Same H6 Hr := s12.trans (s13.trans s14)
            refine g_forL (K := K) (j := 11) (xs := lw.reverse.map V.int) (fun Q q => q) (.of erp)
              (fun i σ H10 => ∃ y11, σ = [some v, some (.ref p), some (.ref fp), some (.ref dp), some (.int u), some (.int v0), some (.ref ro), some (.ref M), some (.int x), some (.int y), some (oV ((lw.reverse.take i).foldl (fun m w => if decide (addO (F x w) (F w y) = F x y) = true then some w else m) none)), y11] ∧ Same Hr H10)
              ⟨_, rfl, Same.refl _⟩ (fun i σ H10 hP1 => ?_) (fun i v1 σ H10 hi3 hP1 => ?_) (fun σ H10 hP1 => ?_)
            · obtain ⟨_, _, s15⟩ := hP1
              exact .of (s15 _ _ erp)
            · obtain ⟨y11, rfl, s15⟩ := hP1
              rw [List.getElem?_map] at hi3
              cases hg : lw.reverse[i]? with
              | none =>
                rw [hg] at hi3
                cases hi3
              | some w0 =>
                rw [hg] at hi3
                cases hi3
                have hwm : w0 ∈ lw := List.mem_reverse.mp (List.mem_of_getElem? hg)
                have k1 := (wants w0 hwm x hxy.1).1
                have k2 := (wants w0 hwm y hxy.2.1).2
                have edx : H10 dp = some (.dT kvs) := s15 _ _ (s6r _ _ edp6)
                rw [midL_step hg]
                generalize (lw.reverse.take i).foldl (fun m w => if decide (addO (F x w) (F w y) = F x y) = true then some w else m) none = m0
                refine g_whenx (b := !decide (oV (F x w0) = .non) && !decide (oV (F w0 y) = .non)) (ax_and (ax_notNV (ve_dgetN (vl_var rfl) (vl_var rfl) (vl_var rfl) edx k1)) fun _ H' s' => ax_notNV (ve_dgetN (vl_var rfl) (vl_var rfl) (vl_var rfl) (s' _ _ edx) k2)) (fun hb1 H11 s16 => ?_) (fun hb1 H11 s16 => ?_)
                · rw [oV_non, oV_non] at hb1
                  have edy := s16 _ _ edx
                  cases e1 : F x w0 with
                  | none =>
                    rw [e1] at hb1
                    cases hb1
                  | some a1 =>
                    cases e2 : F w0 y with
                    | none =>
                      rw [e1, e2] at hb1
                      cases hb1
                    | some c1 =>
                      rw [e1] at k1
                      rw [e2] at k2
                      have ea : addO (some a1) (some c1) = some (a1 + c1) := rfl
                      refine g_whenx (b := decide (V.int (a1 + c1) = oV (F x y))) (ax_eqV12 (ve_I0 (g := fun i j => .int (i + j)) (i := a1) (j := c1) (ve_dgetN (vl_var rfl) (vl_var rfl) (vl_var rfl) edy k1) fun H' s' => ve_dgetN (vl_var rfl) (vl_var rfl) (vl_var rfl) (s' _ _ edy) k2) (fun H' s' => ve_dgetN (vl_var rfl) (vl_var rfl) (vl_var rfl) (s' _ _ edy) kxy) (scal_o (a := some (a1 + c1)))) (fun hc H12 s17 => ?_) (fun hc H12 s17 => ?_)
                      · have hc : some (a1 + c1) = F x y := oV_inj.mp (of_decide_eq_true hc)
                        rw [ea, if_pos hc]
                        exact g_asg (v := .int w0) (vl_var rfl) ⟨_, rfl, (s15.trans s16).trans s17⟩
                      · have hc : ¬ some (a1 + c1) = F x y := fun e => of_decide_eq_false hc (oV_inj.mpr e)
                        rw [ea, if_neg hc]
                        exact ⟨_, rfl, (s15.trans s16).trans s17⟩
                · rw [oV_non, oV_non] at hb1
                  have no : addO (F x w0) (F w0 y) = none := by
                    cases e1 : F x w0 with
                    | none => rfl
                    | some a1 =>
                      cases e2 : F w0 y with
                      | none => rfl
                      | some c1 =>
                        rw [e1, e2] at hb1
                        cases hb1
                  rw [no, if_neg (fun z => hb.1 z.symm)]
                  exact ⟨_, rfl, s15.trans s16⟩
            · obtain ⟨y11, rfl, s15⟩ := hP1
              rw [List.length_map, List.take_length]
              have em : midL N F lw x y = lw.reverse.foldl (fun m w => if decide (addO (F x w) (F w y) = F x y) = true then some w else m) none := if_pos hb
              rw [← em]
              exact ⟨_, rfl, s6r.trans s15⟩
          · have em : midL N F lw x y = none := if_neg fun z => by
              rw [Bool.and_eq_false_iff, Bool.not_eq_false', Bool.not_eq_false', decide_eq_true_eq, decide_eq_true_eq] at hb
              rcases hb with e | e
              · exact z.1 (oV_inj (b := none).mp e)
              · exact z.2 (oV_inj.mp e)
            rw [em]
            exact ⟨_, rfl, s12⟩
        · obtain ⟨y8, y9, y10, y11, rfl, s5, s11, eM6⟩ := hP
          have eM6 : H6 M = some (.lst [oV (midL N F lw u v0), oV (midL N F lw v0 u)]) := eM6
          have s56 : Same H5 H6 := s5.trans but_same
          have s46 : Same H4 H6 := s8.trans s56
          have edp6 := s46 _ _ edp
          have hrl : rs.length = i := by
            rw [hrs, List.length_map, List.length_take]
            omega
          refine g_appRow (r := rowL N os F u v0) (vl_var rfl) (s56 _ _ ero) ?_ (vl_var rfl) (vl_var rfl) (ve_dgetN (vl_var rfl) (vl_var rfl) (vl_var rfl) edp6 (hPr.at_ u v0 (.inl hm))) (fun H' s' => ve_dgetN (vl_var rfl) (vl_var rfl) (vl_var rfl) (s' _ _ edp6) (hPr.at_ v0 u (.inr hm)))
            (fun H' s' => (vl_ixL (K := K) (vl_var rfl) vl_c (.of (s' _ _ eM6)) (atI_nat (j := 0) rfl)).is (by rw [← hlw]; rfl)) (fun H' s' => (vl_ixL (K := K) (vl_var rfl) vl_c (.of (s' _ _ eM6)) (atI_nat (j := 1) rfl)).is (by rw [← hlw]; rfl)) fun T H7 s7 nT => ?_
          · rw [hR.len, hrl]
            exact Nat.lt_of_le_of_lt (m := 10000) (by omega) (by decide)
          · have s57 := s56.trans s7
            have s8T : Same H7 (upd H7 T (.tup (rowV (rowL N os F u v0)))) := same_upd nT
            have Tro : T ≠ ro := (ne_of_none (s57 _ _ ero) nT).symm
            refine ⟨_, _, _, _, _, _, _, rs ++ [rowL N os F u v0], tr ++ [.ref T], rfl, same_upd' ((s8.trans s57).trans s8T) nro, upd_same, ⟨?_, fun k r' hk => ?_⟩, ?_⟩
            · rw [List.length_append, List.length_append, hR.len]
              rfl
            · by_cases hkl : k < rs.length
              · rw [List.getElem?_append_left hkl] at hk
                obtain ⟨t', z1, z2⟩ := hR.at_ k r' hk
                refine ⟨t', by rw [List.getElem?_append_left (by rw [hR.len]; exact hkl)]; exact z1, ?_⟩
                have zro : t' ≠ ro := fun z => by
                  rw [z, ero] at z2
                  cases z2
                rw [upd_ne zro]
                exact (s57.trans s8T) _ _ z2
              · rw [List.getElem?_append_right (by omega)] at hk
                have e0 : k - rs.length = 0 := by
                  have := (List.getElem?_eq_some_iff.mp hk).1
                  simp at this
                  exact this
                rw [e0] at hk
                cases hk
                refine ⟨T, ?_, ?_⟩
                · rw [List.getElem?_append_right (by rw [hR.len]; omega), hR.len, e0]
                  rfl
                · rw [upd_ne Tro]
                  exact upd_same
            · rw [take_snoc hi, List.map_append, hrs]
              rfl
      · obtain ⟨y4, y5, y7, y8, y9, y10, y11, rs, tr, rfl, s8, ero, hR, hrs⟩ := hP
        rw [List.take_length] at hrs
        exact g_ret (vl_var rfl) (q H5 ro tr ((s1.trans s6).trans s8) (Same.free (s1.trans s6) nro) ero (by rw [← hrs]; exact hR))
end
/-! ### the law's filling by triangles -/
/-- the dict of ways, told by the rows -/
structure WayG (kvs : List (List L2.Key × V)) (rs : List Row) : Prop where
  len : kvs.length ≤ 2 * rs.length
  ge : ∀ x y : Int, (valV kvs (K2 (x, y))).getD .non = oV (prR rs x y)
theorem WayG.nil : WayG [] [] := ⟨Nat.le_refl _, fun x y => rfl⟩
theorem prR_old {rs : List Row} {r : Row} {x y : Int} (h1 : (x, y) ≠ (r.u, r.v)) (h2 : (x, y) ≠ (r.v, r.u)) : prR (rs ++ [r]) x y = prR rs x y := by
  have e1 : [r].find? (fun r => decide (r.u = x ∧ r.v = y)) = none := by
    rw [List.find?_cons_of_neg, List.find?_nil]
    intro z
    have z := of_decide_eq_true z
    exact h1 (by rw [z.1, z.2])
  have e2 : [r].find? (fun r => decide (r.u = y ∧ r.v = x)) = none := by
    rw [List.find?_cons_of_neg, List.find?_nil]
    intro z
    have z := of_decide_eq_true z
    exact h2 (by rw [z.1, z.2])
  unfold prR
  rw [List.find?_append, List.find?_append, e1, e2, Option.or_none, Option.or_none]
theorem kv_fold {f : Int × Int → V} {k : Int × Int} : ∀ (ds : List (Int × Int)) (kv : List (List L2.Key × V)), (∀ d ∈ ds, d ≠ k) → valV (ds.foldl (fun kv d => putK kv (K2 d) (f d)) kv) (K2 k) = valV kv (K2 k)
  | [], _, _ => rfl
  | d :: ds, kv, h => by
    rw [List.foldl_cons, kv_fold ds _ fun z hz => h z (List.mem_cons_of_mem _ hz), valV_put, if_neg fun e => h d List.mem_cons_self (K2_inj e).symm]
theorem kv_len {f : Int × Int → V} : ∀ (ds : List (Int × Int)) (kv : List (List L2.Key × V)), (ds.foldl (fun kv d => putK kv (K2 d) (f d)) kv).length ≤ kv.length + ds.length
  | [], _ => Nat.le_refl _
  | d :: ds, kv => by
    rw [List.foldl_cons]
    have h1 := kv_len (f := f) ds (putK kv (K2 d) (f d))
    have h2 := put_len (kvs := kv) (k := K2 d) (v := f d)
    rw [List.length_cons]
    omega
section
variable {N : Net} {os : List Int}
noncomputable def triB (N : Net) (os : List Int) (rs : List Row) (u : Int) (d : Int × Int) : Option Int × Option Int := bestF (linkW N.ls d.1 d.2) (fun w => addO (prR rs d.1 w) (prR rs w d.2)) (os.take (posOf u os))
theorem pos_take (oo : OrdOk N.n os) {w : Int} {k : Nat} (h : w ∈ os.take k) : posOf w os < k := by
  obtain ⟨j, hj, e⟩ := List.getElem_of_mem h
  rw [List.length_take] at hj
  have := posOf_get oo.nodup (i := j) (x := w) (by
    rw [← e, List.getElem_take]
    exact List.getElem?_eq_getElem (by omega))
  omega
theorem tri_row (ok : NetOk N) (oo : OrdOk N.n os) {rs : List Row} {i : Nat} {u v : Int} (hp : rs.map prOf = (pairsL N.ls os).take i) (hi : (pairsL N.ls os)[i]? = some (u, v)) :
    mkRow N os (pairsL N.ls os) rs u v = ⟨u, v, (triB N os rs u (u, v)).1, (triB N os rs u (v, u)).1, (triB N os rs u (u, v)).2, (triB N os rs u (v, u)).2⟩ := by
  have hm : (u, v) ∈ pairsL N.ls os := List.mem_of_getElem? hi
  have hpp := (mem_pairsL ok oo).mp hm
  have uv := hpp.1
  have sub : ∀ p, p ∈ rs.map prOf → p ∈ pairsL N.ls os := fun p h => by
    rw [hp] at h
    exact List.mem_of_mem_take h
  have no : ∀ w z, posOf w os < posOf u os → (z = u ∨ z = v) → (w, z) ∉ pairsL N.ls os → prR rs w z = none ∧ prR rs z w = none := fun w z hw hz hn => by
    have n1 : (w, z) ∉ rs.map prOf := fun h => hn (sub _ h)
    have n2 : (z, w) ∉ rs.map prOf := fun h => by
      have := ((mem_pairsL ok oo).mp (sub _ h)).1
      rcases hz with rfl | rfl <;> omega
    unfold prR
    rw [find_none n1, find_none n2]
    exact ⟨rfl, rfl⟩
  have an : ∀ a : Option Int, addO a none = none := fun a => by cases a <;> rfl
  have b1 : triB N os rs u (u, v) = bestF (linkW N.ls u v) (fun w => addO (prR rs u w) (prR rs w v)) (lowerL (pairsL N.ls os) os u v) := tri_best ok oo hpp fun w hw hwt => by
    have hl := pos_take (N := N) oo hwt
    by_cases c : (w, u) ∈ pairsL N.ls os
    · have d : (w, v) ∉ pairsL N.ls os := fun d => hw ⟨c, d⟩
      rw [(no w v hl (.inr rfl) d).1, an]
    · rw [(no w u hl (.inl rfl) c).2]
      rfl
  have b2 : triB N os rs u (v, u) = bestF (linkW N.ls v u) (fun w => addO (prR rs v w) (prR rs w u)) (lowerL (pairsL N.ls os) os u v) := tri_best ok oo hpp fun w hw hwt => by
    have hl := pos_take (N := N) oo hwt
    by_cases c : (w, u) ∈ pairsL N.ls os
    · have d : (w, v) ∉ pairsL N.ls os := fun d => hw ⟨c, d⟩
      rw [(no w v hl (.inr rfl) d).2]
      rfl
    · rw [(no w u hl (.inl rfl) c).1, an]
  rw [b1, b2]
  rfl
theorem WayG.step (ok : NetOk N) (oo : OrdOk N.n os) {kvs : List (List L2.Key × V)} {rs : List Row} {r : Row} {i : Nat} (h : WayG kvs rs) (hp : rs.map prOf = (pairsL N.ls os).take i) (hi : (pairsL N.ls os)[i]? = some (r.u, r.v)) :
    WayG (putK (putK kvs (K2 (r.u, r.v)) (oV r.up)) (K2 (r.v, r.u)) (oV r.dn)) (rs ++ [r]) := by
  have hmL : (r.u, r.v) ∈ pairsL N.ls os := List.mem_of_getElem? hi
  have hLn := pairsL_nodup (ls := N.ls) oo
  have hnew : (r.u, r.v) ∉ rs.map prOf := fun hh => by
    rw [hp] at hh
    obtain ⟨k, hk⟩ := List.mem_iff_getElem?.mp hh
    have hlt := (List.getElem?_eq_some_iff.mp hk).1
    rw [List.length_take] at hlt
    rw [List.getElem?_take, if_pos (by omega), ← hi] at hk
    have := (List.getElem?_inj (by omega) hLn).mp hk
    omega
  have hD : (r.v, r.u) ∉ (rs ++ [r]).map prOf := fun hh => by
    refine anti ok oo hmL ?_
    rw [List.map_append, hp] at hh
    rcases List.mem_append.mp hh with e | e
    · exact List.mem_of_mem_take e
    · rw [List.mem_singleton.mp e]
      exact hmL
  refine ⟨?_, fun x y => ?_⟩
  · have h1 := put_len (kvs := putK kvs (K2 (r.u, r.v)) (oV r.up)) (k := K2 (r.v, r.u)) (v := oV r.dn)
    have h2 := put_len (kvs := kvs) (k := K2 (r.u, r.v)) (v := oV r.up)
    have h3 := h.len
    rw [List.length_append]
    show _ ≤ 2 * (_ + 1)
    omega
  · rw [valV_put, valV_put]
    by_cases c1 : (x, y) = (r.v, r.u)
    · cases c1
      rw [if_pos rfl, prR_newD hnew hD]
      rfl
    · rw [if_neg (fun z => c1 (K2_inj z))]
      by_cases c2 : (x, y) = (r.u, r.v)
      · cases c2
        rw [if_pos rfl, prR_newU hnew]
        rfl
      · rw [if_neg (fun z => c2 (K2_inj z)), prR_old c2 c1]
        exact h.ge x y
end
section
variable {K : PySem.W.Frag} {σ : L2.St} {H : Hp} {D : Ends} {tz tw : TS} {td ta tb t0 t1 : TE}
theorem q_dgetO {i : Nat} {o : Addr} {kvs : List (List L2.Key × V)} {y1 y2 : Int} {r : Option Int} (ho : Vl td σ H (.ref o)) (h1 : ∀ H, Vl ta σ H (.int y1)) (h2 : ∀ H, Vl tb σ H (.int y2)) (hd : H o = some (.dT kvs)) (he : (valV kvs (K2 (y1, y2))).getD .non = oV r)
    (k : ∀ H', Same H H' → tw D (σ.set i (some (oV r))) H') : tSeq (tAsg (tDGet1 td (tTup (tCons ta (tCons tb tNil)))) (gName i)) tw D σ H := q_dgetT ho h1 h2 hd fun T nT => by
  rw [show (valV kvs [.inl y1, .inl y2]).getD .non = oV r from he]
  exact k _ (same_upd nT)
theorem g_appOO {l : Addr} {xs : List V} {p m : Option Int} (ho : Vl ta σ H (.ref l)) (hl : H l = some (.lst xs)) (h0 : Vl t0 σ H (oV p)) (h1 : Vl t1 σ H (oV m)) (hz : xs.length < sizeLine) (k : ∀ T, H T = none → D.nx σ (L2.upd (L2.upd H T (.tup [oV p, oV m])) l (.lst (xs ++ [.ref T])))) :
    tDrop (tBM K "list" rAppend ta (tCons (tTup (tCons t0 (tCons t1 tNil))) tNil)) D σ H := ho _ ⟨.inl ⟨rfl, _, .inl (.inl hl)⟩, h0 _ (h1 _ ⟨by show 2 ≤ sizeLine; decide, fun T nT => ⟨l, xs, .ref T, rfl, rfl, same_upd nT _ _ hl, hz, k T nT⟩⟩)⟩
end
/-- a list of pairs of prices and middles -/
structure OosT (H : Hp) (tr : List V) (rs : List (Option Int × Option Int)) : Prop where
  len : tr.length = rs.length
  at_ : ∀ (k : Nat) r, rs[k]? = some r → ∃ t, tr[k]? = some (.ref t) ∧ H t = some (.tup [oV r.1, oV r.2])
theorem OosT.to {H H' : Hp} {tr : List V} {rs : List (Option Int × Option Int)} (h : OosT H tr rs) (s : Same H H') : OosT H' tr rs := ⟨h.len, fun k r e => let ⟨t, e1, e2⟩ := h.at_ k r e; ⟨t, e1, s _ _ e2⟩⟩
theorem OosT.app {H : Hp} {tr : List V} {rs : List (Option Int × Option Int)} {T : Addr} {r : Option Int × Option Int} (h : OosT H tr rs) (e : H T = some (.tup [oV r.1, oV r.2])) : OosT H (tr ++ [.ref T]) (rs ++ [r]) := by
  refine ⟨by rw [List.length_append, List.length_append, h.len]; rfl, fun k q hk => ?_⟩
  by_cases c : k < rs.length
  · rw [List.getElem?_append_left c] at hk
    obtain ⟨t, e1, e2⟩ := h.at_ k q hk
    exact ⟨t, by rw [List.getElem?_append_left (by rw [h.len]; exact c)]; exact e1, e2⟩
  · rw [List.getElem?_append_right (by omega)] at hk
    have e0 : k - rs.length = 0 := by
      have := (List.getElem?_eq_some_iff.mp hk).1
      simp at this
      exact this
    rw [e0] at hk
    cases hk
    refine ⟨T, ?_, e⟩
    rw [List.getElem?_append_right (by rw [h.len]; omega), h.len, e0]
    rfl
/-- a list or dict that is changed is none of the tuples -/
theorem OosT.upd {H : Hp} {tr : List V} {rs : List (Option Int × Option Int)} {a : Addr} {x : HO} (h : OosT H tr rs) (ha : ∀ xs, H a ≠ some (.tup xs)) : OosT (L2.upd H a x) tr rs := ⟨h.len, fun k r e => by
  obtain ⟨t, e1, e2⟩ := h.at_ k r e
  exact ⟨t, e1, by rw [upd_ne (fun z => ha _ (by rw [← z]; exact e2))]; exact e2⟩⟩
theorem RowsT.upd {H : Hp} {tr : List V} {rs : List Row} {a : Addr} {x : HO} (h : RowsT H tr rs) (ha : ∀ xs, H a ≠ some (.tup xs)) : RowsT (L2.upd H a x) tr rs := ⟨h.len, fun k r e => by
  obtain ⟨t, e1, e2⟩ := h.at_ k r e
  exact ⟨t, e1, by rw [upd_ne (fun z => ha _ (by rw [← z]; exact e2))]; exact e2⟩⟩
theorem RowsT.app {H : Hp} {tr : List V} {rs : List Row} {T : Addr} {r : Row} (h : RowsT H tr rs) (e : H T = some (.tup (rowV r))) : RowsT H (tr ++ [.ref T]) (rs ++ [r]) := by
  refine ⟨by rw [List.length_append, List.length_append, h.len]; rfl, fun k q hk => ?_⟩
  by_cases c : k < rs.length
  · rw [List.getElem?_append_left c] at hk
    obtain ⟨t, e1, e2⟩ := h.at_ k q hk
    exact ⟨t, by rw [List.getElem?_append_left (by rw [h.len]; exact c)]; exact e1, e2⟩
  · rw [List.getElem?_append_right (by omega)] at hk
    have e0 : k - rs.length = 0 := by
      have := (List.getElem?_eq_some_iff.mp hk).1
      simp at this
      exact this
    rw [e0] at hk
    cases hk
    refine ⟨T, ?_, e⟩
    rw [List.getElem?_append_right (by rw [h.len]; omega), h.len, e0]
    rfl
abbrev sTri : Stmt := topS 29
theorem scTri : FnScope ["net", "order", "found", "prices", "ways", "a", "b", "there", "back", "rows", "low", "high", "told", "x", "y", "best", "middle", "w", "first", "second"] ["net", "order"] (defScope sTri) := ⟨rfl, rfl, rfl, by decide +kernel, rfl, by decide +kernel, by decide +kernel⟩
section
variable {P : Program} {w : World} {K : PySem.W.Frag} {mg : Str → Option Value} {base : Heap}
theorem ok_tri {f : Addr} {fd : FuncData} {k k1 : Nat} (h1 : k1 ≤ k) (F : Fun K "_law_by_triangles" "_law_by_triangles" sTri f fd) (c_law_pairs : Kal P w K mg base k1 "_law_pairs" ["net", "order"] (spLPairs K)) : FnOk P w K mg base CX0 (k + 1) f fd ["net", "order"] (spFill K) := by
  refine F.ok scTri (fun vs H Q E h => ?_) (fun cdv A outer s H vs Q E hr h => ?_)
  · obtain ⟨v, N, p, os, rfl, _⟩ := h
    rfl
  · obtain ⟨v, N, po, os, rfl, hN, okN, hS, oo, q⟩ := h
    have hu := hu_of hr
    refine ⟨_, pss_cons (ps_set (i := 2) scTri.nd rfl (.inl rfl) (pe_k c_law_pairs hr (by first | decide | omega) (by rfl) (pa_cons (pv 0) (pa_cons (pv 1) pa_nil))))
      (pss_cons (ps_set (i := 3) scTri.nd rfl (.inl rfl) pe_dnewT)
      (pss_cons (ps_set (i := 4) scTri.nd rfl (.inl rfl) pe_dnewT)
      (pss_cons (ps_for PassesOwn.never rfl (pi_list (pe_ix ix_tup (pv 0) pe_int (fun _ _ => rfl))) (pg_tup rfl (pgs_cons (pg_name (i := 5) scTri.nd rfl (.inl rfl)) (pgs_cons (pg_name (i := 6) scTri.nd rfl (.inl rfl)) (pgs_cons (pg_name (i := 7) scTri.nd rfl (.inl rfl)) (pgs_cons (pg_name (i := 8) scTri.nd rfl (.inl rfl)) pgs_nil)))))
      (pss_cons (ps_dput hu (pv 3) (pe_tup (pa_cons (pv 5) (pa_cons (pv 6) pa_nil))) (pv 7) rfl)
        (pss_one (ps_dput hu (pv 3) (pe_tup (pa_cons (pv 6) (pa_cons (pv 5) pa_nil))) (pv 8) rfl))))
      (pss_cons (ps_set (i := 9) scTri.nd rfl (.inl rfl) (pe_lst pa_nil))
      (pss_cons (ps_for PassesOwn.never rfl (pi_list (pv 2)) (pg_tup rfl (pgs_cons (pg_name (i := 10) scTri.nd rfl (.inl rfl)) (pgs_cons (pg_name (i := 11) scTri.nd rfl (.inl rfl)) pgs_nil)))
      (pss_cons (ps_set (i := 12) scTri.nd rfl (.inl rfl) (pe_lst pa_nil))
        (pss_cons (ps_for PassesOwn.never rfl (pi_list (pe_lst (pa_cons (pe_tup (pa_cons (pv 10) (pa_cons (pv 11) pa_nil))) (pa_cons (pe_tup (pa_cons (pv 11) (pa_cons (pv 10) pa_nil))) pa_nil)))) (pg_tup rfl (pgs_cons (pg_name (i := 13) scTri.nd rfl (.inl rfl)) (pgs_cons (pg_name (i := 14) scTri.nd rfl (.inl rfl)) pgs_nil)))
        (pss_cons (ps_set (i := 15) scTri.nd rfl (.inl rfl) (pe_dget1 hu (pv 3) (pe_tup (pa_cons (pv 13) (pa_cons (pv 14) pa_nil))) ⟨by rfl, by rfl, by rfl, by rfl⟩))
          (pss_cons (ps_set (i := 16) scTri.nd rfl (.inl rfl) pe_non)
          (pss_cons (ps_for PassesOwn.never rfl (pi_list (pe_slice sl_list (pv 1) po_none (po_some (pe_bm PySem.F.plainAttrs_list PySem.F.slot_list_index PySem.F.type_list_index mt_index (pv 1) (pa_cons (pv 10) pa_nil))))) (pg_name (i := 17) scTri.nd rfl (.inl rfl))
          (pss_cons (ps_set (i := 18) scTri.nd rfl (.inl rfl) (pe_dget1 hu (pv 4) (pe_tup (pa_cons (pv 13) (pa_cons (pv 17) pa_nil))) ⟨by rfl, by rfl, by rfl, by rfl⟩))
            (pss_cons (ps_set (i := 19) scTri.nd rfl (.inl rfl) (pe_dget1 hu (pv 4) (pe_tup (pa_cons (pv 17) (pa_cons (pv 14) pa_nil))) ⟨by rfl, by rfl, by rfl, by rfl⟩))
            (pss_one (ps_if (PW.pt (pw_and (pt_cmpR op_notN (pv 18) pe_non (nomark _)) (pw_and (pt_cmpR op_notN (pv 19) pe_non (nomark _)) (pw_and1 (PW.pt (pw_or (pt_cmpR op_isN (pv 15) pe_non (nomark _)) (pw_or1 (pt_cmpR op_lt (pe_op op_add (pv 18) (pv 19)) (pv 15) (nomark _)))))))))
            (pss_cons (ps_set (i := 15) scTri.nd rfl (.inl rfl) (pe_op op_add (pv 18) (pv 19)))
              (pss_one (ps_set (i := 16) scTri.nd rfl (.inl rfl) (pv 17))))
            pss_nil)))))
          (pss_cons (ps_dput hu (pv 4) (pe_tup (pa_cons (pv 13) (pa_cons (pv 14) pa_nil))) (pv 15) rfl)
          (pss_one (ps_expr (pe_bm PySem.F.plainAttrs_list PySem.F.slot_list_append PySem.F.type_list_append mt_append (pv 12) (pa_cons (pe_tup (pa_cons (pv 15) (pa_cons (pv 16) pa_nil))) pa_nil)))))))))
        (pss_one (ps_expr (pe_bm PySem.F.plainAttrs_list PySem.F.slot_list_append PySem.F.type_list_append mt_append (pv 9) (pa_cons (pe_tup (pa_cons (pv 10) (pa_cons (pv 11) (pa_cons (pe_ix ix_tup (pe_ix ix_list (pv 12) pe_int (fun _ _ => rfl)) pe_int (fun _ _ => rfl)) (pa_cons (pe_ix ix_tup (pe_ix ix_list (pv 12) pe_int (fun _ _ => rfl)) pe_int (fun _ _ => rfl)) (pa_cons (pe_ix ix_tup (pe_ix ix_list (pv 12) pe_int (fun _ _ => rfl)) pe_int (fun _ _ => rfl)) (pa_cons (pe_ix ix_tup (pe_ix ix_list (pv 12) pe_int (fun _ _ => rfl)) pe_int (fun _ _ => rfl)) pa_nil))))))) pa_nil)))))))
      (pss_one (ps_ret (pv 9)))))))), ?_⟩
    have l16 := okN.len
    have n40 := okN.n40
    have ol := oo.len
    have hLl := pairsL_len okN oo
    obtain ⟨p, c, xs, rfl, hp, hc, hx⟩ := Dp.net_inv hN
    refine q_asgE ⟨.ref p, rfl, .ref po, rfl, .ref p, N, po, os, rfl, hN, okN, hS, oo, fun H1 fp ts s1 nfp efp hT => ?_⟩
    refine q_dnewT fun dp ndp => ?_
    refine q_dnewT fun dw ndw => ?_
    have s2 : Same H1 (upd H1 dp (.dT [])) := same_upd ndp
    have s3 : Same (upd H1 dp (.dT [])) (upd (upd H1 dp (.dT [])) dw (.dT [])) := same_upd ndw
    have dwp : dw ≠ dp := fun e => by
      rw [e, upd_same] at ndw
      cases ndw
    have ndw1 : H1 dw = none := Same.free s2 ndw
    have hp1 := seqT s1 hp
    have hc1 := s1.seq hc
    have hx1 := DpAll.to hx s1
    have hS1 := s1.seq hS
    -- the prices of links
    refine q_forLnk (j1 := 5) (j2 := 6) (j3 := 7) (j4 := 8) (Hb := H1) (vl_ixT (K := K) (vl_var rfl) vl_c (seqT (s2.trans s3) hp1) (atI_nat (j := 1) rfl)) hc1 hx1 (s2.trans s3)
      (fun i σ H3 => ∃ y2 y3 y4 y5 kvs, σ = [some (.ref p), some (.ref po), some (.ref fp), some (.ref dp), some (.ref dw), y2, y3, y4, y5, none, none, none, none, none, none, none, none, none, none, none] ∧ Same H1 H3 ∧ H3 dp = some (.dT kvs) ∧ H3 dw = some (.dT []) ∧ kvs.length ≤ 2 * i ∧ ∀ x y : Int, valV kvs [Sum.inl x, Sum.inl y] = lkv (N.ls.take i) x y)
      ⟨none, none, none, none, [], rfl, s2.trans s3, by rw [upd_ne dwp.symm]; exact upd_same, upd_same, Nat.zero_le _, fun x y => rfl⟩ (fun i σ H3 hP => ?_) (fun i l σ H3 hi hP => ?_) (fun σ H3 hP => ?_)
    · obtain ⟨_, _, _, _, _, _, s3, _⟩ := hP
      exact s3
    · obtain ⟨y2, y3, y4, y5, kvs, rfl, s3, ho, hw, hlen, hv⟩ := hP
      have hil := (List.getElem?_eq_some_iff.mp hi).1
      refine q_dputK (vl_var rfl) (vl_var rfl) (vl_var rfl) (vl_var rfl) ho (Nat.lt_of_le_of_lt (m := 10000) (by omega) (by decide)) fun T nT oT => ?_
      have hl1 := put_len (kvs := kvs) (k := [Sum.inl l.a, Sum.inl l.b]) (v := oV l.t)
      refine g_dputK (vl_var rfl) (vl_var rfl) (vl_var rfl) (vl_var rfl) upd_same (Nat.lt_of_le_of_lt (m := 10000) (by omega) (by decide)) fun T2 nT2 oT2 => ?_
      have hl2 := put_len (kvs := putK kvs [Sum.inl l.a, Sum.inl l.b] (oV l.t)) (k := [Sum.inl l.b, Sum.inl l.a]) (v := oV l.k)
      have s4 : Same H1 (upd (upd H3 T (.tup [.int l.a, .int l.b])) dp (.dT (putK kvs [Sum.inl l.a, Sum.inl l.b] (oV l.t)))) := same_upd' (s3.trans (same_upd nT)) ndp
      have w4 : upd (upd H3 T (.tup [.int l.a, .int l.b])) dp (.dT (putK kvs [Sum.inl l.a, Sum.inl l.b] (oV l.t))) dw = some (.dT []) := by
        rw [upd_ne dwp]
        exact same_upd nT _ _ hw
      refine ⟨_, _, _, _, _, rfl, same_upd' (s4.trans (same_upd nT2)) ndp, upd_same, ?_, by omega, fun x y => ?_⟩
      · rw [upd_ne dwp]
        exact same_upd nT2 _ _ w4
      rw [valV_put, valV_put, hv, take_snoc hi, lkv_snoc]
      unfold lkS
      by_cases c1 : x = l.b ∧ y = l.a
      · rw [if_pos (key2.mpr c1), if_pos c1]
      · rw [if_neg (fun z => c1 (key2.mp z)), if_neg c1]
        by_cases c2 : x = l.a ∧ y = l.b
        · rw [if_pos (key2.mpr c2), if_pos c2]
        · rw [if_neg (fun z => c2 (key2.mp z)), if_neg c2]
    · obtain ⟨z2, z3, z4, z5, kvp, rfl, s4, edp0, edw0, _, hv⟩ := hP
      rw [List.take_length] at hv
      have hlk : ∀ x y, (valV kvp (K2 (x, y))).getD .non = oV (linkW N.ls x y) := fun x y => by
        rw [show valV kvp (K2 (x, y)) = lkv N.ls x y from hv x y]
        exact lkv_linkW okN x y
      refine q_lnew fun ro nro => ?_
      have s5 : Same H3 (upd H3 ro (.lst [])) := same_upd nro
      have nro1 : H1 ro = none := Same.free s4 nro
      have rop : ro ≠ dp := (ne_of_none edp0 nro).symm
      have row_ : ro ≠ dw := (ne_of_none edw0 nro).symm
      refine q_forP (vl_var rfl) (.of ((s4.trans s5) _ _ efp)) hT.len
        (fun i σ H5 => ∃ y10 y11 y12 y13 y14 y15 y16 y17 y18 y19 kvs rs tr, σ = [some (.ref p), some (.ref po), some (.ref fp), some (.ref dp), some (.ref dw), z2, z3, z4, z5, some (.ref ro), y10, y11, y12, y13, y14, y15, y16, y17, y18, y19] ∧ Same H1 H5 ∧ H5 dp = some (.dT kvp) ∧ H5 dw = some (.dT kvs) ∧ WayG kvs rs ∧ H5 ro = some (.lst tr) ∧ RowsT H5 tr rs ∧ rs.map prOf = (pairsL N.ls os).take i ∧
          ∀ (k : Nat) r, rs[k]? = some r → r = mkRow N os (pairsL N.ls os) (rs.take k) r.u r.v)
        ⟨_, _, _, _, _, _, _, _, _, _, [], [], [], rfl, s4.trans s5, s5 _ _ edp0, s5 _ _ edw0, WayG.nil, upd_same, ⟨rfl, fun k r e => by simp at e⟩, by simp, fun k r e => by simp at e⟩ (fun i σ H5 hP => ?_) (fun i u v t σ H5 hi ht hP => ?_) (fun σ H5 hP => ?_)
      · obtain ⟨_, _, _, _, _, _, _, _, _, _, _, _, _, _, s6, _⟩ := hP
        exact ⟨.of (s6 _ _ efp), hT.to s6⟩
      · obtain ⟨y10, y11, y12, y13, y14, y15, y16, y17, y18, y19, kvs, rs, tr, rfl, s6, edp, edw, hW, ero, hR, hpm, hmk⟩ := hP
        have hm : (u, v) ∈ pairsL N.ls os := List.mem_of_getElem? hi
        have hil := (List.getElem?_eq_some_iff.mp hi).1
        have hpp := (mem_pairsL okN oo).mp hm
        have hin := hpp.ins okN
        have huo := oo.mem.mpr hin.1
        have hpl : posOf u os < os.length := (List.getElem?_eq_some_iff.mp (posOf_lt huo)).1
        have hrl : rs.length = i := by
          have := congrArg List.length hpm
          rw [List.length_map, List.length_take] at this
          omega
        refine q_lnew fun M nM => ?_
        have s7 : Same H5 (upd H5 M (.lst [])) := same_upd nM
        have Mw : M ≠ dw := (ne_of_none edw nM).symm
        have nM1 : H1 M = none := Same.free s6 nM
        have nob : ∀ w, w ∈ os.take (posOf u os) → w ≠ u ∧ w ≠ v := fun w hw => by
          have h1 := pos_take (N := N) oo hw
          have h2 := hpp.1
          exact ⟨fun e => by rw [e] at h1; omega, fun e => by rw [e] at h1; omega⟩
        refine q_for2 (a := u) (b := v) (vl_var rfl) (vl_var rfl) (fun _ _ => vl_var rfl) (fun _ _ => vl_var rfl) fun Hk L T1 T2 s10 eL e1 e2 => ?_
        have s5k := s7.trans s10
        have eM : Hk M = some (.lst []) := s10 _ _ upd_same
        have eW : Hk dw = some (.dT kvs) := s5k _ _ edw
        have nT : ∀ a, (a = M ∨ a = dw) → Hk a = some (.lst []) ∨ Hk a = some (.dT kvs) := fun a ha => ha.imp (fun e => by rw [e]; exact eM) fun e => by rw [e]; exact eW
        have oL : ¬ (L = M ∨ L = dw) := fun e => by
          rcases nT L e with z | z <;> rw [eL] at z <;> cases z
        have o1 : ¬ (T1 = M ∨ T1 = dw) := fun e => by
          rcases nT T1 e with z | z <;> rw [e1] at z <;> cases z
        have o2 : ¬ (T2 = M ∨ T2 = dw) := fun e => by
          rcases nT T2 e with z | z <;> rw [e2] at z <;> cases z
        refine ⟨fun i σ H6 => ∃ y13 y14 y15 y16 y17 y18 y19 tr2, σ = [some (.ref p), some (.ref po), some (.ref fp), some (.ref dp), some (.ref dw), z2, z3, z4, z5, some (.ref ro), some (.int u), some (.int v), some (.ref M), y13, y14, y15, y16, y17, y18, y19] ∧ Same (mask (fun a => a = M ∨ a = dw) Hk) (mask (fun a => a = M ∨ a = dw) H6) ∧ H6 dw = some (.dT (([(u, v), (v, u)].take i).foldl (fun kv d => putK kv (K2 d) (oV (triB N os rs u d).1)) kvs)) ∧ H6 M = some (.lst tr2) ∧ OosT H6 tr2 (([(u, v), (v, u)].take i).map (triB N os rs u)),
          mask (fun a => a = M ∨ a = dw) Hk, by rw [mask_ne oL]; exact eL, by rw [mask_ne o1]; exact e1, by rw [mask_ne o2]; exact e2, ⟨_, _, _, _, _, _, _, [], rfl, Same.refl _, eW, eM, ⟨rfl, fun k r e => by simp at e⟩⟩, fun i σ H6 hP => ?_, fun i d σ H6 hi2 hP => ?_, fun σ H6 hP => ?_⟩
        · obtain ⟨_, _, _, _, _, _, _, _, _, s11, _⟩ := hP
          exact s11.trans mask_same
        · obtain ⟨y13, y14, y15, y16, y17, y18, y19, tr2, rfl, s11, edw6, eM6, hO⟩ := hP
          obtain ⟨x, y⟩ := d
          have hdm := List.mem_of_getElem? hi2
          have hxy : (x = u ∨ x = v) ∧ (y = u ∨ y = v) := by
            simp only [List.mem_cons, List.not_mem_nil, or_false] at hdm
            rcases hdm with e | e <;> cases e
            · exact ⟨.inl rfl, .inr rfl⟩
            · exact ⟨.inr rfl, .inl rfl⟩
          have k6 : ∀ a z, H5 a = some z → a ≠ M → a ≠ dw → H6 a = some z := fun a z e h1 h2 => by
            have hn : ¬ (a = M ∨ a = dw) := fun q => q.elim h1 h2
            have := s11 a z (by rw [mask_ne hn]; exact s5k _ _ e)
            rw [mask_ne hn] at this
            exact this
          have s16 : Same H1 H6 := fun a z e => k6 a z (s6 _ _ e) (fun q => by rw [q, nM1] at e; cases e) fun q => by rw [q, ndw1] at e; cases e
          have pM : dp ≠ M := ne_of_none edp nM
          have edp6 := k6 dp _ edp pM (fun q => dwp q.symm)
          -- best and middle
          refine q_dgetO (r := linkW N.ls x y) (vl_var rfl) (fun _ => vl_var rfl) (fun _ => vl_var rfl) edp6 (hlk x y) fun H7 s12 => ?_
          refine q_asg vl_c ?_
          have w7 := s12 _ _ edw6
          have hget : ∀ a b, (∃ w ∈ os.take (posOf u os), w = a ∨ w = b) → (valV (([(u, v), (v, u)].take i).foldl (fun kv d => putK kv (K2 d) (oV (triB N os rs u d).1)) kvs) (K2 (a, b))).getD .non = oV (prR rs a b) := fun a b ⟨w, hw, hab⟩ => by
            obtain ⟨n1, n2⟩ := nob w hw
            rw [kv_fold (f := fun d => oV (triB N os rs u d).1) (k := (a, b)) _ _ fun d hd e => by
              have hd := List.mem_of_mem_take hd
              simp only [List.mem_cons, List.not_mem_nil, or_false] at hd
              rcases hd with rfl | rfl <;> cases e <;> rcases hab with e | e <;> first | exact n1 e | exact n2 e]
            exact hW.ge a b
          have hkl := kv_len (f := fun d => oV (triB N os rs u d).1) ([(u, v), (v, u)].take i) kvs
          have hwl := hW.len
          have hil2 := (List.getElem?_eq_some_iff.mp hi2).1
          have hil2 : i < 2 := hil2
          have hkl : (([(u, v), (v, u)].take i).foldl (fun kv d => putK kv (K2 d) (oV (triB N os rs u d).1)) kvs).length < sizeLine := Nat.lt_of_le_of_lt (m := 10000) (by
            rw [List.length_take] at hkl
            omega) (by decide)
          have htk : ([(u, v), (v, u)].take (i + 1)).foldl (fun kv d => putK kv (K2 d) (oV (triB N os rs u d).1)) kvs = putK (([(u, v), (v, u)].take i).foldl (fun kv d => putK kv (K2 d) (oV (triB N os rs u d).1)) kvs) (K2 (x, y)) (oV (triB N os rs u (x, y)).1) := by
            rw [take_snoc hi2, List.foldl_append]
            rfl
          have htm : ([(u, v), (v, u)].take (i + 1)).map (triB N os rs u) = ([(u, v), (v, u)].take i).map (triB N os rs u) ++ [triB N os rs u (x, y)] := by
            rw [take_snoc hi2, List.map_append]
            rfl
          have ml : tr2.length < sizeLine := by
            rw [hO.len, List.length_map, List.length_take]
            exact Nat.lt_of_le_of_lt (m := 2) (Nat.min_le_right _ _) (by decide)
          generalize ([(u, v), (v, u)].take i).foldl (fun kv d => putK kv (K2 d) (oV (triB N os rs u d).1)) kvs = kv6 at edw6 w7 hget hkl htk
          generalize ([(u, v), (v, u)].take i).map (triB N os rs u) = os6 at hO htm
          have pidx : os[posOf u os]? = some u := posOf_lt huo
          have s17 := s16.trans s12
          refine q_forE ((vn_toI (K := K) (ns := os) (j := posOf u os) (vl_var rfl) (vl_indexL (K := K) (vl_var rfl) (vl_var rfl) (s17.seq hS1) oo.nodup pidx) (s17.seq hS1) (by omega)) _ fun sp H8 s13 nsp esp => ?_)
          have s18 := s17.trans s13
          refine q_forL (K := K) (j := 17) (xs := (os.take (posOf u os)).map V.int) (fun Q q => q) (.of esp)
            (fun i σ H10 => ∃ b m y17 y18 y19, σ = [some (.ref p), some (.ref po), some (.ref fp), some (.ref dp), some (.ref dw), z2, z3, z4, z5, some (.ref ro), some (.int u), some (.int v), some (.ref M), some (.int x), some (.int y), some (oV b), some (oV m), y17, y18, y19] ∧ Same H8 H10 ∧ (b, m) = ((os.take (posOf u os)).take i).foldl (bestStep fun w => addO (prR rs x w) (prR rs w y)) (linkW N.ls x y, none))
            ⟨linkW N.ls x y, none, _, _, _, rfl, Same.refl _, rfl⟩ (fun i σ H10 hP1 => ?_) (fun i x0 σ H10 hi3 hP1 => ?_) (fun σ H10 hP1 => ?_)
          · obtain ⟨_, _, _, _, _, _, s15, _⟩ := hP1
            exact .of (s15 _ _ esp)
          · obtain ⟨b, m, y17, y18, y19, rfl, s15, hf⟩ := hP1
            rw [List.getElem?_map] at hi3
            cases hg : (os.take (posOf u os))[i]? with
            | none =>
              rw [hg] at hi3
              cases hi3
            | some w0 =>
              rw [hg] at hi3
              cases hi3
              have hwm := List.mem_of_getElem? hg
              have w10 := s15 _ _ (s13 _ _ w7)
              have hstep : ((os.take (posOf u os)).take (i + 1)).foldl (bestStep fun w => addO (prR rs x w) (prR rs w y)) (linkW N.ls x y, none) = bestStep (fun w => addO (prR rs x w) (prR rs w y)) (b, m) w0 := by
                rw [take_snoc hg, List.foldl_append, ← hf]
                rfl
              refine q_dgetO (r := prR rs x w0) (vl_var rfl) (fun _ => vl_var rfl) (fun _ => vl_var rfl) w10 (hget x w0 ⟨w0, hwm, .inr rfl⟩) fun H11 s19 => ?_
              refine q_dgetO (r := prR rs w0 y) (vl_var rfl) (fun _ => vl_var rfl) (fun _ => vl_var rfl) (s19 _ _ w10) (hget w0 y ⟨w0, hwm, .inl rfl⟩) fun H12 s20 => ?_
              have s812 := (s15.trans s19).trans s20
              have keepS : bestStep (fun w => addO (prR rs x w) (prR rs w y)) (b, m) w0 = (b, m) → ∃ b' m' y17' y18' y19', [some (V.ref p), some (.ref po), some (.ref fp), some (.ref dp), some (.ref dw), z2, z3, z4, z5, some (.ref ro), some (.int u), some (.int v), some (.ref M), some (.int x), some (.int y), some (oV b), some (oV m), some (.int w0), some (oV (prR rs x w0)), some (oV (prR rs w0 y))] = [some (.ref p), some (.ref po), some (.ref fp), some (.ref dp), some (.ref dw), z2, z3, z4, z5, some (.ref ro), some (.int u), some (.int v), some (.ref M), some (.int x), some (.int y), some (oV b'), some (oV m'), y17', y18', y19'] ∧ Same H8 H12 ∧ (b', m') = ((os.take (posOf u os)).take (i + 1)).foldl (bestStep fun w => addO (prR rs x w) (prR rs w y)) (linkW N.ls x y, none) := fun e => ⟨b, m, _, _, _, rfl, s812, by rw [hstep, e]⟩
              cases e1 : prR rs x w0 with
              | none =>
                rw [e1] at keepS
                refine g_when (b := false) (an_and (k := false) (m := false) (an_test ((vl_notN (vl_var rfl)).is rfl)) fun h => by cases h) (fun h => by cases h) (fun _ => ?_)
                refine keepS (bs_none ?_)
                show addO (prR rs x w0) (prR rs w0 y) = none
                rw [e1]
                rfl
              | some a1 =>
                cases e2 : prR rs w0 y with
                | none =>
                  rw [e1, e2] at keepS
                  refine g_when (b := false) ((an_and (k := true) (m := false) (an_test ((vl_notN (vl_var rfl)).is rfl)) fun _ => an_and (k := false) (m := false) (an_test ((vl_notN (vl_var rfl)).is rfl)) fun h => by cases h).is rfl) (fun h => by cases h) (fun _ => ?_)
                  refine keepS (bs_none ?_)
                  show addO (prR rs x w0) (prR rs w0 y) = none
                  rw [e1, e2]
                  rfl
                | some c1 =>
                  rw [e1, e2] at keepS
                  have hsum : (fun w => addO (prR rs x w) (prR rs w y)) w0 = some (a1 + c1) := by
                    show addO (prR rs x w0) (prR rs w0 y) = some (a1 + c1)
                    rw [e1, e2]
                    rfl
                  cases b with
                  | none =>
                    refine g_when (b := true) ((an_and (k := true) (m := true) (an_test ((vl_notN (vl_var rfl)).is rfl)) fun _ => an_and (k := true) (m := true) (an_test ((vl_notN (vl_var rfl)).is rfl)) fun _ => an_or (k := true) (m := true) (an_test ((vl_isN (vl_var rfl)).is rfl)) fun h => by cases h).is rfl) (fun _ => ?_) (fun h => by cases h)
                    refine q_asg (v := .int (a1 + c1)) (vl_I0 (g := fun i j => .int (i + j)) (vl_var rfl) (vl_var rfl)) ?_
                    exact g_asg (v := .int w0) (vl_var rfl) ⟨some (a1 + c1), some w0, _, _, _, rfl, s812, by rw [hstep, bs_first hsum]⟩
                  | some b0 =>
                    refine g_when (b := decide (a1 + c1 < b0)) ((an_and (k := true) (m := decide (a1 + c1 < b0)) (an_test ((vl_notN (vl_var rfl)).is rfl)) fun _ => (an_and (k := true) (m := decide (a1 + c1 < b0)) (an_test ((vl_notN (vl_var rfl)).is rfl)) fun _ => (an_or (k := false) (m := decide (a1 + c1 < b0)) (an_test ((vl_isN (vl_var rfl)).is rfl)) fun _ => an_test (vl_I0 (g := fun i j => .bl (decide (i < j))) (vl_I0 (g := fun i j => .int (i + j)) (vl_var rfl) (vl_var rfl)) (vl_var rfl))).is (Bool.false_or _)).is (Bool.true_and _)).is (Bool.true_and _)) (fun hc => ?_) (fun hc => ?_)
                    · refine q_asg (v := .int (a1 + c1)) (vl_I0 (g := fun i j => .int (i + j)) (vl_var rfl) (vl_var rfl)) ?_
                      refine g_asg (v := .int w0) (vl_var rfl) ⟨some (a1 + c1), some w0, _, _, _, rfl, s812, ?_⟩
                      rw [hstep, bs_next hsum]
                      exact (if_pos (of_decide_eq_true hc)).symm
                    · refine keepS ?_
                      rw [bs_next hsum]
                      exact if_neg (of_decide_eq_false hc)
          · obtain ⟨b, m, y17, y18, y19, rfl, s15, hf⟩ := hP1
            rw [List.length_map, List.take_length] at hf
            have hbm : triB N os rs u (x, y) = (b, m) := hf.symm
            have s610 := (s12.trans s13).trans s15
            rw [hbm] at htk htm
            refine q_dputK (v := oV b) (y1 := x) (y2 := y) (vl_var rfl) (vl_var rfl) (vl_var rfl) (vl_var rfl) (s610 _ _ edw6) hkl fun T nT oT => ?_
            have s10T : Same H10 (upd H10 T (.tup [.int x, .int y])) := same_upd nT
            have eM10 := s10T _ _ (s610 _ _ eM6)
            have eMp : upd (upd H10 T (.tup [.int x, .int y])) dw (.dT (putK kv6 [.inl x, .inl y] (oV b))) M = some (.lst tr2) := by
              rw [upd_ne Mw]
              exact eM10
            have hOp : OosT (upd (upd H10 T (.tup [.int x, .int y])) dw (.dT (putK kv6 [.inl x, .inl y] (oV b)))) tr2 os6 := (hO.to (s610.trans s10T)).upd fun xs e => by
              rw [s10T _ _ (s610 _ _ edw6)] at e
              cases e
            have msk : Same (mask (fun a => a = M ∨ a = dw) Hk) (mask (fun a => a = M ∨ a = dw) (upd (upd H10 T (.tup [.int x, .int y])) dw (.dT (putK kv6 [.inl x, .inl y] (oV b))))) := by
              rw [mask_upd (.inr rfl)]
              exact s11.trans (mask_mono (s610.trans s10T))
            have edp_ : upd (upd H10 T (.tup [.int x, .int y])) dw (.dT (putK kv6 [.inl x, .inl y] (oV b))) dw = some (.dT (putK kv6 [.inl x, .inl y] (oV b))) := upd_same
            generalize upd (upd H10 T (.tup [.int x, .int y])) dw (.dT (putK kv6 [.inl x, .inl y] (oV b))) = H13 at eMp hOp msk edp_ ⊢
            refine g_appOO (p := b) (m := m) (vl_var rfl) eMp (vl_var rfl) (vl_var rfl) ml fun T3 nT3 => ?_
            have s13T : Same H13 (upd H13 T3 (.tup [oV b, oV m])) := same_upd nT3
            refine ⟨_, _, _, _, _, _, _, tr2 ++ [.ref T3], rfl, ?_, ?_, upd_same, ?_⟩
            · rw [mask_upd (.inl rfl)]
              exact msk.trans (mask_mono s13T)
            · rw [upd_ne Mw.symm, htk]
              exact s13T _ _ edp_
            · rw [htm]
              refine OosT.upd (OosT.app (hOp.to s13T) upd_same) fun xs e => ?_
              rw [s13T _ _ eMp] at e
              cases e
        · obtain ⟨y13, y14, y15, y16, y17, y18, y19, tr2, rfl, s11, edw6, eM6, hO⟩ := hP
          have k6 : ∀ a z, H5 a = some z → a ≠ M → a ≠ dw → H6 a = some z := fun a z e h1 h2 => by
            have hn : ¬ (a = M ∨ a = dw) := fun q => q.elim h1 h2
            have := s11 a z (by rw [mask_ne hn]; exact s5k _ _ e)
            rw [mask_ne hn] at this
            exact this
          have s16 : Same H1 H6 := fun a z e => k6 a z (s6 _ _ e) (fun q => by rw [q, nM1] at e; cases e) fun q => by rw [q, ndw1] at e; cases e
          have pM : dp ≠ M := ne_of_none edp nM
          have edp6 := k6 dp _ edp pM (fun q => dwp q.symm)
          have roM : ro ≠ M := ne_of_none ero nM
          have ero6 := k6 ro _ ero roM row_
          have hR6 : RowsT H6 tr rs := ⟨hR.len, fun k r e => by
            obtain ⟨t, z1, z2⟩ := hR.at_ k r e
            refine ⟨t, z1, k6 t _ z2 (fun q => ?_) fun q => ?_⟩
            · rw [q, nM] at z2
              cases z2
            · rw [q, edw] at z2
              cases z2⟩
          obtain ⟨ta, g1, g2⟩ := hO.at_ 0 (triB N os rs u (u, v)) rfl
          obtain ⟨tb, g3, g4⟩ := hO.at_ 1 (triB N os rs u (v, u)) rfl
          have q0 : ∀ H' σ, Same H6 H' → Vl (tVar 12) σ H' (.ref M) → Vl (tOp (rIxL K) (tVar 12) (tC (.int 0))) σ H' (.ref ta) := fun H' σ s' h => vl_ixL h vl_c (.of (s' _ _ eM6)) (atI_nat (j := 0) g1)
          have q1 : ∀ H' σ, Same H6 H' → Vl (tVar 12) σ H' (.ref M) → Vl (tOp (rIxL K) (tVar 12) (tC (.int 1))) σ H' (.ref tb) := fun H' σ s' h => vl_ixL h vl_c (.of (s' _ _ eM6)) (atI_nat (j := 1) g3)
          have erow : mkRow N os (pairsL N.ls os) rs u v = ⟨u, v, (triB N os rs u (u, v)).1, (triB N os rs u (v, u)).1, (triB N os rs u (u, v)).2, (triB N os rs u (v, u)).2⟩ := tri_row okN oo hpm hi
          have hWs := hW.step (r := mkRow N os (pairsL N.ls os) rs u v) okN oo hpm hi
          refine g_appRow (r := mkRow N os (pairsL N.ls os) rs u v) (vl_var rfl) ero6 (by rw [hR.len, hrl]; exact Nat.lt_of_le_of_lt (m := 10000) (by omega) (by decide)) (vl_var rfl) (vl_var rfl)
            (ve_of ((vl_ixT (K := K) (q0 _ _ (Same.refl _) (vl_var rfl)) vl_c (.of g2) (atI_nat (j := 0) rfl)).is (by rw [erow]))) (fun H' s' => ve_of ((vl_ixT (K := K) (q1 _ _ s' (vl_var rfl)) vl_c (.of (s' _ _ g4)) (atI_nat (j := 0) rfl)).is (by rw [erow])))
            (fun H' s' => (vl_ixT (K := K) (q0 _ _ s' (vl_var rfl)) vl_c (.of (s' _ _ g2)) (atI_nat (j := 1) rfl)).is (by rw [erow])) (fun H' s' => (vl_ixT (K := K) (q1 _ _ s' (vl_var rfl)) vl_c (.of (s' _ _ g4)) (atI_nat (j := 1) rfl)).is (by rw [erow])) fun T H7 s12 nT => ?_
          have s7T : Same H7 (upd H7 T (.tup (rowV (mkRow N os (pairsL N.ls os) rs u v)))) := same_upd nT
          have s67 := s12.trans s7T
          refine ⟨_, _, _, _, _, _, _, _, _, _, putK (putK kvs (K2 (u, v)) (oV (triB N os rs u (u, v)).1)) (K2 (v, u)) (oV (triB N os rs u (v, u)).1), rs ++ [mkRow N os (pairsL N.ls os) rs u v], tr ++ [.ref T], rfl, same_upd' (s16.trans s67) nro1, ?_, ?_, ?_, upd_same, ?_, ?_, fun k r' hk => ?_⟩
          · rw [upd_ne rop.symm]
            exact s67 _ _ edp6
          · rw [upd_ne row_.symm]
            exact s67 _ _ edw6
          · have ea : putK (putK kvs (K2 (u, v)) (oV (triB N os rs u (u, v)).1)) (K2 (v, u)) (oV (triB N os rs u (v, u)).1) = putK (putK kvs (K2 ((mkRow N os (pairsL N.ls os) rs u v).u, (mkRow N os (pairsL N.ls os) rs u v).v)) (oV (mkRow N os (pairsL N.ls os) rs u v).up)) (K2 ((mkRow N os (pairsL N.ls os) rs u v).v, (mkRow N os (pairsL N.ls os) rs u v).u)) (oV (mkRow N os (pairsL N.ls os) rs u v).dn) := by
              rw [erow]
            exact ea ▸ hWs
          · exact RowsT.upd (RowsT.app (hR6.to s67) upd_same) fun xs e => by
              rw [s67 _ _ ero6] at e
              cases e
          · rw [List.map_append, hpm, take_snoc hi]
            rfl
          · by_cases hkl : k < rs.length
            · rw [List.getElem?_append_left hkl] at hk
              rw [List.take_append_of_le_length (by omega)]
              exact hmk k r' hk
            · rw [List.getElem?_append_right (by omega)] at hk
              have e0 : k - rs.length = 0 := by
                have := (List.getElem?_eq_some_iff.mp hk).1
                simp at this
                exact this
              rw [e0] at hk
              cases hk
              have ek : k = rs.length := by omega
              rw [ek, List.take_left' rfl]
              rfl
      · obtain ⟨y10, y11, y12, y13, y14, y15, y16, y17, y18, y19, kvs, rs, tr, rfl, s6, edp, edw, hW, ero, hR, hpm, hmk⟩ := hP
        rw [List.take_length] at hpm
        exact g_ret (vl_var rfl) (q H5 ro tr rs (s1.trans s6) (Same.free s1 nro1) ero hR.dp ((fill_iff okN oo).mpr ⟨hpm, hmk⟩))
end
end Ovc
namespace SrtO
open PySem PyProof.Rows Srt
section
variable {prog : Program} {w : World} {A : Around} {E : Value → Shared → Prop} {s : Shared}
/-- a tuple of four whose first two are ints -/
def IsQuad (h : Heap) (v : Value) (x y : Int) : Prop := ∃ a o t u c d n, v = .ref a ∧ h.get? a = some o ∧ o.cls = .type "tuple" ∧ o.data = .seq #[.int x t, .int y u, c, d] n
theorem IsQuad.keeps {h h' : Heap} {v : Value} {x y : Int} (p : IsQuad h v x y) (k : ∀ b o, h.get? b = some o → o.cls = .type "tuple" → h'.get? b = some o) : IsQuad h' v x y := by
  obtain ⟨a, o, t, u, c, d, n, e, ho, hc, hd⟩ := p
  exact ⟨a, o, t, u, c, d, n, e, k _ _ ho hc, hc, hd⟩
theorem firsts_quad {h : Heap} : ∀ {vs : List Value}, (∀ v ∈ vs, ∃ x y, IsQuad h v x y) → ∃ fs : List Value, PySem.W.KatTups h vs fs ∧ fs.length = vs.length ∧ ∀ f ∈ fs, ∃ x t, f = Value.int x t
  | [], _ => ⟨[], PySem.W.KatTups.nil, rfl, fun _ hm => by simp at hm⟩
  | v :: vs, hp => by
    obtain ⟨fs, h1, h2, h3⟩ := firsts_quad (vs := vs) fun v' hm => hp v' (List.mem_cons_of_mem _ hm)
    obtain ⟨x, y, a, o, t, u, c, d, n, e, ho, hc, hd⟩ := hp v (List.mem_cons_self ..)
    subst e
    refine ⟨.int x t :: fs, PySem.W.KatTups.cons ho hc hd rfl h1, by rw [List.length_cons, List.length_cons, h2], fun f hm => ?_⟩
    rcases List.mem_cons.mp hm with rfl | hm
    · exact ⟨x, t, rfl⟩
    · exact h3 f hm
theorem quad_cmp {vs : List Value} {k : Value → Int × Int} (hp : ∀ v ∈ vs, IsQuad s.heap v (k v).1 (k v).2) (hinj : ∀ v ∈ vs, ∀ u ∈ vs, k v = k u → v = u) : Cmp prog w A s (tuples' true) (fun p => p.1 ∈ vs) (lt2 fun v u => lexB (k v) (k u)) := by
  intro p q hm hm'
  have h1 := hp _ hm
  have h2 := hp _ hm'
  have hi := hinj _ hm _ hm'
  show wpAny (model prog w) A (keyLt' (tuples' true) p.1 q.1) (fun r s' => s' = s ∧ r = lexB (k p.1) (k q.1)) (fun _ _ => False) s
  unfold lexB
  have hi : (k p.1).1 = (k q.1).1 → (k p.1).2 = (k q.1).2 → p.1 = q.1 := fun e1 e2 => hi (Prod.ext e1 e2)
  generalize (k p.1).1 = x at h1 hi ⊢
  generalize (k p.1).2 = y at h1 hi ⊢
  generalize (k q.1).1 = x' at h2 hi ⊢
  generalize (k q.1).2 = y' at h2 hi ⊢
  obtain ⟨a, o, t, u, c, d, n, e, ho, hc, hd⟩ := h1
  obtain ⟨a', o', t', u', c', d', n', e', ho', hc', hd'⟩ := h2
  rw [e, e'] at hi
  rw [e, e']
  refine PySem.W.kat_lt ho hd ho' hd' ?_
  show PySem.W.KatLex prog w A true (decide (4 < 4)) _ [(.int x t, .int x' t'), (.int y u, .int y' u'), (c, c'), (d, d')] 0 s
  refine PySem.W.kat_cons (SeqAt.EqAt.int_int x t x' t' prog w _ _ ?_)
  refine PySem.W.kat_go (fun e1 => ?_) (fun e1 => ?_)
  · have ex : x = x' := by simpa using e1
    refine PySem.W.kat_yes (PySem.W.kat_cons (SeqAt.EqAt.int_int y u y' u' prog w _ _ ?_))
    refine PySem.W.kat_go (fun e2 => ?_) (fun e2 => ?_)
    · have ey : y = y' := by simpa using e2
      have e3 : (if x = x' then decide (y < y') else decide (x < x')) = false := by
        rw [if_pos ex, ey]
        exact decide_eq_false (Int.lt_irrefl _)
      have ea : a = a' := Value.ref.inj (hi ex ey)
      subst ea
      cases Option.some.inj (ho.symm.trans ho')
      rw [hd] at hd'
      injection hd' with h4 _
      have h4 := congrArg Array.toList h4
      injection h4 with _ h4
      injection h4 with _ h4
      injection h4 with ec h4
      injection h4 with ed _
      subst ec
      subst ed
      refine PySem.W.kat_yes (PySem.W.kat_cons (SeqAt.EqAt.same c prog w _ _ ?_))
      refine PySem.W.kat_yes (PySem.W.kat_cons (SeqAt.EqAt.same d prog w _ _ ?_))
      exact PySem.W.kat_yes (PySem.W.kat_nil ⟨rfl, e3.symm⟩)
    · have e3 : (if x = x' then decide (y < y') else decide (x < x')) = decide (y < y') := if_pos ex
      refine PySem.W.kat_no (PySem.W.kat_one _ _ (PyProof.Rows.lt_int ?_))
      exact (show s = s ∧ decide (y < y') = (if x = x' then decide (y < y') else decide (x < x')) from ⟨rfl, e3.symm⟩)
  · have ex : ¬ x = x' := by simpa using e1
    have e3 : (if x = x' then decide (y < y') else decide (x < x')) = decide (x < x') := if_neg ex
    exact PySem.W.kat_no (oneLt_int ⟨rfl, e3.symm⟩)
theorem quads_sortableO {a : Addr} {vs : List Value} {k : Value → Int × Int} (h0 : 0 < vs.length) (hp : ∀ v ∈ vs, IsQuad s.heap v (k v).1 (k v).2) (hinj : ∀ v ∈ vs, ∀ u ∈ vs, k v = k u → v = u) (ha : ∀ o, s.heap.get? a = some o → o.cls ≠ .type "tuple") : SortableO prog w A s a vs fun v u => lexB (k v) (k u) := by
  intro h' keep
  have hp' : ∀ v ∈ vs, IsQuad h' v (k v).1 (k v).2 := fun v hm => (hp v hm).keeps fun b o e c => keep b o (fun z => by subst z; exact ha o e c) e
  obtain ⟨fs, h1, h2, h3⟩ := firsts_quad fun v hm => ⟨_, _, hp' v hm⟩
  refine ⟨tuples' true, fun Q E hq => ?_, quad_cmp hp' hinj⟩
  refine PySem.W.kat_kind (T := .type "int") h1 (by omega) (fun f hm => ?_) (by rfl) ?_
  · obtain ⟨x, t, rfl⟩ := h3 f hm
    exact PySem.W.Looks.now
  · have e : (Value.type "int" != Value.type "tuple") = true := by first | decide +kernel | rfl | decide
    rw [e]
    exact hq
theorem sorted_quadsO {l : Addr} {vs : List Value} {k : Value → Int × Int} {Q : Value → Shared → Prop} (hl : s.heap.IsList l vs.toArray) (hz : vs.length ≤ sizeLine) (hp : ∀ v ∈ vs, IsQuad s.heap v (k v).1 (k v).2) (hinj : ∀ v ∈ vs, ∀ u ∈ vs, k v = k u → v = u)
    (h : ∀ (h' : Heap) (d : Addr) (out : List Value), Srtd (fun v u => lexB (k v) (k u)) out → Stb (fun v u => lexB (k v) (k u)) out vs → (∀ b o, s.heap.get? b = some o → h'.get? b = some o) → s.heap.objs.size ≤ d → (∃ n, h'.get? d = some (seqObj "list" out.toArray n)) → Q (.ref d) { s with heap := h' }) :
    wpAny (model prog w) A (call (.builtin "sorted") [.ref l]) Q E s := by
  refine sorted_ord (swo_lex k) hl hz (fun h2 h₁ a ha kk => ?_) fun out hs hb => ?_
  · refine quads_sortableO (s := { s with heap := h₁ }) (by omega) (fun v hm => (hp v hm).keeps fun b o e _ => (kk b o e).2) hinj fun o e => ?_
    have e' : some o = some (seqObj "list" vs.toArray 0) := e.symm.trans ha
    cases e'
    intro c
    exact absurd (Value.type.inj c) (by decide)
  · exact h _ _ out hs hb (fun b o e => sortedAll_old e) (Nat.le_succ _) (sortedAll_at s.heap vs out.toArray)
end
end SrtO
namespace L2
open PySem PySem.Spec PyProof.Rows
/-- sorted(xs), xs a list of tuples of four, no two alike in their first two, ints: a new list, sorted by these -/
def rSortedQ (K : PySem.W.Frag) : List V → Hp → VK → Prop := fun vs H Q => ∃ (a : Addr) (xs : List V) (k : V → Int × Int), vs = [V.ref a] ∧ SqL K H a xs ∧ (∀ x ∈ xs, ∃ t c d, x = V.ref t ∧ H t = some (.tup [.int (k x).1, .int (k x).2, c, d])) ∧ (∀ x ∈ xs, ∀ y ∈ xs, k x = k y → x = y) ∧
  ∀ ys p, SrtO.Srtd (ltP k) ys → SrtO.Stb (ltP k) ys xs → H p = none → Q (.ref p) (upd H p (.lst ys))
theorem vals4q {x y z t : V} {us : List Value} (r : Vals [x, y, z, t] us) : ∃ u1 u2 u3 u4, us = [u1, u2, u3, u4] ∧ RelV x u1 ∧ RelV y u2 := by
  cases r with
  | cons r1 r2 =>
    cases r2 with
    | cons r2 r3 =>
      cases r3 with
      | cons r3 r4 =>
        cases r4 with
        | cons r4 r5 =>
          cases r5
          exact ⟨_, _, _, _, rfl, r1, r2⟩
section
variable {X : Cx}
theorem cr_sortedQ : CallR X (.builtin "sorted") (rSortedQ X.K) := by
  intro pins s σ H vs us Q I r h
  obtain ⟨a, xs, k, rfl, hs, hx, hinj, q⟩ := h
  obtain ⟨its, rv, hl, hz⟩ := I.list hs
  obtain ⟨u, rfl, ru⟩ := vals1 r
  obtain rfl : u = Value.ref a := ru
  obtain ⟨e1, e2⟩ := refs_back rv fun x m => by
    obtain ⟨t, _, _, e, _⟩ := hx x m
    exact ⟨t, e⟩
  refine SrtO.sorted_quadsO (k := fun u => k (backV u)) hl.isList (by rw [← rv.length]; exact hz) (fun v hv => ?_) (fun v hv u hu e => ?_) fun h' d out h1 h2 kp hd hn => ?_
  · obtain ⟨t, rfl⟩ := e2 v hv
    have hm : V.ref t ∈ xs := by rw [e1]; exact List.mem_map.mpr ⟨_, hv, rfl⟩
    obtain ⟨t', c, d, e, ht⟩ := hx _ hm
    cases e
    obtain ⟨_, its2, r2, o, ho, hc, n, hd⟩ := I.hok _ _ ht
    obtain ⟨u1, u2, u3, u4, rfl, ri, rj⟩ := vals4q r2
    obtain ⟨t1, rfl⟩ := ri
    obtain ⟨t2, rfl⟩ := rj
    exact ⟨t, o, t1, t2, u3, u4, n, rfl, ho, hc, hd⟩
  · obtain ⟨t, rfl⟩ := e2 v hv
    obtain ⟨t', rfl⟩ := e2 u hu
    have hm : V.ref t ∈ xs := by rw [e1]; exact List.mem_map.mpr ⟨_, hv, rfl⟩
    have hm' : V.ref t' ∈ xs := by rw [e1]; exact List.mem_map.mpr ⟨_, hu, rfl⟩
    cases hinj _ hm _ hm' e
    rfl
  · have h3 : ∀ u ∈ out, ∃ a, u = Value.ref a := fun u hu => e2 u (h2.perm.mem_iff.mp hu)
    obtain ⟨n, hn⟩ := hn
    have hb : SrtO.Stb (ltP k) (out.map backV) xs := by
      rw [e1]
      exact SrtO.Stb.map (ltP_swo k) backV h2
    refine ⟨.ref d, upd H d (.lst (out.map backV)), I.laid (t' := s.toks) kp hd ⟨?_, out, n, vals_back h3, hn⟩, rfl, q _ d (SrtO.srtd_map h1) hb (I.hok.fresh hd)⟩
    rw [hb.len]
    exact hz
end
end L2
namespace Ovc
open PySem PySem.Spec PyProof.Rows L2
/-! ### the law's great net -/
/-- links in the heap, each by itself -/
structure LnkT (H : Hp) (xs : List V) (ls : List Lnk) : Prop where
  len : xs.length = ls.length
  at_ : ∀ (k : Nat) l, ls[k]? = some l → ∃ t, xs[k]? = some (.ref t) ∧ H t = some (.tup [.int l.a, .int l.b, oV l.t, oV l.k])
theorem LnkT.to {H H' : Hp} {xs : List V} {ls : List Lnk} (h : LnkT H xs ls) (s : Same H H') : LnkT H' xs ls := ⟨h.len, fun k r e => let ⟨t, e1, e2⟩ := h.at_ k r e; ⟨t, e1, s _ _ e2⟩⟩
theorem LnkT.app {H : Hp} {xs : List V} {ls : List Lnk} {T : Addr} {l : Lnk} (h : LnkT H xs ls) (e : H T = some (.tup [.int l.a, .int l.b, oV l.t, oV l.k])) : LnkT H (xs ++ [.ref T]) (ls ++ [l]) := by
  refine ⟨by rw [List.length_append, List.length_append, h.len]; rfl, fun k q hk => ?_⟩
  by_cases c : k < ls.length
  · rw [List.getElem?_append_left c] at hk
    obtain ⟨t, e1, e2⟩ := h.at_ k q hk
    exact ⟨t, by rw [List.getElem?_append_left (by rw [h.len]; exact c)]; exact e1, e2⟩
  · rw [List.getElem?_append_right (by omega)] at hk
    have e0 : k - ls.length = 0 := by
      have := (List.getElem?_eq_some_iff.mp hk).1
      simp at this
      exact this
    rw [e0] at hk
    cases hk
    refine ⟨T, ?_, e⟩
    rw [List.getElem?_append_right (by rw [h.len]; omega), h.len, e0]
    rfl
theorem LnkT.dp {K : PySem.W.Frag} {H : Hp} : ∀ {xs : List V} {ls : List Lnk}, LnkT H xs ls → DpAll K H xs (ls.map lnkD)
  | [], [], _ => .nil
  | [], _ :: _, h => absurd h.len (by simp)
  | _ :: _, [], h => absurd h.len (by simp)
  | x :: tr, r :: rs, h => by
    obtain ⟨t, e1, e2⟩ := h.at_ 0 r rfl
    cases Option.some.inj e1
    exact .cons (Dp.lnk (l := r) (.of e2)) (LnkT.dp ⟨Nat.succ.inj h.len, fun k r e => h.at_ (k + 1) r e⟩)
def kQ (H : Hp) : V → Int × Int
  | .ref t => match H t with
    | some (.tup [.int a, .int b, _, _]) => (a, b)
    | _ => (0, 0)
  | _ => (0, 0)
theorem kQ_at {H : Hp} {t : Addr} {a b : Int} {c d : V} (h : H t = some (.tup [.int a, .int b, c, d])) : kQ H (.ref t) = (a, b) := by
  show (match H t with
    | some (.tup [.int a, .int b, _, _]) => (a, b)
    | _ => (0, 0)) = (a, b)
  rw [h]
theorem LnkT.key {H : Hp} {xs : List V} {ls : List Lnk} (h : LnkT H xs ls) {i : Nat} {x : V} (hx : xs[i]? = some x) : ∃ l t, ls[i]? = some l ∧ x = .ref t ∧ H t = some (.tup [.int l.a, .int l.b, oV l.t, oV l.k]) ∧ kQ H x = (l.a, l.b) := by
  have hl := (List.getElem?_eq_some_iff.mp hx).1
  have hg : ls[i]? = some (ls[i]'(by rw [← h.len]; exact hl)) := List.getElem?_eq_getElem (by rw [← h.len]; exact hl)
  obtain ⟨t, e1, e2⟩ := h.at_ i _ hg
  cases Option.some.inj (hx.symm.trans e1)
  exact ⟨_, t, hg, rfl, e2, kQ_at e2⟩
theorem LnkT.srt {H : Hp} {xs : List V} {ls : List Lnk} (h : LnkT H xs ls) (lt : ls.Pairwise LnkLt) : SrtO.Srtd (ltP (kQ H)) xs := by
  refine List.pairwise_iff_getElem.mpr fun i j hi hj ij => ?_
  obtain ⟨l, t, e1, _, _, k1⟩ := h.key (List.getElem?_eq_getElem hi)
  obtain ⟨m, u, e2, _, _, k2⟩ := h.key (List.getElem?_eq_getElem hj)
  have hli := (List.getElem?_eq_some_iff.mp e1).1
  have hlj := (List.getElem?_eq_some_iff.mp e2).1
  have := List.pairwise_iff_getElem.mp lt i j hli hlj ij
  rw [(List.getElem?_eq_some_iff.mp e1).2, (List.getElem?_eq_some_iff.mp e2).2] at this
  show SrtO.lexB (kQ H xs[j]) (kQ H xs[i]) = false
  rw [k1, k2]
  refine SrtO.lexB_no.mpr ?_
  rcases this with z | z <;> dsimp only <;> omega
theorem LnkT.inj {H : Hp} {xs : List V} {ls : List Lnk} (h : LnkT H xs ls) (lt : ls.Pairwise LnkLt) : ∀ x ∈ xs, ∀ y ∈ xs, kQ H x = kQ H y → x = y := fun x hx y hy e => by
  obtain ⟨i, hi⟩ := List.mem_iff_getElem?.mp hx
  obtain ⟨j, hj⟩ := List.mem_iff_getElem?.mp hy
  obtain ⟨l, t, e1, _, _, k1⟩ := h.key hi
  obtain ⟨m, u, e2, _, _, k2⟩ := h.key hj
  rw [k1, k2] at e
  have ea := congrArg Prod.fst e
  have eb := congrArg Prod.snd e
  dsimp only at ea eb
  have hli := (List.getElem?_eq_some_iff.mp e1).1
  have hlj := (List.getElem?_eq_some_iff.mp e2).1
  have ij : i = j := by
    rcases Nat.lt_trichotomy i j with c | c | c
    · have := List.pairwise_iff_getElem.mp lt i j hli hlj c
      rw [(List.getElem?_eq_some_iff.mp e1).2, (List.getElem?_eq_some_iff.mp e2).2] at this
      rcases this with z | z <;> omega
    · exact c
    · have := List.pairwise_iff_getElem.mp lt j i hlj hli c
      rw [(List.getElem?_eq_some_iff.mp e1).2, (List.getElem?_eq_some_iff.mp e2).2] at this
      rcases this with z | z <;> omega
  rw [ij, hj] at hi
  exact (Option.some.inj hi).symm
/-- for b in [x, y, z], made at once of ints -/
theorem g_for3I {K : PySem.W.Frag} {σ : L2.St} {H : Hp} {D : Ends} {tz : TS} {t0 t1 t2 : TE} {j : Nat} {P0 P1 P2 : Int → Prop} (h0 : Vi t0 σ H P0) (h1 : Vi t1 σ H P1) (h2 : Vi t2 σ H P2)
    (k : ∀ x y z L, P0 x → P1 y → P2 z → H L = none → tFor (iList K fun _ H' Q => Q (.ref L) H') (gName j) tz D σ (upd H L (.lst [.int x, .int y, .int z]))) :
    tFor (iList K (tLst (tCons t0 (tCons t1 (tCons t2 tNil))))) (gName j) tz D σ H :=
  g_forE (h0 _ fun x hx => h1 _ fun y hy => h2 _ fun z hz => ⟨by show 3 ≤ sizeLine; decide, fun L nL => k x y z L hx hy hz nL⟩)
abbrev sGreat : Stmt := topS 28
theorem scGreat : FnScope ["draws", "first", "count", "links", "a", "b", "cell"] ["draws", "first"] (defScope sGreat) := ⟨rfl, rfl, rfl, by decide +kernel, rfl, by decide +kernel, by decide +kernel⟩
def spGreat (K : PySem.W.Frag) : Sp := fun vs H Q _ => ∃ (a : Addr) (ds : List Int) (k : Int), vs = [.ref a, .int k] ∧ SqL K H a (ds.map V.int) ∧ 0 ≤ k ∧
  ∀ H' v N, Same H H' → NetAt K H' v N → NetOk N → Q v H'
section
variable {P : Program} {w : World} {K : PySem.W.Frag} {mg : Str → Option Value} {base : Heap}
theorem ok_great {f : Addr} {fd : FuncData} (F : Fun K "_law_great" "_law_great" sGreat f fd) (c_law_at : Kal P w K mg base 1 "_law_at" ["draws", "k", "many"] (spAt K)) (c_law_price : Kal P w K mg base 1 "_law_price" ["cell"] spPrice2) (mr : mg "range" = none) (mi : mg "int" = none) (mo : mg "sorted" = none) : FnOk P w K mg base CX0 2 f fd ["draws", "first"] (spGreat K) := by
  refine F.ok scGreat (fun vs H Q E h => ?_) (fun cdv A outer s H vs Q E hr h => ?_)
  · obtain ⟨a, ds, k, rfl, _⟩ := h
    rfl
  · obtain ⟨a, ds, k, rfl, hS, hk, q⟩ := h
    have hu := hu_of hr
    refine ⟨_, pss_cons (ps_set (i := 2) scGreat.nd rfl (.inl rfl) (pe_op op_add pe_int (pe_k c_law_at hr (by first | decide | omega) (by rfl) (pa_cons (pv 0) (pa_cons (pv 1) (pa_cons pe_int pa_nil))))))
      (pss_cons (ps_set (i := 3) scGreat.nd rfl (.inl rfl) (pe_lst pa_nil))
      (pss_cons (ps_for PassesOwn.never rfl (pi_range1 (by rfl) mr (pa_cons (pv 2) pa_nil)) (pg_name (i := 4) scGreat.nd rfl (.inl rfl))
      (pss_one (ps_for PassesOwn.never rfl (pi_list (pe_lst (pa_cons (pe_op op_add (pv 4) pe_int) (pa_cons (pe_op op_add (pe_op op_add (pv 4) pe_int) (pe_k c_law_at hr (by first | decide | omega) (by rfl) (pa_cons (pv 0) (pa_cons (pe_op op_add (pv 1) pe_int) (pa_cons pe_int pa_nil))))) (pa_cons (pe_op op_add (pe_op op_add (pv 4) pe_int) (pe_op op_mod (pe_callTy call_int1 (by rfl) mi (by decide +kernel) (pa_cons (pe_op op_fdiv (pe_k c_law_at hr (by first | decide | omega) (by rfl) (pa_cons (pv 0) (pa_cons (pe_op op_add (pv 1) pe_int) (pa_cons pe_int pa_nil)))) (pe_op op_add (pv 4) pe_int)) pa_nil)) pe_int)) pa_nil))))) (pg_name (i := 5) scGreat.nd rfl (.inl rfl))
        (pss_cons (ps_set (i := 6) scGreat.nd rfl (.inl rfl) (pe_op op_add (pe_op op_add (pe_k c_law_at hr (by first | decide | omega) (by rfl) (pa_cons (pv 0) (pa_cons (pe_op op_add (pe_op op_add (pv 1) pe_int) (pe_op op_mod (pe_callTy call_int1 (by rfl) mi (by decide +kernel) (pa_cons (pe_op op_add (pv 4) (pv 5)) pa_nil)) pe_int)) (pa_cons pe_int pa_nil)))) (pe_op op_mul pe_int (pv 4))) (pv 5)))
          (pss_one (ps_if (PW.pt (pw_and (pt_cmpR op_lt (pv 5) (pv 2) (nomark _)) (pw_and1 (pt_cmpR op_gt (pe_op op_mod (pe_callTy call_int1 (by rfl) mi (by decide +kernel) (pa_cons (pv 6) pa_nil)) pe_int) pe_int (nomark _)))))
          (pss_one (ps_expr (pe_bm PySem.F.plainAttrs_list PySem.F.slot_list_append PySem.F.type_list_append mt_append (pv 3) (pa_cons (pe_tup (pa_cons (pv 4) (pa_cons (pv 5) (pa_cons (pe_k c_law_price hr (by first | decide | omega) (by rfl) (pa_cons (pe_callTy call_int1 (by rfl) mi (by decide +kernel) (pa_cons (pe_op op_fdiv (pv 6) pe_int) pa_nil)) pa_nil)) (pa_cons (pe_k c_law_price hr (by first | decide | omega) (by rfl) (pa_cons (pe_callTy call_int1 (by rfl) mi (by decide +kernel) (pa_cons (pe_op op_fdiv (pv 6) pe_int) pa_nil)) pa_nil)) pa_nil))))) pa_nil))))
          pss_nil))))))
      (pss_one (ps_ret (pe_tup (pa_cons (pv 2) (pa_cons (pe_callB cr_sortedQ (by rfl) mo (by decide +kernel) (pa_cons (pv 3) pa_nil)) pa_nil))))))), ?_⟩
    refine q_asgI (P := fun r => 30 ≤ r ∧ r ≤ 40) (vi_I0 (vi_of vl_c) (vi_call (P := fun r => 0 ≤ r ∧ r < 11) (va_cons (vl_var rfl) (va_cons (vl_var rfl) (va_cons vl_c va_nil))) fun Q E q => ⟨a, ds, k, 11, rfl, hS, hk, by decide, q⟩) (fun p r hp hr => by omega)) (fun n hn => ?_)
    refine q_lnew fun o no => ?_
    refine q_forR (n := n) (va_cons (vl_var rfl) va_nil) ⟨by omega, by omega⟩
      (fun i σ H3 => ∃ y4 y5 y6 xs ls, σ = [some (.ref a), some (.int k), some (.int n), some (.ref o), y4, y5, y6] ∧ H3 o = some (.lst xs) ∧ Same H (but H3 o) ∧ LnkT (but H3 o) xs ls ∧ LsAt n i 0 ls ∧ ls.length ≤ i * 40)
      ⟨none, none, none, [], [], rfl, upd_same, same_but (same_upd no) no, ⟨rfl, fun k r e => by simp at e⟩, .nil, by simp⟩ (fun i σ H3 hi hP => ?_) (fun σ H3 hP => ?_)
    · obtain ⟨y4, y5, y6, xs, ls, rfl, ho, sm, hx, hl, hlen⟩ := hP
      have sH : Same H H3 := sm.trans but_same
      have hS3 := sH.seq hS
      refine g_for3I (K := K) (P0 := fun r => r = (i : Int) + 1) (P1 := fun r => (i : Int) + 2 ≤ r ∧ r ≤ i + 6) (P2 := fun r => (i : Int) + 9 ≤ r ∧ r ≤ i + 20) (vi_of (vl_I0 (vl_var rfl) vl_c))
        (vi_I0 (vi_of (vl_I0 (vl_var rfl) vl_c)) (vi_call (P := fun r => 0 ≤ r ∧ r < 5) (va_cons (vl_var rfl) (va_cons (vl_I0 (vl_var rfl) vl_c) (va_cons vl_c va_nil))) fun Q E q => ⟨a, ds, k + 1, 5, rfl, hS3, by omega, by decide, q⟩) (fun p r hp hr => by omega))
        (vi_I0 (P2 := fun r => 0 ≤ r ∧ r < 12) (vi_of (vl_I0 (vl_var rfl) vl_c)) (fun Q q => ?_) (fun p r hp hr => by omega)) fun b1 b2 b3 L e1 h2 h3 nL => ?_
      · refine (vi_call (P := fun r => 0 ≤ r ∧ r < 60000) (va_cons (vl_var rfl) (va_cons (vl_I0 (vl_var rfl) vl_c) (va_cons vl_c va_nil))) fun Q E q => ⟨a, ds, k + 2, 60000, rfl, hS3, by omega, by decide, q⟩) _ fun r hr => ?_
        refine (vl_I0 (g := fun i j => .int (i + j)) (vl_var rfl) vl_c) _ ⟨r, (i : Int) + 1, rfl, rfl, ⟨by omega, by omega⟩, ?_⟩
        refine .inl ⟨r / ((i : Int) + 1), rfl, r / ((i : Int) + 1), 12, rfl, rfl, by show (0 : Int) < 12; decide, q _ ?_⟩
        have := Int.emod_nonneg (r / ((i : Int) + 1)) (show (12 : Int) ≠ 0 by decide)
        have := Int.emod_lt_of_pos (r / ((i : Int) + 1)) (show (0 : Int) < 12 by decide)
        omega
      · have sL : Same H3 (upd H3 L (.lst [.int b1, .int b2, .int b3])) := same_upd nL
        have Lo : L ≠ o := (ne_of_none ho nL).symm
        have eL : but (upd H3 L (.lst [.int b1, .int b2, .int b3])) o L = some (.lst [.int b1, .int b2, .int b3]) := by
          rw [but_ne Lo]
          exact upd_same
        have hoL := sL _ _ ho
        have smL := sm.trans (but_mono sL (o := o))
        have hxL := hx.to (but_mono sL (o := o))
        generalize upd H3 L (.lst [.int b1, .int b2, .int b3]) = H4 at sL eL hoL smL hxL ⊢
        obtain ⟨cc, hc0, hc⟩ : ∃ cc : Nat → Int, cc 0 = (i : Int) + 1 ∧ ∀ (j : Nat) (b : Int), [b1, b2, b3][j]? = some b → cc j ≤ b ∧ cc (j + 1) = b + 1 ∧ (i : Int) < b ∧ b ≤ i + 20 := by
          refine ⟨fun j => match j with | 0 => (i : Int) + 1 | 1 => b1 + 1 | 2 => b2 + 1 | _ => b3 + 1, rfl, fun j b hj => ?_⟩
          match j, hj with
          | 0, hj => cases hj; exact ⟨by show (i : Int) + 1 ≤ b1; omega, rfl, by omega, by omega⟩
          | 1, hj => cases hj; exact ⟨by show b1 + 1 ≤ b2; omega, rfl, by omega, by omega⟩
          | 2, hj => cases hj; exact ⟨by show b2 + 1 ≤ b3; omega, rfl, by omega, by omega⟩
          | n + 3, hj => simp at hj
        refine g_forL (K := K) (j := 5) (xs := [.int b1, .int b2, .int b3]) (fun Q q => q) (.of (but_same _ _ eL))
          (fun j σ H5 => ∃ y5 y6 xs ls, σ = [some (.ref a), some (.int k), some (.int n), some (.ref o), some (.int i), y5, y6] ∧ H5 o = some (.lst xs) ∧ Same (but H4 o) (but H5 o) ∧ LnkT (but H5 o) xs ls ∧ LsAt n i (cc j) ls ∧ ls.length ≤ i * 40 + j)
          ⟨y5, y6, xs, ls, rfl, hoL, Same.refl _, hxL, by rw [hc0]; exact hl.mono (.inr ⟨rfl, by omega⟩), by omega⟩ (fun j σ H5 hP => ?_) (fun j x σ H5 hj hP => ?_) (fun σ H5 hP => ?_)
        · obtain ⟨_, _, _, _, _, _, s5, _⟩ := hP
          exact .of (but_same _ _ (s5 _ _ eL))
        · obtain ⟨y5, y6, xs, ls, rfl, ho5, s5, hx5, hl5, hlen5⟩ := hP
          have hj3 := (List.getElem?_eq_some_iff.mp hj).1
          have hj3 : j < 3 := hj3
          obtain ⟨b, rfl, hb⟩ : ∃ b, x = .int b ∧ [b1, b2, b3][j]? = some b := by
            match j, hj with
            | 0, hj => cases hj; exact ⟨b1, rfl, rfl⟩
            | 1, hj => cases hj; exact ⟨b2, rfl, rfl⟩
            | 2, hj => cases hj; exact ⟨b3, rfl, rfl⟩
            | n + 3, hj => simp at hj
          obtain ⟨c1, c2, c3, c4⟩ := hc j b hb
          have s35 : Same H H5 := smL.trans (s5.trans but_same)
          have hS5 := s35.seq hS
          refine q_asgI (P := fun r => 0 ≤ r ∧ r ≤ 69000) ?_ (fun cell hcell => ?_)
          · refine vi_I0 (P1 := fun r => 0 ≤ r ∧ r ≤ 68400) (P2 := fun r => r = b) (vi_I0 (P1 := fun r => 0 ≤ r ∧ r < 65536) (P2 := fun r => r = 71 * (i : Int)) (vi_call (va_cons (vl_var rfl) (va_cons (x := .int (k + 3 + ((i : Int) + b) % 9)) ?_ (va_cons vl_c va_nil))) fun Q E q => ⟨a, ds, k + 3 + ((i : Int) + b) % 9, 65536, rfl, hS5, by omega, by decide, q⟩) (vi_of ?_) (fun p r hp hr => by omega)) (vi_of (vl_var rfl)) (fun p r hp hr => by omega)
            · exact vl_I0 (vl_I0 (vl_var rfl) vl_c) (vl_I (vl_int1 (vl_I0 (vl_var rfl) (vl_var rfl))) vl_c (by decide))
            · exact vl_I vl_c (vl_var rfl) (.inl ⟨by decide, by decide⟩)
          refine g_when (b := decide (b < n) && decide (0 < cell % 5)) (an_and (k := decide (b < n)) (m := decide (0 < cell % 5)) (an_test (vl_I0 (g := fun i j => .bl (decide (i < j))) (vl_var rfl) (vl_var rfl))) fun _ => an_test (vl_I0 (g := fun i j => .bl (decide (j < i))) (vl_I (vl_int1 (vl_var rfl)) vl_c (by decide)) vl_c)) (fun hb1 => ?_) (fun hb1 => ?_)
          · rw [Bool.and_eq_true, decide_eq_true_eq, decide_eq_true_eq] at hb1
            refine ⟨.ref o, rfl, .inl ⟨rfl, _, .inl (.inl ho5)⟩, .int i, rfl, .int b, rfl, ?_⟩
            refine ⟨.int cell, rfl, cell, 5, rfl, rfl, ⟨by decide, by decide⟩, .inl ⟨cell / 5, rfl, cell / 5, rfl, by omega, by omega, fun H6 t s6 ht => ?_⟩⟩
            refine ⟨.int cell, rfl, cell, 7, rfl, rfl, ⟨by decide, by decide⟩, .inl ⟨cell / 7, rfl, cell / 7, rfl, by omega, by omega, fun H7 u s7 hu => ?_⟩⟩
            refine ⟨by show 4 ≤ sizeLine; decide, fun T nT => ?_⟩
            have s57 : Same H5 H7 := s6.trans s7
            have ho7 := s57 _ _ ho5
            have nTo : T ≠ o := (ne_of_none ho7 nT).symm
            have s8 : Same H7 (upd H7 T (.tup [.int i, .int b, oV t, oV u])) := same_upd nT
            refine ⟨o, xs, .ref T, rfl, rfl, s8 _ _ ho7, ?_, ?_⟩
            · rw [hx5.len]
              exact Nat.lt_of_le_of_lt (show ls.length ≤ 10000 by omega) (by decide)
            · have sb : Same (but H5 o) (but (upd (upd H7 T (.tup [.int i, .int b, oV t, oV u])) o (.lst (xs ++ [.ref T]))) o) := by
                rw [but_upd]
                exact but_mono (s57.trans s8)
              refine ⟨_, _, xs ++ [.ref T], ls ++ [⟨i, b, t, u⟩], rfl, upd_same, s5.trans sb, ?_, ?_, ?_⟩
              · refine LnkT.app (hx5.to sb) ?_
                rw [but_upd, but_ne nTo, upd_same]
              · rw [c2]
                exact (hl5.mono (.inr ⟨rfl, c1⟩)).app (by omega) (by omega) hb1.1 ht hu
              · rw [List.length_append]
                show ls.length + 1 ≤ i * 40 + (j + 1)
                omega
          · exact ⟨_, _, xs, ls, rfl, ho5, s5, hx5, by rw [c2]; exact hl5.mono (.inr ⟨rfl, by omega⟩), by omega⟩
        · obtain ⟨y5, y6, xs, ls, rfl, ho5, s5, hx5, hl5, hlen5⟩ := hP
          exact ⟨_, _, _, xs, ls, rfl, ho5, smL.trans s5, hx5, hl5.mono (.inl (by omega)), by
            have : ls.length ≤ i * 40 + 3 := hlen5
            omega⟩
    · obtain ⟨y4, y5, y6, xs, ls, rfl, ho, sm, hx, hl, hlen⟩ := hP
      have hx3 := hx.to but_same
      refine ⟨.int n, rfl, .ref o, rfl, o, xs, kQ H3, rfl, .of ho, fun x hxm => ?_, hx3.inj hl.lt, fun ys pp hs hb np => ⟨by show 2 ≤ sizeLine; decide, fun T nT => ?_⟩⟩
      · obtain ⟨i, hi⟩ := List.mem_iff_getElem?.mp hxm
        obtain ⟨l, t, _, ex, et, ek⟩ := hx3.key hi
        exact ⟨t, oV l.t, oV l.k, ex, by rw [ek]; exact et⟩
      · have ey : ys = xs := SrtO.stb_uniq (ltP_swo _) hs (hx3.srt hl.lt) hb
        subst ey
        have s4 : Same H3 (upd H3 pp (.lst ys)) := same_upd np
        have s5 : Same (upd H3 pp (.lst ys)) (upd (upd H3 pp (.lst ys)) T (.tup [.int n, .ref pp])) := same_upd nT
        exact q _ _ ⟨n, ls⟩ ((sm.trans but_same).trans (s4.trans s5)) ⟨T, pp, ys, rfl, upd_same, s5 _ _ upd_same, (hx3.to (s4.trans s5)).dp⟩ ⟨by show 1 ≤ n; omega, by show n ≤ 40; omega, hl.ok, hl.lt, by show ls.length ≤ 1600; omega⟩
end
/-! ### what repr asks of the rows of up to 40 places -/
theorem shown_40 {i : Int} (h0 : 0 ≤ i) (h1 : i < 10 ^ 19) : (PyData.int i).shown.length ≤ 19 := toString_length_le h0 (by decide) h1
theorem showable_40 {i : Int} (h0 : 0 ≤ i) (h1 : i < 10 ^ 19) : (PyData.int i).showable = true := by
  refine decide_eq_true ?_
  by_cases hz : i.natAbs = 0
  · rw [hz]
    decide
  · rw [Nat.log2_lt hz]
    have h : i.natAbs < 2 ^ 64 := by omega
    exact Nat.lt_of_lt_of_le h (Nat.pow_le_pow_right (by decide : 2 > 0) (show 64 ≤ 1920 by decide))
theorem show_o40 {o : Option Int} (h : ∀ c, o = some c → 0 ≤ c ∧ c < 10 ^ 19) : (oD o).shown.length ≤ 19 ∧ (oD o).showable = true := by
  cases o with
  | none =>
    refine ⟨?_, rfl⟩
    show ("None" : Str).length ≤ 19
    decide +kernel
  | some x =>
    have := h x rfl
    exact ⟨shown_40 this.1 this.2, showable_40 this.1 this.2⟩
theorem showOk_rows40 {N : Net} {os : List Int} {rows : List Row} (ok : NetOk N) (oo : OrdOk N.n os) (h : FillOk N os rows) : ShowOk (.list (rows.map rowD)) 400000 := by
  have n1 := ok.n1
  have n40 := ok.n40
  have hlen : rows.length ≤ 1600 := by
    have e := congrArg List.length h.pairs
    rw [List.length_map] at e
    rw [e]
    exact pairsL_len ok oo
  have one : ∀ r ∈ rows, (rowD r).shown.length ≤ 130 ∧ (rowD r).showable = true := fun r hr => by
    have pp := h.pair ok oo hr
    have pi := pp.ins ok
    have hv : r.v ∈ os := oo.mem.mpr pi.2
    have lv := posOf_lt hv
    have lv2 : posOf r.v os < os.length := (List.getElem?_eq_some_iff.mp lv).1
    have ol := oo.len
    have p1 := pp.1
    have b := h.bound ok oo 40 r hr (by omega)
    have e40 : (1000000 : Int) * 2 ^ 40 = 1099511627776000000 := by decide
    rw [e40] at b
    have mid : ∀ o : Option Int, (∀ w, o = some w → w ∈ os) → ∀ c, o = some c → 0 ≤ c ∧ c < 10 ^ 19 := fun o ho c hc => by
      have := oo.mem.mp (ho c hc)
      omega
    have s1 := show_o40 (o := r.up) fun c hc => by
      have := b.1 c hc
      omega
    have s2 := show_o40 (o := r.dn) fun c hc => by
      have := b.2.1 c hc
      omega
    have s3 := show_o40 (mid r.um b.2.2.1)
    have s4 := show_o40 (mid r.dm b.2.2.2)
    have each : ∀ d ∈ [PyData.int r.u, .int r.v, oD r.up, oD r.dn, oD r.um, oD r.dm], d.shown.length ≤ 19 ∧ d.showable = true := fun d hd => by
      simp only [List.mem_cons, List.not_mem_nil, or_false] at hd
      rcases hd with rfl | rfl | rfl | rfl | rfl | rfl
      · exact ⟨shown_40 (by omega) (by omega), showable_40 (by omega) (by omega)⟩
      · exact ⟨shown_40 (by omega) (by omega), showable_40 (by omega) (by omega)⟩
      · exact s1
      · exact s2
      · exact s3
      · exact s4
    constructor
    · show (tupleText (PyData.shownAll [.int r.u, .int r.v, oD r.up, oD r.dn, oD r.um, oD r.dm])).length ≤ 130
      have t := tupleText_le (PyData.shownAll [.int r.u, .int r.v, oD r.up, oD r.dn, oD r.um, oD r.dm])
      have p := piled_le (m := 19) fun d hd => (each d hd).1
      have e : ([.int r.u, .int r.v, oD r.up, oD r.dn, oD r.um, oD r.dm] : List PyData).length = 6 := rfl
      rw [e] at p
      omega
    · show (PyData.showableAll [.int r.u, .int r.v, oD r.up, oD r.dn, oD r.um, oD r.dm]) = true
      exact showable_all fun d hd => (each d hd).2
  have p := piled_le (ds := rows.map rowD) (m := 130) fun d hd => by
    obtain ⟨r, hr, rfl⟩ := List.mem_map.mp hd
    exact (one r hr).1
  rw [List.length_map] at p
  have q := listText_le (PyData.shownAll (rows.map rowD))
  have ly := lay_rows rows
  refine ⟨?_, PyData.hasDict_of_canLay _ ly.1, ?_, ?_⟩
  · refine showable_all fun d hd => ?_
    obtain ⟨r, hr, rfl⟩ := List.mem_map.mp hd
    exact (one r hr).2
  · show PyData.depthAll (rows.map rowD) + 1 ≤ 10
    have := ly.2
    omega
  · show (listText (PyData.shownAll (rows.map rowD))).length ≤ 400000
    omega
theorem shaped_rows12 (rows : List Row) : SeqAt.shaped (.list (rows.map rowD)) = true := by
  have h := lay_rows rows
  show (PyData.canLayAll0 (rows.map rowD) && decide (PyData.depthAll (rows.map rowD) + 1 ≤ 64)) = true
  rw [h.1, decide_eq_true (by
    have := h.2
    omega)]
  rfl
theorem q_if12 {σ : L2.St} {H : Hp} {D : Ends} {tz tw : TS} {te : TE} {P : Int → Prop} {m : Int} (h : Vi te σ H P) (h1 : tz { D with nx := tw D } σ H) (h2 : tw D σ H) : tSeq (tIfS (tTest (tOp rEq te (tC (.int m)))) tz tNext) tw D σ H := h _ fun r _ => ⟨rfl, _, rfl, by
  by_cases e : V.int r = V.int m
  · rw [decide_eq_true e]
    exact iteT h1
  · rw [decide_eq_false e]
    exact iteF h2⟩
theorem g_forT12 {K : PySem.W.Frag} {σ : L2.St} {H : Hp} {a : Addr} {D : Ends} {tz : TS} {j : Nat} {xs : List V} {tl : TE} (h : Vl tl σ H (.ref a)) (hx : SqT K H a xs) (Pv : Nat → L2.St → Hp → Prop) (h0 : Pv 0 σ H) (hl : ∀ i σ' H', Pv i σ' H' → SqT K H' a xs)
    (hs : ∀ (i : Nat) x σ H, xs[i]? = some x → Pv i σ H → tz { D with nx := Pv (i + 1), ct := Pv (i + 1), bk := D.nx } (σ.set j (some x)) H) (hd : ∀ σ H, Pv xs.length σ H → D.nx σ H) :
    tFor (iTup K tl) (gName j) tz D σ H := h _ ⟨a, rfl, ⟨_, hx⟩, for_tup (xs := xs) Pv h0 (fun i σ H _ p => hl i σ H p) hs hd⟩
theorem tyx_sqt {K : PySem.W.Frag} {H : Hp} {a : Addr} {xs : List V} (h : SqT K H a xs) : TyX K H (.ref a) (.type "tuple") := by
  rcases h with (h | ⟨o, h⟩) | ⟨o, _, _, h, c, _⟩
  · exact .base (.tup h)
  · exact .fTuple h
  · exact .kTuple h c
theorem row_items {r : Row} {x : V} (h : x ∈ rowV r) : ∃ o, x = oV o := by
  unfold rowV at h
  simp only [List.mem_cons, List.not_mem_nil, or_false] at h
  rcases h with rfl | rfl | rfl | rfl | rfl | rfl
  · exact ⟨some r.u, rfl⟩
  · exact ⟨some r.v, rfl⟩
  · exact ⟨_, rfl⟩
  · exact ⟨_, rfl⟩
  · exact ⟨_, rfl⟩
  · exact ⟨_, rfl⟩
abbrev sLaw : Stmt := topS 30
theorem scLaw : FnScope ["script", "draws", "net", "order", "kept", "told", "due", "row", "item"] ["script"] (defScope sLaw) := ⟨rfl, rfl, rfl, by decide +kernel, rfl, by decide +kernel, by decide +kernel⟩
def spLaw (K : PySem.W.Frag) : Sp := fun vs H Q _ => ∃ (a : Addr) (ns : List Int), vs = [.ref a] ∧ SqL K H a (ns.map V.int) ∧ ns.length ≤ 63 ∧ ∀ H', Q (.bl true) H'
section
variable {P : Program} {w : World} {K : PySem.W.Frag} {mg : Str → Option Value} {base : Heap}
theorem ok_law {f : Addr} {fd : FuncData} {k0 k1 k2 k3 k4 k5 k6 k7 : Nat} (l0 : k0 ≤ 8) (l1 : k1 ≤ 8) (l2 : k2 ≤ 8) (l3 : k3 ≤ 8) (l4 : k4 ≤ 8) (l5 : k5 ≤ 8) (l6 : k6 ≤ 8) (l7 : k7 ≤ 8) (F : Fun K "law" "law" sLaw f fd) (c_law_draws : Kal P w K mg base 1 "_law_draws" ["script"] (spDraws K)) (c_law_at : Kal P w K mg base k0 "_law_at" ["draws", "k", "many"] (spAt K)) (c_law_net : Kal P w K mg base k1 "_law_net" ["draws", "first", "most"] (spNet K)) (c_law_great : Kal P w K mg base k2 "_law_great" ["draws", "first"] (spGreat K)) (c_law_order : Kal P w K mg base k3 "_law_order" ["draws", "first", "count"] (spOrder K))
    (c_fill : Kal P w K mg base k4 "fill" ["net", "order"] (spFill K)) (c_law_by_triangles : Kal P w K mg base k5 "_law_by_triangles" ["net", "order"] (spFill K)) (c_law_fill : Kal P w K mg base k6 "_law_fill" ["net", "order"] (spFillL K)) (c_law_is_integer : Kal P w K mg base k7 "_law_is_integer" ["actual"] spIsI)
    (ms : mg "isinstance" = none) (mt : mg "tuple" = none) (mL : mg "list" = none) (mrepr : mg "repr" = none) : FnG P w K mg base f fd ["script"] (spLaw K) := by
  refine okG (k := 8) F scLaw ⟨rfl, by decide, by decide⟩ (fun vs H Q E h => ?_) (fun cdv s H vs Q E hr h => ?_)
  · obtain ⟨a, ns, rfl, _⟩ := h
    rfl
  · obtain ⟨a, ns, rfl, hS, hlen, q⟩ := h
    have hu := hu_of hr
    refine ⟨_, pss_cons (ps_set (i := 1) scLaw.nd rfl (.inl rfl) (pe_k c_law_draws hr (by first | decide | omega) (by rfl) (pa_cons (pv 0) pa_nil)))
      (pss_cons (ps_if (pt_cmpR op_eq (pe_k c_law_at hr (by first | decide | omega) (by rfl) (pa_cons (pv 1) (pa_cons pe_int (pa_cons pe_int pa_nil)))) pe_int (nomark _))
      (pss_cons (ps_set (i := 2) scLaw.nd rfl (.inl rfl) (pe_k c_law_great hr (by first | decide | omega) (by rfl) (pa_cons (pv 1) (pa_cons pe_int pa_nil))))
        (pss_cons (ps_set (i := 3) scLaw.nd rfl (.inl rfl) (pe_k c_law_order hr (by first | decide | omega) (by rfl) (pa_cons (pv 1) (pa_cons pe_int (pa_cons (pe_ix ix_tup (pv 2) pe_int (fun _ _ => rfl)) pa_nil)))))
        (pss_one (ps_ret (pe_cmpR (op_eqD hr.units) (pe_k c_fill hr (by first | decide | omega) (by rfl) (pa_cons (pv 2) (pa_cons (pv 3) pa_nil))) (pe_k c_law_by_triangles hr (by first | decide | omega) (by rfl) (pa_cons (pv 2) (pa_cons (pv 3) pa_nil))) (nomark _))))))
      pss_nil)
      (pss_cons (ps_set (i := 2) scLaw.nd rfl (.inl rfl) (pe_k c_law_net hr (by first | decide | omega) (by rfl) (pa_cons (pv 1) (pa_cons pe_int (pa_cons pe_int pa_nil)))))
      (pss_cons (ps_set (i := 3) scLaw.nd rfl (.inl rfl) (pe_k c_law_order hr (by first | decide | omega) (by rfl) (pa_cons (pv 1) (pa_cons pe_int (pa_cons (pe_ix ix_tup (pv 2) pe_int (fun _ _ => rfl)) pa_nil)))))
      (pss_cons (ps_set (i := 4) scLaw.nd rfl (.inl rfl) (pe_callB (call_reprD rfl hr.units) (by rfl) mrepr (by decide +kernel) (pa_cons (pe_tup (pa_cons (pv 2) (pa_cons (pv 3) pa_nil))) pa_nil)))
      (pss_cons (ps_set (i := 5) scLaw.nd rfl (.inl rfl) (pe_k c_fill hr (by first | decide | omega) (by rfl) (pa_cons (pv 2) (pa_cons (pv 3) pa_nil))))
      (pss_cons (ps_set (i := 6) scLaw.nd rfl (.inl rfl) (pe_k c_law_fill hr (by first | decide | omega) (by rfl) (pa_cons (pv 2) (pa_cons (pv 3) pa_nil))))
      (pss_cons (ps_if (PW.pt (pw_or (pt_not (pt_val (pe_callB call_isi (by rfl) ms (by decide +kernel) (pa_cons (pv 5) (pa_cons (pe_bltn (v := .ty "list") (by rfl) mL (by decide +kernel) rfl) pa_nil))))) (pw_or (pt_cmpR (op_neD hr.units) (pv 5) (pv 6) (nomark _)) (pw_or1 (pt_cmpR op_ne (pe_callB (call_reprD rfl hr.units) (by rfl) mrepr (by decide +kernel) (pa_cons (pe_tup (pa_cons (pv 2) (pa_cons (pv 3) pa_nil))) pa_nil)) (pv 4) (nomark _))))))
      (pss_one (ps_ret pe_bl))
      pss_nil)
      (pss_cons (ps_for PassesOwn.never rfl (pi_list (pv 5)) (pg_name (i := 7) scLaw.nd rfl (.inl rfl))
      (pss_cons (ps_if (pt_not (pt_val (pe_callB call_isi (by rfl) ms (by decide +kernel) (pa_cons (pv 7) (pa_cons (pe_bltn (v := .ty "tuple") (by rfl) mt (by decide +kernel) rfl) pa_nil)))))
        (pss_one (ps_ret pe_bl))
        pss_nil)
        (pss_one (ps_for PassesOwn.never rfl (pi_tup (pv 7)) (pg_name (i := 8) scLaw.nd rfl (.inl rfl))
        (pss_one (ps_if (PW.pt (pw_and (pt_cmpR op_notN (pv 8) pe_non (nomark _)) (pw_and1 (pt_not (pt_val (pe_k c_law_is_integer hr (by first | decide | omega) (by rfl) (pa_cons (pv 8) pa_nil)))))))
          (pss_one (ps_ret pe_bl))
          pss_nil))))))
      (pss_cons (ps_expr (pe_bm PySem.F.plainAttrs_list PySem.F.slot_list_append PySem.F.type_list_append mt_append (pv 5) (pa_cons pe_int pa_nil)))
      (pss_one (ps_ret (pe_cmpR (op_eqD hr.units) (pe_k c_fill hr (by first | decide | omega) (by rfl) (pa_cons (pv 2) (pa_cons (pv 3) pa_nil))) (pv 6) (nomark _))))))))))))), ?_⟩
    refine q_asgE ⟨.ref a, rfl, a, ns, rfl, hS, hlen, fun H1 d ds s1 nd hd hok => ?_⟩
    have hD1 : SqL K H1 d (ds.map V.int) := .of hd
    refine q_if12 (P := fun r => 0 ≤ r ∧ r < 16) (vi_call (va_cons (vl_var rfl) (va_cons vl_c (va_cons vl_c va_nil))) fun Q E q => ⟨d, ds, 41, 16, rfl, hD1, by decide, by decide, q⟩) ?_ ?_
    · -- the great net
      refine q_asgE ⟨.ref d, rfl, d, ds, 42, rfl, hD1, by decide, fun H2 v N s2 hN ok => ?_⟩
      obtain ⟨p, c, xs, rfl, hp, hc, hx⟩ := id hN
      have n1 := ok.n1
      have n40 := ok.n40
      refine q_asgE ⟨.ref d, rfl, (vl_ixT (K := K) (vl_var rfl) vl_c (.of hp) (atI_nat (j := 0) rfl)) _ ⟨d, ds, 30, N.n, rfl, s2.seq hD1, by decide, by omega, by omega, fun H3 po os s3 npo epo oo => ?_⟩⟩
      have hN3 := hN.to s3
      refine ⟨.ref p, rfl, .ref po, rfl, .ref p, N, po, os, rfl, hN3.dp, ok, .of epo, oo, fun H5 q1 ts1 r1 s5 nq1 e1 h1 f1 => ⟨.ref p, rfl, .ref po, rfl, .ref p, N, po, os, rfl, (hN3.to s5).dp, ok, .of (s5 _ _ epo), oo, fun H6 q2 ts2 r2 s6 nq2 e2 h2 f2 => ?_⟩⟩
      obtain rfl : r1 = r2 := fill_same12 ok oo f1 f2
      have d1 : Dp K H5 (.ref q1) (.list (r1.map rowD)) := .lst (.of e1) h1
      refine ⟨_, _, Dp.to d1 s6, .lst (.of e2) h2, shaped_rows12 _, shaped_rows12 _, ?_⟩
      rw [SeqAt.eqv_refl _ (Bool.and_eq_true_iff.mp (shaped_rows12 r1)).1]
      exact q _
    refine q_asgE ⟨.ref d, rfl, d, ds, 0, 8, rfl, hD1, by decide, by decide, by decide, fun H2 v N s2 hN ok hn => ?_⟩
    obtain ⟨p, c, xs, rfl, hp, hc, hx⟩ := id hN
    have n1 := ok.n1
    have n40 := ok.n40
    refine q_asgE ⟨.ref d, rfl, (vl_ixT (K := K) (vl_var rfl) vl_c (.of hp) (atI_nat (j := 0) rfl)) _ ⟨d, ds, 30, N.n, rfl, s2.seq hD1, by decide, by omega, by omega, fun H3 po os s3 npo epo oo => ?_⟩⟩
    have ol := oo.len
    have hN3 := hN.to s3
    have shi := showOk_ints (ns := os) (fun x hx => by
      have := oo.mem.mp hx
      omega) (by omega)
    have sh := showOk_pair (showOk_net ok) (b := .list (os.map PyData.int)) ⟨shi.sh, shi.nd, shi.dep, Nat.le_trans shi.len (by decide)⟩
    have pairDp : ∀ T H', Same H3 H' → H' T = some (.tup [.ref p, .ref po]) → Dp K H' (.ref T) (.tuple [netD N, .list (os.map PyData.int)]) := fun T H' s' e => .tup (.of e) (.cons (hN3.to s').dp (.cons (Dp.ints (.of (s' _ _ epo))) .nil))
    -- kept
    refine q_asgV (ve_repr (va_cons (vl_var rfl) (va_cons (vl_var rfl) va_nil)) (by show 2 ≤ sizeLine; decide) pairDp sh.1 sh.2.1 sh.2.2.1 (Nat.le_trans sh.2.2.2 (by decide))) fun H4 s4 => ?_
    have hN4 := hN3.to s4
    have epo4 := s4 _ _ epo
    -- told
    refine q_asgE ⟨.ref p, rfl, .ref po, rfl, .ref p, N, po, os, rfl, hN4.dp, ok, .of epo4, oo, fun H5 q1 ts1 rows s5 nq1 e1 h1 f1 => ?_⟩
    have hN5 := hN4.to s5
    -- due
    refine q_asgE ⟨.ref p, rfl, .ref po, rfl, .ref p, N, po, os, rfl, hN5.dp, ok, .of (s5 _ _ epo4), oo, fun H6 q2 ts2 s6 nq2 e2 h2 => ?_⟩
    rw [← rows_law ok oo f1] at h2
    have d1 : Dp K H6 (.ref q1) (.list (rows.map rowD)) := Dp.to (.lst (.of e1) h1) s6
    have d2 : Dp K H6 (.ref q2) (.list (rows.map rowD)) := .lst (.of e2) h2.dp
    have e16 := s6 _ _ e1
    have s46 := s5.trans s6
    refine q_whenx (b := false) (Ax.is (ax_or (ax_not (ax_of (an_B (vl_cb (va_cons (vl_var rfl) (va_cons vl_c va_nil)) fun _ q => ⟨.ref q1, .ty "list", .type "list", .type "list", true, rfl, .ty _, .base (.lst e16), kit_ty (by decide +kernel), q⟩))))
      (fun _ H8 t8 => ax_or (k := false) (ax_op fun Q k => ⟨.ref q1, rfl, .ref q2, rfl, _, _, Dp.to d1 t8, Dp.to d2 t8, shaped_rows12 _, shaped_rows12 _, _, rfl, ?_⟩)
      (fun _ H9 t9 => ax_neV2 (ve_repr (va_cons (vl_var rfl) (va_cons (vl_var rfl) va_nil)) (by show 2 ≤ sizeLine; decide) (fun T H'' s'' e => pairDp T H'' (s4.trans (s46.trans (t8.trans (t9.trans s'')))) e) sh.1 sh.2.1 sh.2.2.1 (Nat.le_trans sh.2.2.2 (by decide))) (fun _ _ => vl_var rfl) rfl))) (by rw [decide_eq_true rfl]; rfl)) (fun z => nomatch z) (fun _ H9 s9 => ?_)
    · rw [SeqAt.eqv_refl _ (Bool.and_eq_true_iff.mp (shaped_rows12 rows)).1]
      exact k _ (Same.refl _)
    have s59 := s6.trans s9
    have e19 := s9 _ _ e16
    have lts : ts1.length = rows.length := by
      have := DpAll.len h1
      rw [List.length_map] at this
      exact this
    have lrows : rows.length ≤ 1600 := by
      have e := congrArg List.length f1.pairs
      rw [List.length_map] at e
      rw [e]
      exact pairsL_len ok oo
    refine q_forL (K := K) (j := 7) (xs := ts1) (vl_var rfl) (.of e19)
      (fun i σ H10 => ∃ y7 y8, σ = [some (.ref a), some (.ref d), some (.ref p), some (.ref po), some (.str (PyData.tuple [netD N, .list (os.map PyData.int)]).shown), some (.ref q1), some (.ref q2), y7, y8] ∧ Same H9 H10)
      ⟨none, none, rfl, Same.refl _⟩ (fun i σ H10 hP => ?_) (fun i x σ H10 hi hP => ?_) (fun σ H10 hP => ?_)
    · obtain ⟨_, _, _, s10⟩ := hP
      exact .of (s10 _ _ e19)
    · obtain ⟨y7, y8, rfl, s10⟩ := hP
      have hil := (List.getElem?_eq_some_iff.mp hi).1
      have hg : rows[i]? = some rows[i] := List.getElem?_eq_getElem (by omega)
      generalize rows[i] = r at hg
      obtain ⟨v', hv', dv⟩ := DpAll.get (i := i) (d := rowD r) h1 (by
        rw [List.getElem?_map, hg]
        rfl)
      cases hi.symm.trans hv'
      obtain ⟨t, rfl, ht⟩ := Dp.row_inv dv
      have ht10 := seqT (s59.trans s10) ht
      refine q_when (b := false) (An.is (an_not (an_B (b := true) (vl_cb (vs := [.ref t, .ty "tuple"]) (va_cons (vl_var rfl) (va_cons vl_c va_nil)) fun _ k => ⟨.ref t, .ty "tuple", .type "tuple", .type "tuple", true, rfl, .ty _, tyx_sqt ht10, kit_ty (by decide +kernel), k⟩))) rfl) (fun z => nomatch z) (fun _ => ?_)
      refine g_forT12 (K := K) (xs := rowV r) (vl_var rfl) ht10
        (fun i σ H11 => ∃ y8, σ = [some (.ref a), some (.ref d), some (.ref p), some (.ref po), some (.str (PyData.tuple [netD N, .list (os.map PyData.int)]).shown), some (.ref q1), some (.ref q2), some (.ref t), y8] ∧ Same H10 H11)
        ⟨_, rfl, Same.refl _⟩ (fun i σ H11 hP => ?_) (fun i x σ H11 hi hP => ?_) (fun σ H11 hP => ?_)
      · obtain ⟨_, _, s11⟩ := hP
        exact seqT s11 ht10
      · obtain ⟨y8, rfl, s11⟩ := hP
        obtain ⟨o, rfl⟩ := row_items (List.mem_of_getElem? hi)
        cases o with
        | none => exact g_when (b := false) (an_and (k := false) (m := false) (an_test ((vl_notN (vl_var rfl)).is rfl)) fun h => by cases h) (fun h => by cases h) (fun _ => ⟨_, rfl, s11⟩)
        | some z => exact g_when (b := false) ((an_and (k := true) (m := false) (an_test ((vl_notN (vl_var rfl)).is rfl)) fun _ => An.is (an_not (b := true) (an_B (b := true) fun Q k => ⟨.int z, rfl, z, rfl, k⟩)) rfl).is rfl) (fun h => by cases h) (fun _ => ⟨_, rfl, s11⟩)
      · obtain ⟨y8, rfl, s11⟩ := hP
        exact ⟨_, _, rfl, s10.trans s11⟩
    · obtain ⟨y7, y8, rfl, s10⟩ := hP
      have e110 := s10 _ _ e19
      have s410 : Same H4 H10 := (s46.trans s9).trans s10
      refine ⟨.ref q1, rfl, .inl ⟨rfl, _, .inl (.inl e110)⟩, q1, ts1, .int 1, rfl, rfl, e110, ?_, ?_⟩
      · rw [lts]
        exact Nat.lt_of_le_of_lt (m := 10000) (by omega) (by decide)
      · have sU : Same H4 (upd H10 q1 (.lst (ts1 ++ [.int 1]))) := same_upd' s410 nq1
        have q21 : q2 ≠ q1 := (ne_of_none e1 nq2).symm
        have e2U : upd H10 q1 (.lst (ts1 ++ [.int 1])) q2 = some (.lst ts2) := by
          rw [upd_ne q21]
          exact s10 _ _ (s9 _ _ e2)
        have h2U : RowsT (upd H10 q1 (.lst (ts1 ++ [.int 1]))) ts2 rows := (h2.to (s9.trans s10)).upd fun xs e => by
          rw [e110] at e
          cases e
        generalize upd H10 q1 (.lst (ts1 ++ [.int 1])) = H11 at sU e2U h2U ⊢
        refine ⟨.ref p, rfl, .ref po, rfl, .ref p, N, po, os, rfl, (hN4.to sU).dp, ok, .of (sU _ _ epo4), oo, fun H12 q3 ts3 rows3 s12 nq3 e3 h3 f3 => ?_⟩
        obtain rfl : rows = rows3 := fill_same12 ok oo f1 f3
        refine ⟨.ref q2, rfl, _, _, .lst (.of e3) h3, .lst (.of (s12 _ _ e2U)) (h2U.to s12).dp, shaped_rows12 _, shaped_rows12 _, ?_⟩
        rw [SeqAt.eqv_refl _ (Bool.and_eq_true_iff.mp (shaped_rows12 rows)).1]
        exact q _
end
/-! ### what the top has written; the law's own head -/
theorem df_mk {K : PySem.W.Frag} {h : Heap} {mg : Str → Option Value} {x : Str} {st : Stmt} {ps : List Str} {f : Addr} {oc : Value} {od an : Option Addr} {osl : Array (Option Value)} {kV doc pm cdv ct : Value} (X : K.In h) (G : h.Ns mainGlobals mg)
    (a : PySem.W.nsIn K mainGlobals x = some (some (.ref f))) (l : K.lookup f = some ⟨oc, od, .func (PySem.W.fnOf x x (defArgs st) (defBody st) (defScope st) .none kV doc pm an cdv ct), osl⟩) (c : PySem.W.codeIn K cdv x = true) (k : PySem.W.keepIn K (.ref f) = true)
    (hb : ∀ (kV doc pm : Value) (an : Option Addr) (cdv ct : Value) (us : List Value), us.length = ps.length → bindArgs (PySem.W.fnOf x x (defArgs st) (defBody st) (defScope st) .none kV doc pm an cdv ct) ⟨us, []⟩ = pure (ps.zip us)) : Df K mg x st ps :=
  ⟨f, _, fun_mk l c k, PySem.W.mg_of X G a, (fun_mk l c k).binds hb⟩
theorem exm_two {K : PySem.W.Frag} {S : Addr} {c : Value} {b : Bool} (h1 : PySem.W.subIn K (.ref S) (.type "BaseException") = some true) (h2 : PySem.W.isClsIn K S = true) (h3 : PySem.W.typeIn K (.ref S) = some (.type "type")) (h4 : PySem.W.subIn K c (.ref S) = some b) : PySem.W.exmOne K c (.ref S) = some b := by
  have e1 : (PySem.W.subIn K (.ref S) (.type "BaseException") == some true) = true := by rw [h1] <;> rfl
  have e2 : ((PySem.W.clsIn K S).isSome && PySem.W.typeIn K (.ref S) == some (.type "type")) = true := by
    have h2' : (PySem.W.clsIn K S).isSome = true := h2
    rw [h2', h3] <;> rfl
  show (if (PySem.W.subIn K (.ref S) (.type "BaseException") == some true) = true then (if ((PySem.W.clsIn K S).isSome && PySem.W.typeIn K (.ref S) == some (.type "type")) = true then PySem.W.subIn K c (.ref S) else none) else none) = some b
  rw [if_pos e1, if_pos e2]
  exact h4
/-- what is asked of an error's class -/
structure ErrAt (K : PySem.W.Frag) (x : Str) (C CO fI : Addr) : Prop where
  a : PySem.W.nsIn K mainGlobals x = some (some (.ref C))
  xL : ∃ nm q N bs sn sub ab col dd m0 m1 m2 m3 m5, K.lookup C = some (excClassObj nm q C N bs [.ref CO, .type "ValueError", .type "Exception", .type "BaseException", .type "object"] true sn sub ab col dd m0 m1 m2 m3 m5 "ValueError.__new__")
  sa : PySem.W.findIn K (.ref C) "__setattr__" = some (some (.builtin "object.__setattr__"))
  ga : PySem.W.findIn K (.ref C) "__getattribute__" = some (some (.builtin "BaseException.__getattribute__"))
  gg : PySem.W.findIn K (.ref C) "__getattr__" = some none
  nb : PySem.W.findIn K (.ref C) "at" = some none
  ii : PySem.W.findIn K (.ref C) "__init__" = some (some (.ref fI))
  kC : PySem.W.keepIn K (.ref C) = true
  eC : PySem.W.subIn K (.ref C) (.type "BaseException") = some true
  tC : PySem.W.typeIn K (.ref C) = some (.type "type")
  hC : PySem.W.hasDictIn K C = true
  iC : PySem.W.isClsIn K C = true
  sC : PySem.W.subIn K (.ref C) (.ref C) = some true
structure InitAt (K : PySem.W.Frag) (fI : Addr) : Prop where
  t : PySem.W.typeIn K (.ref fI) = some (.type "function")
  l : ∃ oc od dc pm an cd ct sl, K.lookup fI = some ⟨oc, od, .func (PySem.W.fnOf "__init__" "OverpassesError.__init__" (PySem.LowX.iA ⟨5, 17, 5, 21⟩ ⟨5, 23, 5, 25⟩) (PySem.LowX.iB ⟨6, 8, 6, 12⟩ ⟨6, 8, 6, 15⟩ ⟨6, 18, 6, 20⟩ ⟨6, 8, 6, 20⟩) PySem.LowX.iS .none .none dc pm an cd ct), sl⟩ ∧ PySem.W.codeIn K cd "OverpassesError.__init__" = true
theorem low_mk {K : PySem.W.Frag} {h : Heap} {mg : Str → Option Value} {x : Str} {C CO fI : Addr} (X : K.In h) (G : h.Ns mainGlobals mg) (E : ErrAt K x C CO fI) (I : InitAt K fI) : PySem.LowX.LowTxt K mg x C fI := by
  obtain ⟨nm, q, N, bs, sn, sub, ab, col, dd, m0, m1, m2, m3, m5, xL⟩ := E.xL
  obtain ⟨oc, od, dc, pm, an, cd, ct, sl, l1, c1⟩ := I.l
  exact { gC := PySem.W.mg_of X G E.a, cls := ⟨nm, q, N, bs, _, sn, sub, ab, col, dd, m0, m1, m2, m3, m5, xL, rfl⟩, sa := E.sa, ga := E.ga, gg := E.gg, noN := E.nb, iC := E.ii, tC := I.t, kC := E.kC, exC := E.eC, tyC := E.tC, hdC := E.hC, te := exm_two E.eC E.iC E.tC E.sC, fn := ⟨_, _, _, _, _, _, _, _, _, _, _, _, _, _, l1, c1⟩ }
theorem all_mk {l : PySem.W.OpenLaw} {w : World} {K : PySem.W.Frag} {h : Heap} {mg : Str → Option Value} {fa f0 f1 f2 f3 f4 f5 f6 f7 f8 f9 f10 f11 f12 f13 f14 f15 f16 f17 f18 f19 f20 f21 : Addr} (X : K.In h) (G : h.Ns mainGlobals mg) (hfa : mg "law" = some (.ref fa))
    {od0 an0 od1 an1 od2 an2 od3 an3 od4 an4 od5 an5 od6 an6 od7 an7 od8 an8 od9 an9 od10 an10 od11 an11 od12 an12 od13 an13 od14 an14 od15 an15 od16 an16 od17 an17 od18 an18 od19 an19 od20 an20 od21 an21 : Option Addr} {sl0 sl1 sl2 sl3 sl4 sl5 sl6 sl7 sl8 sl9 sl10 sl11 sl12 sl13 sl14 sl15 sl16 sl17 sl18 sl19 sl20 sl21 : Array (Option Value)} {oc0 kV0 dc0 pm0 cd0 ct0 oc1 kV1 dc1 pm1 cd1 ct1 oc2 kV2 dc2 pm2 cd2 ct2 oc3 kV3 dc3 pm3 cd3 ct3 oc4 kV4 dc4 pm4 cd4 ct4 oc5 kV5 dc5 pm5 cd5 ct5 oc6 kV6 dc6 pm6 cd6 ct6 oc7 kV7 dc7 pm7 cd7 ct7 oc8 kV8 dc8 pm8 cd8 ct8 oc9 kV9 dc9 pm9 cd9 ct9 oc10 kV10 dc10 pm10 cd10 ct10 oc11 kV11 dc11 pm11 cd11 ct11 oc12 kV12 dc12 pm12 cd12 ct12 oc13 kV13 dc13 pm13 cd13 ct13 oc14 kV14 dc14 pm14 cd14 ct14 oc15 kV15 dc15 pm15 cd15 ct15 oc16 kV16 dc16 pm16 cd16 ct16 oc17 kV17 dc17 pm17 cd17 ct17 oc18 kV18 dc18 pm18 cd18 ct18 oc19 kV19 dc19 pm19 cd19 ct19 oc20 kV20 dc20 pm20 cd20 ct20 oc21 kV21 dc21 pm21 cd21 ct21 : Value}
    (a0 : PySem.W.nsIn K mainGlobals "link_ways" = some (some (.ref f0))) (l0 : K.lookup f0 = some ⟨oc0, od0, .func (PySem.W.fnOf "link_ways" "link_ways" (defArgs sLinkWays) (defBody sLinkWays) (defScope sLinkWays) .none kV0 dc0 pm0 an0 cd0 ct0), sl0⟩) (c0 : PySem.W.codeIn K cd0 "link_ways" = true) (k0 : PySem.W.keepIn K (.ref f0) = true)
    (a1 : PySem.W.nsIn K mainGlobals "ranks" = some (some (.ref f1))) (l1 : K.lookup f1 = some ⟨oc1, od1, .func (PySem.W.fnOf "ranks" "ranks" (defArgs sRanks) (defBody sRanks) (defScope sRanks) .none kV1 dc1 pm1 an1 cd1 ct1), sl1⟩) (c1 : PySem.W.codeIn K cd1 "ranks" = true) (k1 : PySem.W.keepIn K (.ref f1) = true)
    (a2 : PySem.W.nsIn K mainGlobals "pairs" = some (some (.ref f2))) (l2 : K.lookup f2 = some ⟨oc2, od2, .func (PySem.W.fnOf "pairs" "pairs" (defArgs sPairs) (defBody sPairs) (defScope sPairs) .none kV2 dc2 pm2 an2 cd2 ct2), sl2⟩) (c2 : PySem.W.codeIn K cd2 "pairs" = true) (k2 : PySem.W.keepIn K (.ref f2) = true)
    (a3 : PySem.W.nsIn K mainGlobals "upper" = some (some (.ref f3))) (l3 : K.lookup f3 = some ⟨oc3, od3, .func (PySem.W.fnOf "upper" "upper" (defArgs sUpper) (defBody sUpper) (defScope sUpper) .none kV3 dc3 pm3 an3 cd3 ct3), sl3⟩) (c3 : PySem.W.codeIn K cd3 "upper" = true) (k3 : PySem.W.keepIn K (.ref f3) = true)
    (a4 : PySem.W.nsIn K mainGlobals "fill" = some (some (.ref f4))) (l4 : K.lookup f4 = some ⟨oc4, od4, .func (PySem.W.fnOf "fill" "fill" (defArgs sFill) (defBody sFill) (defScope sFill) .none kV4 dc4 pm4 an4 cd4 ct4), sl4⟩) (c4 : PySem.W.codeIn K cd4 "fill" = true) (k4 : PySem.W.keepIn K (.ref f4) = true)
    (a5 : PySem.W.nsIn K mainGlobals "fill_way" = some (some (.ref f5))) (l5 : K.lookup f5 = some ⟨oc5, od5, .func (PySem.W.fnOf "fill_way" "fill_way" (defArgs sWayF) (defBody sWayF) (defScope sWayF) .none kV5 dc5 pm5 an5 cd5 ct5), sl5⟩) (c5 : PySem.W.codeIn K cd5 "fill_way" = true) (k5 : PySem.W.keepIn K (.ref f5) = true)
    (a6 : PySem.W.nsIn K mainGlobals "_lower_by_pair" = some (some (.ref f6))) (l6 : K.lookup f6 = some ⟨oc6, od6, .func (PySem.W.fnOf "_lower_by_pair" "_lower_by_pair" (defArgs sLowBy) (defBody sLowBy) (defScope sLowBy) .none kV6 dc6 pm6 an6 cd6 ct6), sl6⟩) (c6 : PySem.W.codeIn K cd6 "_lower_by_pair" = true) (k6 : PySem.W.keepIn K (.ref f6) = true)
    (a7 : PySem.W.nsIn K mainGlobals "_row" = some (some (.ref f7))) (l7 : K.lookup f7 = some ⟨oc7, od7, .func (PySem.W.fnOf "_row" "_row" (defArgs sRowF) (defBody sRowF) (defScope sRowF) .none kV7 dc7 pm7 an7 cd7 ct7), sl7⟩) (c7 : PySem.W.codeIn K cd7 "_row" = true) (k7 : PySem.W.keepIn K (.ref f7) = true)
    (a8 : PySem.W.nsIn K mainGlobals "_law_draws" = some (some (.ref f8))) (l8 : K.lookup f8 = some ⟨oc8, od8, .func (PySem.W.fnOf "_law_draws" "_law_draws" (defArgs sDraws) (defBody sDraws) (defScope sDraws) .none kV8 dc8 pm8 an8 cd8 ct8), sl8⟩) (c8 : PySem.W.codeIn K cd8 "_law_draws" = true) (k8 : PySem.W.keepIn K (.ref f8) = true)
    (a9 : PySem.W.nsIn K mainGlobals "_law_at" = some (some (.ref f9))) (l9 : K.lookup f9 = some ⟨oc9, od9, .func (PySem.W.fnOf "_law_at" "_law_at" (defArgs sAt) (defBody sAt) (defScope sAt) .none kV9 dc9 pm9 an9 cd9 ct9), sl9⟩) (c9 : PySem.W.codeIn K cd9 "_law_at" = true) (k9 : PySem.W.keepIn K (.ref f9) = true)
    (a10 : PySem.W.nsIn K mainGlobals "_law_is_integer" = some (some (.ref f10))) (l10 : K.lookup f10 = some ⟨oc10, od10, .func (PySem.W.fnOf "_law_is_integer" "_law_is_integer" (defArgs sIsI) (defBody sIsI) (defScope sIsI) .none kV10 dc10 pm10 an10 cd10 ct10), sl10⟩) (c10 : PySem.W.codeIn K cd10 "_law_is_integer" = true) (k10 : PySem.W.keepIn K (.ref f10) = true)
    (a11 : PySem.W.nsIn K mainGlobals "_law_price" = some (some (.ref f11))) (l11 : K.lookup f11 = some ⟨oc11, od11, .func (PySem.W.fnOf "_law_price" "_law_price" (defArgs sPrice2) (defBody sPrice2) (defScope sPrice2) .none kV11 dc11 pm11 an11 cd11 ct11), sl11⟩) (c11 : PySem.W.codeIn K cd11 "_law_price" = true) (k11 : PySem.W.keepIn K (.ref f11) = true)
    (a12 : PySem.W.nsIn K mainGlobals "_law_net" = some (some (.ref f12))) (l12 : K.lookup f12 = some ⟨oc12, od12, .func (PySem.W.fnOf "_law_net" "_law_net" (defArgs sNet2) (defBody sNet2) (defScope sNet2) .none kV12 dc12 pm12 an12 cd12 ct12), sl12⟩) (c12 : PySem.W.codeIn K cd12 "_law_net" = true) (k12 : PySem.W.keepIn K (.ref f12) = true)
    (a13 : PySem.W.nsIn K mainGlobals "_law_order" = some (some (.ref f13))) (l13 : K.lookup f13 = some ⟨oc13, od13, .func (PySem.W.fnOf "_law_order" "_law_order" (defArgs sOrder2) (defBody sOrder2) (defScope sOrder2) .none kV13 dc13 pm13 an13 cd13 ct13), sl13⟩) (c13 : PySem.W.codeIn K cd13 "_law_order" = true) (k13 : PySem.W.keepIn K (.ref f13) = true)
    (a14 : PySem.W.nsIn K mainGlobals "_law_pairs" = some (some (.ref f14))) (l14 : K.lookup f14 = some ⟨oc14, od14, .func (PySem.W.fnOf "_law_pairs" "_law_pairs" (defArgs sLPairs) (defBody sLPairs) (defScope sLPairs) .none kV14 dc14 pm14 an14 cd14 ct14), sl14⟩) (c14 : PySem.W.codeIn K cd14 "_law_pairs" = true) (k14 : PySem.W.keepIn K (.ref f14) = true)
    (a15 : PySem.W.nsIn K mainGlobals "_law_link" = some (some (.ref f15))) (l15 : K.lookup f15 = some ⟨oc15, od15, .func (PySem.W.fnOf "_law_link" "_law_link" (defArgs sLLink) (defBody sLLink) (defScope sLLink) .none kV15 dc15 pm15 an15 cd15 ct15), sl15⟩) (c15 : PySem.W.codeIn K cd15 "_law_link" = true) (k15 : PySem.W.keepIn K (.ref f15) = true)
    (a16 : PySem.W.nsIn K mainGlobals "_law_lower" = some (some (.ref f16))) (l16 : K.lookup f16 = some ⟨oc16, od16, .func (PySem.W.fnOf "_law_lower" "_law_lower" (defArgs sLower) (defBody sLower) (defScope sLower) .none kV16 dc16 pm16 an16 cd16 ct16), sl16⟩) (c16 : PySem.W.codeIn K cd16 "_law_lower" = true) (k16 : PySem.W.keepIn K (.ref f16) = true)
    (a17 : PySem.W.nsIn K mainGlobals "_law_least" = some (some (.ref f17))) (l17 : K.lookup f17 = some ⟨oc17, od17, .func (PySem.W.fnOf "_law_least" "_law_least" (defArgs sLeast) (defBody sLeast) (defScope sLeast) .none kV17 dc17 pm17 an17 cd17 ct17), sl17⟩) (c17 : PySem.W.codeIn K cd17 "_law_least" = true) (k17 : PySem.W.keepIn K (.ref f17) = true)
    (a18 : PySem.W.nsIn K mainGlobals "_law_fill" = some (some (.ref f18))) (l18 : K.lookup f18 = some ⟨oc18, od18, .func (PySem.W.fnOf "_law_fill" "_law_fill" (defArgs sFillL) (defBody sFillL) (defScope sFillL) .none kV18 dc18 pm18 an18 cd18 ct18), sl18⟩) (c18 : PySem.W.codeIn K cd18 "_law_fill" = true) (k18 : PySem.W.keepIn K (.ref f18) = true)
    (a19 : PySem.W.nsIn K mainGlobals "_law_great" = some (some (.ref f19))) (l19 : K.lookup f19 = some ⟨oc19, od19, .func (PySem.W.fnOf "_law_great" "_law_great" (defArgs sGreat) (defBody sGreat) (defScope sGreat) .none kV19 dc19 pm19 an19 cd19 ct19), sl19⟩) (c19 : PySem.W.codeIn K cd19 "_law_great" = true) (k19 : PySem.W.keepIn K (.ref f19) = true)
    (a20 : PySem.W.nsIn K mainGlobals "_law_by_triangles" = some (some (.ref f20))) (l20 : K.lookup f20 = some ⟨oc20, od20, .func (PySem.W.fnOf "_law_by_triangles" "_law_by_triangles" (defArgs sTri) (defBody sTri) (defScope sTri) .none kV20 dc20 pm20 an20 cd20 ct20), sl20⟩) (c20 : PySem.W.codeIn K cd20 "_law_by_triangles" = true) (k20 : PySem.W.keepIn K (.ref f20) = true)
    (a21 : PySem.W.nsIn K mainGlobals "law" = some (some (.ref f21))) (l21 : K.lookup f21 = some ⟨oc21, od21, .func (PySem.W.fnOf "law" "law" (defArgs sLaw) (defBody sLaw) (defScope sLaw) .none kV21 dc21 pm21 an21 cd21 ct21), sl21⟩) (c21 : PySem.W.codeIn K cd21 "law" = true) (k21 : PySem.W.keepIn K (.ref f21) = true)
    {CO fI : Addr} {C0 : Addr} {ocI : Value} {odI anI : Option Addr} {slI : Array (Option Value)} {dcI pmI cdI ctI : Value}
    (tI : PySem.W.typeIn K (.ref fI) = some (.type "function")) (lI : K.lookup fI = some ⟨ocI, odI, .func (PySem.W.fnOf "__init__" "OverpassesError.__init__" (PySem.LowX.iA ⟨5, 17, 5, 21⟩ ⟨5, 23, 5, 25⟩) (PySem.LowX.iB ⟨6, 8, 6, 12⟩ ⟨6, 8, 6, 15⟩ ⟨6, 18, 6, 20⟩ ⟨6, 8, 6, 20⟩) PySem.LowX.iS .none .none dcI pmI anI cdI ctI), slI⟩) (cI : PySem.W.codeIn K cdI "OverpassesError.__init__" = true)
    {nm100 : Str} {q100 : Str} {N100 : Addr} {bs100 : List Value} {sn100 : List Str} {sub100 : List Value} {ab100 : Bool} {col100 : Option Bool} {dd100 : Option Addr} {m0100 : Option Value} {m1100 : Option Value} {m2100 : Option Value} {m3100 : Option Value} {m5100 : Option Value}
    (ea0 : PySem.W.nsIn K mainGlobals "NotAnOrder" = some (some (.ref C0))) (ex0 : K.lookup C0 = some (excClassObj nm100 q100 C0 N100 bs100 [.ref CO, .type "ValueError", .type "Exception", .type "BaseException", .type "object"] true sn100 sub100 ab100 col100 dd100 m0100 m1100 m2100 m3100 m5100 "ValueError.__new__"))
    (es0 : PySem.W.findIn K (.ref C0) "__setattr__" = some (some (.builtin "object.__setattr__"))) (eg0 : PySem.W.findIn K (.ref C0) "__getattribute__" = some (some (.builtin "BaseException.__getattribute__"))) (eh0 : PySem.W.findIn K (.ref C0) "__getattr__" = some none) (en0 : PySem.W.findIn K (.ref C0) "at" = some none) (ei0 : PySem.W.findIn K (.ref C0) "__init__" = some (some (.ref fI)))
    (ek0 : PySem.W.keepIn K (.ref C0) = true) (eb0 : PySem.W.subIn K (.ref C0) (.type "BaseException") = some true) (et0 : PySem.W.typeIn K (.ref C0) = some (.type "type")) (ed0 : PySem.W.hasDictIn K C0 = true) (ec0 : PySem.W.isClsIn K C0 = true) (ef0 : PySem.W.subIn K (.ref C0) (.ref C0) = some true)
    (y0 : PySem.W.nsIn K mainGlobals "combinations" = some (some (.type "itertools.combinations")))
    (z0 : PySem.W.nsIn K mainGlobals "range" = some none) (z1 : PySem.W.nsIn K mainGlobals "min" = some none) (z2 : PySem.W.nsIn K mainGlobals "max" = some none) (z3 : PySem.W.nsIn K mainGlobals "len" = some none) (z4 : PySem.W.nsIn K mainGlobals "abs" = some none) (z5 : PySem.W.nsIn K mainGlobals "int" = some none) (z6 : PySem.W.nsIn K mainGlobals "bool" = some none) (z7 : PySem.W.nsIn K mainGlobals "list" = some none) (z8 : PySem.W.nsIn K mainGlobals "tuple" = some none) (z9 : PySem.W.nsIn K mainGlobals "isinstance" = some none) (z10 : PySem.W.nsIn K mainGlobals "enumerate" = some none) (z11 : PySem.W.nsIn K mainGlobals "sorted" = some none) (z12 : PySem.W.nsIn K mainGlobals "repr" = some none) :
    ∃ fd : FuncData, (∀ (s : Shared) (v : Value), BindsTo s fd ⟨[v], []⟩ [("script", v)]) ∧ ∀ base : Heap, K.In base → base.Ns mainGlobals mg → FnG l.prog w K mg base fa fd ["script"] (spLaw K) := by
  have e := hfa.symm.trans (PySem.W.mg_of X G a21)
  cases e
  have D_link_ways : Df K mg "link_ways" sLinkWays ["net"] := df_mk X G a0 l0 c0 k0 (fun _ _ _ _ _ _ us hl => match us, hl with | [_], _ => rfl)
  have D_ranks : Df K mg "ranks" sRanks ["order"] := df_mk X G a1 l1 c1 k1 (fun _ _ _ _ _ _ us hl => match us, hl with | [_], _ => rfl)
  have D_pairs : Df K mg "pairs" sPairs ["net", "order"] := df_mk X G a2 l2 c2 k2 (fun _ _ _ _ _ _ us hl => match us, hl with | [_, _], _ => rfl)
  have D_upper : Df K mg "upper" sUpper ["net", "order"] := df_mk X G a3 l3 c3 k3 (fun _ _ _ _ _ _ us hl => match us, hl with | [_, _], _ => rfl)
  have D_fill : Df K mg "fill" sFill ["net", "order"] := df_mk X G a4 l4 c4 k4 (fun _ _ _ _ _ _ us hl => match us, hl with | [_, _], _ => rfl)
  have D_fill_way : Df K mg "fill_way" sWayF ["links", "prices", "places", "x", "y"] := df_mk X G a5 l5 c5 k5 (fun _ _ _ _ _ _ us hl => match us, hl with | [_, _, _, _, _], _ => rfl)
  have D__lower_by_pair : Df K mg "_lower_by_pair" sLowBy ["found", "order"] := df_mk X G a6 l6 c6 k6 (fun _ _ _ _ _ _ us hl => match us, hl with | [_, _], _ => rfl)
  have D__row : Df K mg "_row" sRowF ["links", "prices", "lower", "low", "high"] := df_mk X G a7 l7 c7 k7 (fun _ _ _ _ _ _ us hl => match us, hl with | [_, _, _, _, _], _ => rfl)
  have D__law_draws : Df K mg "_law_draws" sDraws ["script"] := df_mk X G a8 l8 c8 k8 (fun _ _ _ _ _ _ us hl => match us, hl with | [_], _ => rfl)
  have D__law_at : Df K mg "_law_at" sAt ["draws", "k", "many"] := df_mk X G a9 l9 c9 k9 (fun _ _ _ _ _ _ us hl => match us, hl with | [_, _, _], _ => rfl)
  have D__law_is_integer : Df K mg "_law_is_integer" sIsI ["actual"] := df_mk X G a10 l10 c10 k10 (fun _ _ _ _ _ _ us hl => match us, hl with | [_], _ => rfl)
  have D__law_price : Df K mg "_law_price" sPrice2 ["cell"] := df_mk X G a11 l11 c11 k11 (fun _ _ _ _ _ _ us hl => match us, hl with | [_], _ => rfl)
  have D__law_net : Df K mg "_law_net" sNet2 ["draws", "first", "most"] := df_mk X G a12 l12 c12 k12 (fun _ _ _ _ _ _ us hl => match us, hl with | [_, _, _], _ => rfl)
  have D__law_order : Df K mg "_law_order" sOrder2 ["draws", "first", "count"] := df_mk X G a13 l13 c13 k13 (fun _ _ _ _ _ _ us hl => match us, hl with | [_, _, _], _ => rfl)
  have D__law_pairs : Df K mg "_law_pairs" sLPairs ["net", "order"] := df_mk X G a14 l14 c14 k14 (fun _ _ _ _ _ _ us hl => match us, hl with | [_, _], _ => rfl)
  have D__law_link : Df K mg "_law_link" sLLink ["net", "x", "y"] := df_mk X G a15 l15 c15 k15 (fun _ _ _ _ _ _ us hl => match us, hl with | [_, _, _], _ => rfl)
  have D__law_lower : Df K mg "_law_lower" sLower ["found", "order", "low", "high"] := df_mk X G a16 l16 c16 k16 (fun _ _ _ _ _ _ us hl => match us, hl with | [_, _, _, _], _ => rfl)
  have D__law_least : Df K mg "_law_least" sLeast ["net", "order", "x", "y"] := df_mk X G a17 l17 c17 k17 (fun _ _ _ _ _ _ us hl => match us, hl with | [_, _, _, _], _ => rfl)
  have D__law_fill : Df K mg "_law_fill" sFillL ["net", "order"] := df_mk X G a18 l18 c18 k18 (fun _ _ _ _ _ _ us hl => match us, hl with | [_, _], _ => rfl)
  have D__law_great : Df K mg "_law_great" sGreat ["draws", "first"] := df_mk X G a19 l19 c19 k19 (fun _ _ _ _ _ _ us hl => match us, hl with | [_, _], _ => rfl)
  have D__law_by_triangles : Df K mg "_law_by_triangles" sTri ["net", "order"] := df_mk X G a20 l20 c20 k20 (fun _ _ _ _ _ _ us hl => match us, hl with | [_, _], _ => rfl)
  have b_range := PySem.W.mg_none_of X G z0
  have b_min := PySem.W.mg_none_of X G z1
  have b_max := PySem.W.mg_none_of X G z2
  have b_len := PySem.W.mg_none_of X G z3
  have b_abs := PySem.W.mg_none_of X G z4
  have b_int := PySem.W.mg_none_of X G z5
  have b_bool := PySem.W.mg_none_of X G z6
  have b_list := PySem.W.mg_none_of X G z7
  have b_tuple := PySem.W.mg_none_of X G z8
  have b_isinstance := PySem.W.mg_none_of X G z9
  have b_enumerate := PySem.W.mg_none_of X G z10
  have b_sorted := PySem.W.mg_none_of X G z11
  have b_repr := PySem.W.mg_none_of X G z12
  have g_combinations := PySem.W.mg_of X G y0
  have E_NotAnOrder : PySem.LowX.LowTxt K mg "NotAnOrder" C0 fI := low_mk X G ⟨ea0, ⟨_, _, _, _, _, _, _, _, _, _, _, _, _, _, ex0⟩, es0, eg0, eh0, en0, ei0, ek0, eb0, et0, ed0, ec0, ef0⟩ ⟨tI, _, _, _, _, _, _, _, _, lI, cI⟩
  have F_law := fun_mk (st := sLaw) l21 c21 k21
  refine ⟨PySem.W.fnOf "law" "law" (defArgs sLaw) (defBody sLaw) (defScope sLaw) .none kV21 dc21 pm21 an21 cd21 ct21, fun s v => .of_eq rfl, fun base _ _ => ?_⟩
  have cD := kal_of D__law_draws (fun f fd F => ok_draws (P := l.prog) (w := w) (base := base) (k := 0) F b_range b_min b_len b_abs b_int)
  have cA := kal_of D__law_at (fun f fd F => ok_at (P := l.prog) (w := w) (base := base) (k := 0) F b_len b_int)
  have cPr := kal_of D__law_price (fun f fd F => ok_price2 (P := l.prog) (w := w) (base := base) (K := K) (k := 0) F b_int)
  have cN := kal_of D__law_net (fun f fd F => ok_net2 F cA cPr b_range b_int)
  have cO := kal_of D__law_order (fun f fd F => ok_order2 F cA b_range b_int b_sorted)
  have cLP := kal_of D__law_pairs (fun f fd F => ok_lpairs (P := l.prog) (w := w) (base := base) (k := 0) F b_len b_range)
  have cRk := kalx_of D_ranks (fun f fd F => ok_ranks (P := l.prog) (w := w) (base := base) F E_NotAnOrder b_len b_enumerate)
  have cU := kal_of D_upper (fun f fd F => ok_upper F cRk b_len b_enumerate b_range b_min b_max g_combinations)
  have cP := kal_of D_pairs (fun f fd F => ok_pairs F cU)
  have cLb := kal_of D__lower_by_pair (fun f fd F => ok_lowBy (P := l.prog) (w := w) (base := base) (K := K) (k := 0) F g_combinations)
  have cLk := kal_of D_link_ways (fun f fd F => ok_linkWays (P := l.prog) (w := w) (base := base) (K := K) (mg := mg) (k := 0) F)
  have cWy := kal_of D_fill_way (fun f fd F => ok_wayF (P := l.prog) (w := w) (base := base) (K := K) (mg := mg) (k := 0) F)
  have cRw := kal_of D__row (fun f fd F => ok_rowF F cWy)
  have cFi := kal_of D_fill (fun f fd F => ok_fill (k := 4) (by decide) (by decide) (by decide) (by decide) F cP cLb cLk cRw)
  have cLo := kal_of D__law_lower (fun f fd F => ok_lower (P := l.prog) (w := w) (base := base) (K := K) (mg := mg) (k := 0) F)
  have cLl := kal_of D__law_link (fun f fd F => ok_llink (P := l.prog) (w := w) (base := base) (K := K) (mg := mg) (k := 0) F)
  have cI := kal_of D__law_is_integer (fun f fd F => ok_isI (P := l.prog) (w := w) (base := base) (k := 0) F b_isinstance b_int b_bool)
  have cLe := kal_of D__law_least (fun f fd F => ok_least (P := l.prog) (w := w) (base := base) (K := K) (k := 0) F b_range b_min)
  have cLf := kal_of D__law_fill (fun f fd F => ok_fillL (k := 1) (by decide) (by decide) (by decide) (by decide) F cLP cLe cLl cLo)
  have cGr := kal_of D__law_great (fun f fd F => ok_great F cA cPr b_range b_int b_sorted)
  have cTr := kal_of D__law_by_triangles (fun f fd F => ok_tri (k := 1) (by decide) F cLP)
  exact ok_law (by decide) (by decide) (by decide) (by decide) (by decide) (by decide) (by decide) (by decide) F_law cD cA cN cGr cO cFi cTr cLf cI b_isinstance b_tuple b_list b_repr
end Ovc
open PySem PySem.W PyProof.Rows
set_option maxHeartbeats 0 in
theorem PySem.Challenge.cw_overpasses_k12_filled_in_prices_holds : PySem.Challenge.rw_overpasses_k12_filled_in_prices.Holds := by
  w_on; o_law; k_head; (case hw => w_witness2)
  k_fill
  refine Ovc.walkG (l := PySem.Challenge.rw_overpasses_k12_filled_in_prices) (n := 63) (x := "script") (sp := fun w => Ovc.spLaw _) rfl (by decide) rfl (fun w h Y => PySem.W.kIn_of Y) ?F (fun _ _ a ns hl _ hS => ⟨a, ns, rfl, hS, hl, fun _ => rfl⟩)
  case F =>
    intro w mg fa h KX G hmg
    refine' Ovc.all_mk KX G hmg ?a0 ?l0 ?c0 ?k0 ?a1 ?l1 ?c1 ?k1 ?a2 ?l2 ?c2 ?k2 ?a3 ?l3 ?c3 ?k3 ?a4 ?l4 ?c4 ?k4 ?a5 ?l5 ?c5 ?k5 ?a6 ?l6 ?c6 ?k6 ?a7 ?l7 ?c7 ?k7 ?a8 ?l8 ?c8 ?k8 ?a9 ?l9 ?c9 ?k9 ?a10 ?l10 ?c10 ?k10 ?a11 ?l11 ?c11 ?k11 ?a12 ?l12 ?c12 ?k12 ?a13 ?l13 ?c13 ?k13 ?a14 ?l14 ?c14 ?k14 ?a15 ?l15 ?c15 ?k15 ?a16 ?l16 ?c16 ?k16 ?a17 ?l17 ?c17 ?k17 ?a18 ?l18 ?c18 ?k18 ?a19 ?l19 ?c19 ?k19 ?a20 ?l20 ?c20 ?k20 ?a21 ?l21 ?c21 ?k21 ?tI ?lI ?cI ?ea0 ?ex0 ?es0 ?eg0 ?eh0 ?en0 ?ei0 ?ek0 ?eb0 ?et0 ?ed0 ?ec0 ?ef0 ?y0 ?z0 ?z1 ?z2 ?z3 ?z4 ?z5 ?z6 ?z7 ?z8 ?z9 ?z10 ?z11 ?z12
    (case a0 => k_is)
    (case l0 => k_is)
    (case c0 => k_is)
    (case k0 => k_is)
    (case a1 => k_is)
    (case l1 => k_is)
    (case c1 => k_is)
    (case k1 => k_is)
    (case a2 => k_is)
    (case l2 => k_is)
    (case c2 => k_is)
    (case k2 => k_is)
    (case a3 => k_is)
    (case l3 => k_is)
    (case c3 => k_is)
    (case k3 => k_is)
    (case a4 => k_is)
    (case l4 => k_is)
    (case c4 => k_is)
    (case k4 => k_is)
    (case a5 => k_is)
    (case l5 => k_is)
    (case c5 => k_is)
    (case k5 => k_is)
    (case a6 => k_is)
    (case l6 => k_is)
    (case c6 => k_is)
    (case k6 => k_is)
    (case a7 => k_is)
    (case l7 => k_is)
    (case c7 => k_is)
    (case k7 => k_is)
    (case a8 => k_is)
    (case l8 => k_is)
    (case c8 => k_is)
    (case k8 => k_is)
    (case a9 => k_is)
    (case l9 => k_is)
    (case c9 => k_is)
    (case k9 => k_is)
    (case a10 => k_is)
    (case l10 => k_is)
    (case c10 => k_is)
    (case k10 => k_is)
    (case a11 => k_is)
    (case l11 => k_is)
    (case c11 => k_is)
    (case k11 => k_is)
    (case a12 => k_is)
    (case l12 => k_is)
    (case c12 => k_is)
    (case k12 => k_is)
    (case a13 => k_is)
    (case l13 => k_is)
    (case c13 => k_is)
    (case k13 => k_is)
    (case a14 => k_is)
    (case l14 => k_is)
    (case c14 => k_is)
    (case k14 => k_is)
    (case a15 => k_is)
    (case l15 => k_is)
    (case c15 => k_is)
    (case k15 => k_is)
    (case a16 => k_is)
    (case l16 => k_is)
    (case c16 => k_is)
    (case k16 => k_is)
    (case a17 => k_is)
    (case l17 => k_is)
    (case c17 => k_is)
    (case k17 => k_is)
    (case a18 => k_is)
    (case l18 => k_is)
    (case c18 => k_is)
    (case k18 => k_is)
    (case a19 => k_is)
    (case l19 => k_is)
    (case c19 => k_is)
    (case k19 => k_is)
    (case a20 => k_is)
    (case l20 => k_is)
    (case c20 => k_is)
    (case k20 => k_is)
    (case a21 => k_is)
    (case l21 => k_is)
    (case c21 => k_is)
    (case k21 => k_is)
    (case ea0 => k_is)
    (case ex0 => k_is)
    (case es0 => k_is)
    (case eg0 => k_is)
    (case eh0 => k_is)
    (case en0 => k_is)
    (case ei0 => k_is)
    (case ek0 => k_is)
    (case eb0 => k_is)
    (case et0 => k_is)
    (case ed0 => k_is)
    (case ec0 => k_is)
    (case ef0 => first | rfl | k_is)
    (case y0 => k_is)
    (case z0 => k_is)
    (case z1 => k_is)
    (case z2 => k_is)
    (case z3 => k_is)
    (case z4 => k_is)
    (case z5 => k_is)
    (case z6 => k_is)
    (case z7 => k_is)
    (case z8 => k_is)
    (case z9 => k_is)
    (case z10 => k_is)
    (case z11 => k_is)
    (case z12 => k_is)
    (case tI => k_is)
    (case lI => k_is)
    (case cI => k_is)
