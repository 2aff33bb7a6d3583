import PyProof.Rows.All
import Wide.All
import OpenK.AllK
import Wide.FinOn
import PySem.Challenge.RW_overpasses_k39_sums_of_runs
import HandS.Base
import HandS.Call
import HandS.List
import HandS.Comp
import HandS.Dict
import HandS.Ends
import HandS.Iter
import HandS.Text
import HandS.Words
import HandS.Evl
import HandS.IsInst
import HandS.Style
import HandS.Exc
import HandS.TryOnly
import HandS.TryMany
import HandS.ExcOwn
import HandS.WordsExc
import HandS.TupLe
import HandS.Conv
import HandS.Walk
import HandS.WordsDict
import HandS.More
import HandS.Sort
import HandS.Deep
import HandS.DictComp
import HandS.DeepEq
import HandS.SortRule
import PyProof.ZipIter
import PyProof.CallType
import PyProof.Walk
import PyProof.WalkLemmas
import PyProof.RangeIter
import PyProof.RulesTry
import KE.KDictZip
import KE.KTurns
import PyProof.ReprRoads
set_option Elab.async false
set_option linter.all false
set_option maxRecDepth 100000
set_option maxHeartbeats 2000000
namespace Ovc
open PySem PySem.Spec PyProof.Rows L2
def topS (i : Nat) : Stmt := PySem.Challenge.pw_overpasses_k39_sums_of_runs.main.body.getD i (.Pass ⟨0, 0, 0, 0⟩)
/-! ### heaps -/
theorem same_upd {H : Hp} {p : Addr} {o : HO} (h : H p = none) : Same H (upd H p o) := fun b x e => by
  rw [upd_ne (ne_of_none e h)]
  exact e
theorem same_upd' {G H : Hp} {p : Addr} {o : HO} (s : Same G H) (h : G p = none) : Same G (upd H p o) := fun b x e => by
  rw [upd_ne (ne_of_none e h)]
  exact s b x e
/-- all of H but what stands at o -/
def but (H : Hp) (o : Addr) : Hp := fun b => if b = o then none else H b
theorem but_at {H : Hp} {o : Addr} : but H o o = none := if_pos rfl
theorem but_ne {H : Hp} {o b : Addr} (h : b ≠ o) : but H o b = H b := if_neg h
theorem but_same {H : Hp} {o : Addr} : Same (but H o) H := fun b x e => by
  by_cases h : b = o
  · rw [h, but_at] at e
    cases e
  · rw [but_ne h] at e
    exact e
theorem same_but {G H : Hp} {o : Addr} (s : Same G H) (n : G o = none) : Same G (but H o) := fun b x e => by
  rw [but_ne (ne_of_none e n)]
  exact s b x e
theorem but_mono {H H' : Hp} {o : Addr} (s : Same H H') : Same (but H o) (but H' o) := fun b x e => by
  by_cases h : b = o
  · rw [h, but_at] at e
    cases e
  · rw [but_ne h] at e ⊢
    exact s b x e
theorem but_upd {H : Hp} {o : Addr} {u : HO} : but (upd H o u) o = but H o := by
  funext b
  by_cases h : b = o
  · rw [h, but_at, but_at]
  · rw [but_ne h, but_ne h, upd_ne h]
/-- a store at o, seen from what stands beside it -/
theorem but_upd_same {H : Hp} {o : Addr} {u : HO} : Same (but H o) (upd H o u) := fun b x e => by
  by_cases h : b = o
  · rw [h, but_at] at e
    cases e
  · rw [but_ne h] at e
    rw [upd_ne h]
    exact e
theorem seqT {K : PySem.W.Frag} {H H' : Hp} {a : Addr} {xs : List V} (e : Same H H') (h : SqT K H a xs) : SqT K H' a xs := by
  rcases h with (h | ⟨o, h⟩) | h
  · exact .inl (.inl (e _ _ h))
  · exact .inl (.inr ⟨o, e _ _ h⟩)
  · exact .inr h
mutual
theorem dpS {K : PySem.W.Frag} {H H' : Hp} (s : Same H H') : ∀ (d : PyData) (v : V), Dp K H v d → Dp K H' v d
  | .none, _, h => by
    cases h
    exact .non
  | .bool b, _, h => by
    cases h
    exact .bl b
  | .int i, _, h => by
    cases h
    exact .int i
  | .str x, _, h => by
    cases h
    exact .str x
  | .list ds, _, h => by
    cases h with
    | lst hs ha => exact .lst (s.seq hs) (dpSAll s ds _ ha)
  | .tuple ds, _, h => by
    cases h with
    | tup hs ha => exact .tup (seqT s hs) (dpSAll s ds _ ha)
  | .dict _, _, h => by cases h
theorem dpSAll {K : PySem.W.Frag} {H H' : Hp} (s : Same H H') : ∀ (ds : List PyData) (vs : List V), DpAll K H vs ds → DpAll K H' vs ds
  | [], _, h => by
    cases h
    exact .nil
  | d :: ds, _, h => by
    cases h with
    | cons h1 h2 => exact .cons (dpS s d _ h1) (dpSAll s ds _ h2)
end
theorem Dp.to {K : PySem.W.Frag} {H H' : Hp} {v : V} {d : PyData} (h : Dp K H v d) (s : Same H H') : Dp K H' v d := dpS s d v h
theorem DpAll.to {K : PySem.W.Frag} {H H' : Hp} {vs : List V} {ds : List PyData} (h : DpAll K H vs ds) (s : Same H H') : DpAll K H' vs ds := dpSAll s ds vs h
theorem DpAll.len {K : PySem.W.Frag} {H : Hp} : ∀ {vs : List V} {ds : List PyData}, DpAll K H vs ds → vs.length = ds.length
  | _, _, .nil => rfl
  | _, _, .cons _ t => by
    rw [List.length_cons, List.length_cons, DpAll.len t]
theorem DpAll.get {K : PySem.W.Frag} {H : Hp} : ∀ {vs : List V} {ds : List PyData} {i : Nat} {d : PyData}, DpAll K H vs ds → ds[i]? = some d → ∃ v, vs[i]? = some v ∧ Dp K H v d
  | _, _, i, d, .nil, e => by simp at e
  | _, _, 0, d, .cons h _, e => by
    have e' := Option.some.inj e
    subst e'
    exact ⟨_, rfl, h⟩
  | _, _, i + 1, d, .cons _ t, e => DpAll.get (i := i) t e
theorem DpAll.app {K : PySem.W.Frag} {H : Hp} : ∀ {vs ws : List V} {ds es : List PyData}, DpAll K H vs ds → DpAll K H ws es → DpAll K H (vs ++ ws) (ds ++ es)
  | _, _, _, _, .nil, t => t
  | _, _, _, _, .cons h r, t => .cons h (DpAll.app r t)
theorem DpAll.take {K : PySem.W.Frag} {H : Hp} : ∀ {vs : List V} {ds : List PyData} (n : Nat), DpAll K H vs ds → DpAll K H (vs.take n) (ds.take n)
  | _, _, 0, _ => .nil
  | _, _, _ + 1, .nil => .nil
  | _, _, n + 1, .cons h t => .cons h (DpAll.take n t)
theorem DpAll.drop {K : PySem.W.Frag} {H : Hp} : ∀ {vs : List V} {ds : List PyData} (n : Nat), DpAll K H vs ds → DpAll K H (vs.drop n) (ds.drop n)
  | _, _, 0, h => h
  | _, _, _ + 1, .nil => .nil
  | _, _, n + 1, .cons _ t => DpAll.drop n t
theorem DpAll.one {K : PySem.W.Frag} {H : Hp} {v : V} {d : PyData} (h : Dp K H v d) : DpAll K H [v] [d] := .cons h .nil
theorem Dp.int_inv {K : PySem.W.Frag} {H : Hp} {v : V} {i : Int} (h : Dp K H v (.int i)) : v = .int i := by
  cases h
  rfl
theorem DpAll.ints {K : PySem.W.Frag} {H : Hp} : ∀ ns : List Int, DpAll K H (ns.map V.int) (ns.map PyData.int)
  | [] => .nil
  | n :: ns => .cons (.int n) (DpAll.ints ns)
theorem DpAll.ints_inv {K : PySem.W.Frag} {H : Hp} : ∀ {ns : List Int} {vs : List V}, DpAll K H vs (ns.map PyData.int) → vs = ns.map V.int
  | [], _, h => by
    cases h
    rfl
  | n :: ns, _, h => by
    cases h with
    | cons h1 h2 =>
      rw [Dp.int_inv h1, DpAll.ints_inv h2]
      rfl
theorem Dp.lst_inv {K : PySem.W.Frag} {H : Hp} {v : V} {ds : List PyData} (h : Dp K H v (.list ds)) : ∃ a xs, v = .ref a ∧ SqL K H a xs ∧ DpAll K H xs ds := by
  cases h with
  | lst hs ha => exact ⟨_, _, rfl, hs, ha⟩
theorem Dp.tup_inv {K : PySem.W.Frag} {H : Hp} {v : V} {ds : List PyData} (h : Dp K H v (.tuple ds)) : ∃ a xs, v = .ref a ∧ SqT K H a xs ∧ DpAll K H xs ds := by
  cases h with
  | tup hs ha => exact ⟨_, _, rfl, hs, ha⟩
/-! ### an int or None -/
def oV : Option Int → V
  | none => .non
  | some i => .int i
def oD : Option Int → PyData
  | none => .none
  | some i => .int i
theorem Dp.o {K : PySem.W.Frag} {H : Hp} : ∀ o : Option Int, Dp K H (oV o) (oD o)
  | none => .non
  | some i => .int i
theorem Dp.o_inv {K : PySem.W.Frag} {H : Hp} {v : V} : ∀ {o : Option Int}, Dp K H v (oD o) → v = oV o
  | none, h => by
    cases h
    rfl
  | some i, h => by
    cases h
    rfl
theorem oV_non {o : Option Int} : decide (oV o = .non) = o.isNone := by
  cases o <;> rfl
theorem eqv_o : ∀ a b : Option Int, PyData.eqv (oD a) (oD b) = decide (a = b)
  | none, none => by rfl
  | none, some _ => by rfl
  | some _, none => by rfl
  | some a, some b => by
    show (a == b) = _
    by_cases h : a = b
    · subst h
      rw [decide_eq_true rfl]
      exact beq_self_eq_true a
    · rw [decide_eq_false (fun e => h (Option.some.inj e))]
      exact beq_eq_false_iff_ne.mpr h
theorem shaped_o (a : Option Int) : SeqAt.shaped (oD a) = true := by
  cases a <;> rfl
/-! ### links and nets -/
structure Lnk where
  a : Int
  b : Int
  t : Option Int
  k : Option Int
structure Net where
  n : Int
  ls : List Lnk
def lnkV (l : Lnk) : List V := [.int l.a, .int l.b, oV l.t, oV l.k]
def lnkD (l : Lnk) : PyData := .tuple [.int l.a, .int l.b, oD l.t, oD l.k]
def netD (N : Net) : PyData := .tuple [.int N.n, .list (N.ls.map lnkD)]
theorem Dp.lnk_inv {K : PySem.W.Frag} {H : Hp} {v : V} {l : Lnk} (h : Dp K H v (lnkD l)) : ∃ a, v = .ref a ∧ SqT K H a (lnkV l) := by
  obtain ⟨a, xs, rfl, hs, ha⟩ := Dp.tup_inv h
  cases ha with
  | cons h1 r1 =>
    cases r1 with
    | cons h2 r2 =>
      cases r2 with
      | cons h3 r3 =>
        cases r3 with
        | cons h4 r4 =>
          cases r4
          rw [Dp.int_inv h1, Dp.int_inv h2, Dp.o_inv h3, Dp.o_inv h4] at hs
          exact ⟨a, rfl, hs⟩
theorem Dp.lnk {K : PySem.W.Frag} {H : Hp} {a : Addr} {l : Lnk} (h : SqT K H a (lnkV l)) : Dp K H (.ref a) (lnkD l) :=
  .tup h (.cons (.int _) (.cons (.int _) (.cons (Dp.o _) (.cons (Dp.o _) .nil))))
theorem Dp.net_inv {K : PySem.W.Frag} {H : Hp} {v : V} {N : Net} (h : Dp K H v (netD N)) : ∃ p q xs, v = .ref p ∧ SqT K H p [.int N.n, .ref q] ∧ SqL K H q xs ∧ DpAll K H xs (N.ls.map lnkD) := by
  obtain ⟨a, xs, rfl, hs, ha⟩ := Dp.tup_inv h
  cases ha with
  | cons h1 r1 =>
    cases r1 with
    | cons h2 r2 =>
      cases r2
      obtain ⟨q, ys, rfl, hl, hy⟩ := Dp.lst_inv h2
      rw [Dp.int_inv h1] at hs
      exact ⟨a, q, ys, rfl, hs, hl, hy⟩
theorem Dp.net {K : PySem.W.Frag} {H : Hp} {p q : Addr} {xs : List V} {N : Net} (h : SqT K H p [.int N.n, .ref q]) (hq : SqL K H q xs) (hx : DpAll K H xs (N.ls.map lnkD)) : Dp K H (.ref p) (netD N) :=
  .tup h (.cons (.int _) (.cons (.lst hq hx) .nil))
/-! ### pure expressions: what they evaluate to, the heap as it is -/
def Vl (te : TE) (σ : L2.St) (H : Hp) (v : V) : Prop := ∀ Q : VK, Q v H → te σ H Q
def An (t : TT) (σ : L2.St) (H : Hp) (b : Bool) : Prop := ∀ Q : Bool → Hp → Prop, Q b H → t σ H Q
def Va (ta : TA) (σ : L2.St) (H : Hp) (vs : List V) : Prop := ∀ Q : List V → Hp → Prop, Q vs H → ta σ H Q
section
variable {K : PySem.W.Frag} {σ : L2.St} {H : Hp} {i : Nat} {v x y z : V} {ta tb te tv : TE} {b : Bool} {a : Addr} {t u c : TT} {tr : TA} {D : Ends} {tz tw : TS}
theorem va_nil : Va tNil σ H [] := fun _ q => q
theorem va_cons {vs : List V} (h : Vl ta σ H x) (hr : Va tr σ H vs) : Va (tCons ta tr) σ H (x :: vs) := fun Q q => h _ (hr _ q)
theorem vl_var (h : σ[i]? = some (some v)) : Vl (tVar i) σ H v := fun _ q => ⟨v, h, q⟩
theorem vl_c : Vl (tC v) σ H v := fun _ q => q
theorem vl_op {r : R2} (ha : Vl ta σ H x) (hb : Vl tb σ H y) (hr : ∀ Q : VK, Q z H → r x y H Q) : Vl (tOp r ta tb) σ H z := fun Q q => ha _ (hb _ (hr _ q))
theorem vl_I0 {g : Int → Int → V} {p q : Int} (ha : Vl ta σ H (.int p)) (hb : Vl tb σ H (.int q)) : Vl (tOp (rI0 g) ta tb) σ H (g p q) := vl_op ha hb fun _ k => ⟨p, q, rfl, rfl, k⟩
theorem vl_I {C : Int → Int → Prop} {g : Int → Int → V} {p q : Int} (ha : Vl ta σ H (.int p)) (hb : Vl tb σ H (.int q)) (hc : C p q) : Vl (tOp (rI C g) ta tb) σ H (g p q) := vl_op ha hb fun _ k => ⟨p, q, rfl, rfl, hc, k⟩
theorem vl_un {r : V → Hp → VK → Prop} (ha : Vl ta σ H x) (hr : ∀ Q : VK, Q z H → r x H Q) : Vl (tUn r ta) σ H z := fun Q q => ha _ (hr _ q)
theorem vl_neg {p : Int} (ha : Vl ta σ H (.int p)) : Vl (tUn (rU fun i => .int (-i)) ta) σ H (.int (-p)) := vl_un ha fun _ k => ⟨p, rfl, k⟩
theorem vl_cb {r : List V → Hp → VK → Prop} {vs : List V} (h : Va tr σ H vs) (hr : ∀ Q : VK, Q z H → r vs H Q) : Vl (tCB r tr) σ H z := fun Q q => h _ (hr _ q)
theorem vl_int1 {p : Int} (ha : Vl ta σ H (.int p)) : Vl (tCB (fun xs H Q => (∃ i, xs = [V.int i] ∧ Q (V.int i) H) ∨ ∃ k, xs = [V.bl k] ∧ Q (V.int (if k then 1 else 0)) H) (tCons ta tNil)) σ H (.int p) :=
  vl_cb (va_cons ha va_nil) fun _ k => .inl ⟨p, rfl, k⟩
theorem vl_int1b {k : Bool} (ha : Vl ta σ H (.bl k)) : Vl (tCB (fun xs H Q => (∃ i, xs = [V.int i] ∧ Q (V.int i) H) ∨ ∃ k, xs = [V.bl k] ∧ Q (V.int (if k then 1 else 0)) H) (tCons ta tNil)) σ H (.int (if k then 1 else 0)) :=
  vl_cb (va_cons ha va_nil) fun _ q => .inr ⟨k, rfl, q⟩
theorem vl_abs {p : Int} (ha : Vl ta σ H (.int p)) : Vl (tCB (fun xs H Q => ∃ i, xs = [V.int i] ∧ Q (V.int (if i < 0 then -i else i)) H) (tCons ta tNil)) σ H (.int (if p < 0 then -p else p)) :=
  vl_cb (va_cons ha va_nil) fun _ k => ⟨p, rfl, k⟩
theorem vl_min2 {p q : Int} (ha : Vl ta σ H (.int p)) (hb : Vl tb σ H (.int q)) : Vl (tCB (fun xs H Q => ∃ i j, xs = [V.int i, V.int j] ∧ Q (V.int (if j < i then j else i)) H) (tCons ta (tCons tb tNil))) σ H (.int (if q < p then q else p)) :=
  vl_cb (va_cons ha (va_cons hb va_nil)) fun _ k => ⟨p, q, rfl, k⟩
theorem vl_max2 {p q : Int} (ha : Vl ta σ H (.int p)) (hb : Vl tb σ H (.int q)) : Vl (tCB (fun xs H Q => ∃ i j, xs = [V.int i, V.int j] ∧ Q (V.int (if j > i then j else i)) H) (tCons ta (tCons tb tNil))) σ H (.int (if q > p then q else p)) :=
  vl_cb (va_cons ha (va_cons hb va_nil)) fun _ k => ⟨p, q, rfl, k⟩
theorem vl_lenL {xs : List V} (ha : Vl ta σ H (.ref a)) (h : SqL K H a xs) : Vl (tCB (fun xs H Q => ∃ p ys, xs = [V.ref p] ∧ (SqL K H p ys ∨ SqT K H p ys) ∧ Q (V.int ys.length) H) (tCons ta tNil)) σ H (.int xs.length) :=
  vl_cb (va_cons ha va_nil) fun _ k => ⟨a, xs, rfl, .inl h, k⟩
theorem vl_ixL {xs : List V} {p : Int} (ha : Vl ta σ H (.ref a)) (hb : Vl tb σ H (.int p)) (h : SqL K H a xs) (hg : atI xs p = some z) : Vl (tOp (rIxL K) ta tb) σ H z :=
  vl_op ha hb fun _ k => ⟨a, xs, p, z, rfl, rfl, h, hg, k⟩
theorem vl_ixT {xs : List V} {p : Int} (ha : Vl ta σ H (.ref a)) (hb : Vl tb σ H (.int p)) (h : SqT K H a xs) (hg : atI xs p = some z) : Vl (tOp (rIxT K) ta tb) σ H z :=
  vl_op ha hb fun _ k => ⟨a, xs, p, z, rfl, rfl, h, hg, k⟩
theorem vl_eq (ha : Vl ta σ H x) (hb : Vl tb σ H y) (hs : scal x y = true) : Vl (tOp rEq ta tb) σ H (.bl (decide (x = y))) := vl_op ha hb fun _ k => ⟨hs, k⟩
theorem vl_ne (ha : Vl ta σ H x) (hb : Vl tb σ H y) (hs : scal x y = true) : Vl (tOp rNe ta tb) σ H (.bl (!decide (x = y))) := vl_op ha hb fun _ k => ⟨hs, k⟩
theorem vl_isN (ha : Vl ta σ H x) : Vl (tOp (fun x y H Q => y = V.non ∧ Q (V.bl (decide (x = V.non))) H) ta (tC .non)) σ H (.bl (decide (x = .non))) := vl_op ha vl_c fun _ k => ⟨rfl, k⟩
theorem vl_notN (ha : Vl ta σ H x) : Vl (tOp (fun x y H Q => y = V.non ∧ Q (V.bl (!decide (x = V.non))) H) ta (tC .non)) σ H (.bl (!decide (x = .non))) := vl_op ha vl_c fun _ k => ⟨rfl, k⟩
theorem vl_chain {r r' : R2} {tc : TE} {w : V} {k m : Bool} (ha : Vl ta σ H x) (hb : Vl tb σ H y) (hr : ∀ Q : VK, Q (.bl k) H → r x y H Q) (hc : Vl tc σ H w) (hr' : ∀ Q : VK, Q (.bl m) H → r' y w H Q) : Vl (tChain r r' ta tb tc) σ H (.bl (k && m)) := fun Q q =>
  ha _ (hb _ (hr _ ⟨k, rfl, by
    cases k with
    | true => exact iteT (hc _ (hr' _ q))
    | false => exact iteF q⟩))
theorem vl_chainI {g g' : Int → Int → Bool} {tc : TE} {p q s : Int} (ha : Vl ta σ H (.int p)) (hb : Vl tb σ H (.int q)) (hc : Vl tc σ H (.int s)) :
    Vl (tChain (rI0 fun i j => .bl (g i j)) (rI0 fun i j => .bl (g' i j)) ta tb tc) σ H (.bl (g p q && g' q s)) :=
  vl_chain ha hb (fun _ k => ⟨p, q, rfl, rfl, k⟩) hc (fun _ k => ⟨q, s, rfl, rfl, k⟩)
theorem vl_if {b : Bool} (h : An t σ H b) (h1 : b = true → Vl ta σ H v) (h2 : b = false → Vl tb σ H v) : Vl (tIf t ta tb) σ H v := fun Q q => h _ (by
  cases b with
  | true => exact iteT (h1 rfl _ q)
  | false => exact iteF (h2 rfl _ q))
theorem an_test {b : Bool} (h : Vl te σ H (.bl b)) : An (tTest te) σ H b := fun Q q => h _ ⟨b, rfl, q⟩
theorem an_B {b : Bool} (h : Vl te σ H (.bl b)) : An (tB te) σ H b := fun Q q => h _ ⟨b, rfl, q⟩
theorem an_not (h : An t σ H b) : An (tNot t) σ H (!b) := fun Q q => h _ q
theorem an_and {k m : Bool} (h1 : An t σ H k) (h2 : k = true → An u σ H m) : An (tAnd t u) σ H (k && m) := fun Q q => h1 _ (by
  cases k with
  | true => exact iteT (h2 rfl _ q)
  | false => exact iteF q)
theorem an_or {k m : Bool} (h1 : An t σ H k) (h2 : k = false → An u σ H m) : An (tOr t u) σ H (k || m) := fun Q q => h1 _ (by
  cases k with
  | true => exact iteT q
  | false => exact iteF (h2 rfl _ q))
theorem An.is {k m : Bool} (h : An t σ H k) (e : k = m) : An t σ H m := e ▸ h
theorem Vl.is {v w : V} (h : Vl te σ H v) (e : v = w) : Vl te σ H w := e ▸ h
/-! ### statements over them -/
theorem g_seq (h : tz { D with nx := tw D } σ H) : tSeq tz tw D σ H := h
theorem g_asg {i : Nat} (h : Vl te σ H v) (k : D.nx (σ.set i (some v)) H) : tAsg te (gName i) D σ H := h _ k
theorem g_ret (h : Vl te σ H v) (k : D.rt v H) : tRet te D σ H := h _ k
theorem g_if {b : Bool} (h : An t σ H b) (h1 : b = true → tz D σ H) (h2 : b = false → tw D σ H) : tIfS t tz tw D σ H := h _ (by
  cases b with
  | true => exact iteT (h1 rfl)
  | false => exact iteF (h2 rfl))
theorem g_app {l : Addr} {xs : List V} (ho : Vl ta σ H (.ref l)) (hl : H l = some (.lst xs)) (h : Vl te σ H v) (hz : xs.length < sizeLine) (k : D.nx σ (upd H l (.lst (xs ++ [v])))) :
    tDrop (tBM K "list" rAppend ta (tCons te tNil)) D σ H := ho _ ⟨.inl ⟨rfl, _, .inl (.inl hl)⟩, h _ ⟨l, xs, v, rfl, rfl, hl, hz, k⟩⟩
theorem at_int {ds : List Int} {k : Int} (h0 : 0 ≤ k) (h1 : k < (ds.length : Int)) : ∃ d, atI (ds.map V.int) k = some (.int d) ∧ ds[k.toNat]? = some d := by
  have hj : k.toNat < ds.length := by omega
  have g : (ds.map V.int)[k.toNat]? = some (.int ds[k.toNat]) := by
    rw [List.getElem?_map, List.getElem?_eq_getElem hj]
    rfl
  have g2 := atI_nat g
  rw [show ((k.toNat : Nat) : Int) = k by omega] at g2
  exact ⟨ds[k.toNat], g2, List.getElem?_eq_getElem hj⟩
/-! ### loops -/
theorem g_forR {j : Nat} {n : Int} (h : Va tr σ H [.int n]) (hn : -(2 ^ 62) ≤ n ∧ n < 2 ^ 62) (Pv : Nat → L2.St → Hp → Prop) (h0 : Pv 0 σ H)
    (hs : ∀ (i : Nat) σ H, (i : Int) < n → Pv i σ H → tz { D with nx := Pv (i + 1), ct := Pv (i + 1), bk := D.nx } (σ.set j (some (.int i))) H) (hd : ∀ σ H, Pv n.toNat σ H → D.nx σ H) :
    tFor (iRng1 tr) (gName j) tz D σ H := h _ ⟨n, rfl, hn.1, hn.2, for_range (lo := 0) (n := n.toNat) Pv h0 (fun i σ H hi p => by
      show tz _ (σ.set j (some (.int (0 + i)))) H
      rw [Int.zero_add]
      exact hs i σ H (by omega) p) hd⟩
theorem g_forR2 {j : Nat} {lo n : Int} (h : Va tr σ H [.int lo, .int n]) (hn : -(2 ^ 62) ≤ lo ∧ lo < 2 ^ 62 ∧ -(2 ^ 62) ≤ n ∧ n < 2 ^ 62) (Pv : Nat → L2.St → Hp → Prop) (h0 : Pv 0 σ H)
    (hs : ∀ (i : Nat) σ H, lo + (i : Int) < n → Pv i σ H → tz { D with nx := Pv (i + 1), ct := Pv (i + 1), bk := D.nx } (σ.set j (some (.int (lo + i)))) H) (hd : ∀ σ H, Pv (n - lo).toNat σ H → D.nx σ H) :
    tFor (iRng2 tr) (gName j) tz D σ H := h _ ⟨lo, n, rfl, hn, for_range (lo := lo) (n := (n - lo).toNat) Pv h0 (fun i σ H hi p => hs i σ H (by omega) p) hd⟩
theorem g_forL {j : Nat} {xs : List V} {tl : TE} (h : Vl tl σ H (.ref a)) (hx : SqL K H a xs) (Pv : Nat → L2.St → Hp → Prop) (h0 : Pv 0 σ H) (hl : ∀ i σ' H', Pv i σ' H' → SqL K H' a xs)
    (hs : ∀ (i : Nat) x σ H, xs[i]? = some x → Pv i σ H → tz { D with nx := Pv (i + 1), ct := Pv (i + 1), bk := D.nx } (σ.set j (some x)) H) (hd : ∀ σ H, Pv xs.length σ H → D.nx σ H) :
    tFor (iList K tl) (gName j) tz D σ H := h _ ⟨a, rfl, ⟨_, hx⟩, for_list (xs := xs) Pv h0 (fun i σ H _ p => hl i σ H p) hs hd⟩
/-- for a, b, there, back in links -/
theorem g_forLnk {j1 j2 j3 j4 : Nat} {Hb : Hp} {xs : List V} {ls : List Lnk} {tl : TE} (h : Vl tl σ H (.ref a)) (hx : SqL K Hb a xs) (hL : DpAll K Hb xs (ls.map lnkD)) (hb : Same Hb H) (Pv : Nat → L2.St → Hp → Prop) (h0 : Pv 0 σ H) (hl : ∀ i σ' H', Pv i σ' H' → Same Hb H')
    (hs : ∀ (i : Nat) l σ H, ls[i]? = some l → Pv i σ H → tz { D with nx := Pv (i + 1), ct := Pv (i + 1), bk := D.nx } ((((σ.set j1 (some (.int l.a))).set j2 (some (.int l.b))).set j3 (some (oV l.t))).set j4 (some (oV l.k))) H) (hd : ∀ σ H, Pv ls.length σ H → D.nx σ H) :
    tFor (iList K tl) (gTup K 4 (gCons (gName j1) (gCons (gName j2) (gCons (gName j3) (gCons (gName j4) gNil))))) tz D σ H := h _ ⟨a, rfl, ⟨_, hb.seq hx⟩, for_list (xs := xs) Pv h0 (fun i σ H _ p => (hl i σ H p).seq hx) (fun i x σ H hi p => by
      have e := DpAll.len hL
      rw [List.length_map] at e
      have hlt : i < xs.length := by
        by_cases hlt : i < xs.length
        · exact hlt
        · rw [List.getElem?_eq_none (by omega)] at hi
          cases hi
      have hg : ls[i]? = some ls[i] := List.getElem?_eq_getElem (by omega)
      obtain ⟨v, hv, dv⟩ := DpAll.get (i := i) (d := lnkD ls[i]) hL (by
        rw [List.getElem?_map, hg]
        rfl)
      cases hi.symm.trans hv
      obtain ⟨t, rfl, ht⟩ := Dp.lnk_inv dv
      exact ⟨t, _, rfl, seqT (hl i σ H p) ht, rfl, _, _, rfl, _, _, rfl, _, _, rfl, _, _, rfl, rfl, hs i _ σ H hg p⟩) (fun σ H p => by
      have e := DpAll.len hL
      rw [List.length_map] at e
      rw [e] at p
      exact hd σ H p)⟩
/-! ### the same with what follows -/
theorem q_asg {i : Nat} (h : Vl te σ H v) (k : tw D (σ.set i (some v)) H) : tSeq (tAsg te (gName i)) tw D σ H := h _ k
theorem q_if {b : Bool} {tu : TS} (h : An t σ H b) (h1 : b = true → tz { D with nx := tw D } σ H) (h2 : b = false → tu { D with nx := tw D } σ H) : tSeq (tIfS t tz tu) tw D σ H := g_if (D := { D with nx := tw D }) h h1 h2
/-- an if without else whose body leaves the def (or the turn) -/
theorem q_when {b : Bool} (h : An t σ H b) (h1 : b = true → tz { D with nx := tw D } σ H) (h2 : b = false → tw D σ H) : tSeq (tIfS t tz tNext) tw D σ H := g_if (D := { D with nx := tw D }) h h1 h2
theorem g_when {b : Bool} (h : An t σ H b) (h1 : b = true → tz D σ H) (h2 : b = false → D.nx σ H) : tIfS t tz tNext D σ H := g_if h h1 h2
theorem q_app {l : Addr} {xs : List V} (ho : Vl ta σ H (.ref l)) (hl : H l = some (.lst xs)) (h : Vl te σ H v) (hz : xs.length < sizeLine) (k : tw D σ (upd H l (.lst (xs ++ [v])))) :
    tSeq (tDrop (tBM K "list" rAppend ta (tCons te tNil))) tw D σ H := g_app (D := { D with nx := tw D }) ho hl h hz k
theorem q_forR {j : Nat} {n : Int} (h : Va tr σ H [.int n]) (hn : -(2 ^ 62) ≤ n ∧ n < 2 ^ 62) (Pv : Nat → L2.St → Hp → Prop) (h0 : Pv 0 σ H)
    (hs : ∀ (i : Nat) σ H, (i : Int) < n → Pv i σ H → tz { D with nx := Pv (i + 1), ct := Pv (i + 1), bk := tw D } (σ.set j (some (.int i))) H) (hd : ∀ σ H, Pv n.toNat σ H → tw D σ H) :
    tSeq (tFor (iRng1 tr) (gName j) tz) tw D σ H := g_forR (D := { D with nx := tw D }) h hn Pv h0 hs hd
theorem q_forR2 {j : Nat} {lo n : Int} (h : Va tr σ H [.int lo, .int n]) (hn : -(2 ^ 62) ≤ lo ∧ lo < 2 ^ 62 ∧ -(2 ^ 62) ≤ n ∧ n < 2 ^ 62) (Pv : Nat → L2.St → Hp → Prop) (h0 : Pv 0 σ H)
    (hs : ∀ (i : Nat) σ H, lo + (i : Int) < n → Pv i σ H → tz { D with nx := Pv (i + 1), ct := Pv (i + 1), bk := tw D } (σ.set j (some (.int (lo + i)))) H) (hd : ∀ σ H, Pv (n - lo).toNat σ H → tw D σ H) :
    tSeq (tFor (iRng2 tr) (gName j) tz) tw D σ H := g_forR2 (D := { D with nx := tw D }) h hn Pv h0 hs hd
theorem q_forL {j : Nat} {xs : List V} {tl : TE} (h : Vl tl σ H (.ref a)) (hx : SqL K H a xs) (Pv : Nat → L2.St → Hp → Prop) (h0 : Pv 0 σ H) (hl : ∀ i σ' H', Pv i σ' H' → SqL K H' a xs)
    (hs : ∀ (i : Nat) x σ H, xs[i]? = some x → Pv i σ H → tz { D with nx := Pv (i + 1), ct := Pv (i + 1), bk := tw D } (σ.set j (some x)) H) (hd : ∀ σ H, Pv xs.length σ H → tw D σ H) :
    tSeq (tFor (iList K tl) (gName j) tz) tw D σ H := g_forL (D := { D with nx := tw D }) h hx Pv h0 hl hs hd
theorem q_forLnk {j1 j2 j3 j4 : Nat} {Hb : Hp} {xs : List V} {ls : List Lnk} {tl : TE} (h : Vl tl σ H (.ref a)) (hx : SqL K Hb a xs) (hL : DpAll K Hb xs (ls.map lnkD)) (hb : Same Hb H) (Pv : Nat → L2.St → Hp → Prop) (h0 : Pv 0 σ H) (hl : ∀ i σ' H', Pv i σ' H' → Same Hb H')
    (hs : ∀ (i : Nat) l σ H, ls[i]? = some l → Pv i σ H → tz { D with nx := Pv (i + 1), ct := Pv (i + 1), bk := tw D } ((((σ.set j1 (some (.int l.a))).set j2 (some (.int l.b))).set j3 (some (oV l.t))).set j4 (some (oV l.k))) H) (hd : ∀ σ H, Pv ls.length σ H → tw D σ H) :
    tSeq (tFor (iList K tl) (gTup K 4 (gCons (gName j1) (gCons (gName j2) (gCons (gName j3) (gCons (gName j4) gNil))))) tz) tw D σ H := g_forLnk (D := { D with nx := tw D }) h hx hL hb Pv h0 hl hs hd
theorem q_asgT2 {i j : Nat} {p : Addr} (h : Vl te σ H (.ref p)) (hp : SqT K H p [x, y]) (k : tw D ((σ.set i (some x)).set j (some y)) H) : tSeq (tAsg te (gTup K 2 (gCons (gName i) (gCons (gName j) gNil)))) tw D σ H :=
  h _ ⟨p, _, rfl, hp, rfl, _, _, rfl, _, _, rfl, rfl, k⟩
theorem q_dnewT {i : Nat} (k : ∀ p, H p = none → tw D (σ.set i (some (.ref p))) (upd H p (.dT []))) : tSeq (tAsg tDNewT (gName i)) tw D σ H := k
theorem q_lnew {i : Nat} (k : ∀ p, H p = none → tw D (σ.set i (some (.ref p))) (upd H p (.lst []))) : tSeq (tAsg (tLst tNil) (gName i)) tw D σ H := ⟨Nat.zero_le _, k⟩
theorem q_dput {td ty : TE} {o : Addr} {kvs : List (List Key × V)} {y1 y2 : Int} (hv : Vl te σ H v) (ho : Vl td σ H (.ref o)) (h1 : Vl ta σ H (.int y1)) (h2 : Vl tb σ H (.int y2)) (hd : H o = some (.dT kvs)) (hl : kvs.length < sizeLine)
    (k : ∀ T, H T = none → o ≠ T → tw D σ (upd (upd H T (.tup [.int y1, .int y2])) o (.dT (putK kvs [.inl y1, .inl y2] v)))) : tSeq (sDPut td (tTup (tCons ta (tCons tb tNil))) te) tw D σ H :=
  hv _ (ho _ (h1 _ (h2 _ ⟨by show 2 ≤ sizeLine; decide, fun T nT => by
    have oT : o ≠ T := ne_of_none hd nT
    exact ⟨o, _, rfl, DPut.t (k := [.inl y1, .inl y2]) (by rw [upd_ne oT]; exact hd) upd_same hl, k T nT oT⟩⟩)))
theorem q_dgetT {i : Nat} {td : TE} {o : Addr} {kvs : List (List Key × V)} {y1 y2 : Int} (ho : Vl td σ H (.ref o)) (h1 : ∀ H, Vl ta σ H (.int y1)) (h2 : ∀ H, Vl tb σ H (.int y2)) (hd : H o = some (.dT kvs))
    (k : ∀ T, H T = none → tw D (σ.set i (some ((valV kvs [.inl y1, .inl y2]).getD .non))) (upd H T (.tup [.int y1, .int y2]))) : tSeq (tAsg (tDGet1 td (tTup (tCons ta (tCons tb tNil)))) (gName i)) tw D σ H :=
  ho _ ⟨o, rfl, .inr ⟨_, .inl hd⟩, h1 _ _ (h2 _ _ ⟨by show 2 ≤ sizeLine; decide, fun T nT => by
    have oT : o ≠ T := ne_of_none hd nT
    exact ⟨_, DGet.t (k := [.inl y1, .inl y2]) (by rw [upd_ne oT]; exact hd) upd_same, k T nT⟩⟩)⟩
theorem q_asgE {i : Nat} (h : te σ H fun v H' => tw D (σ.set i (some v)) H') : tSeq (tAsg te (gName i)) tw D σ H := h
theorem g_asgE {i : Nat} (h : te σ H fun v H' => D.nx (σ.set i (some v)) H') : tAsg te (gName i) D σ H := h
theorem q_cut {M : L2.St → Hp → Prop} (h : tz { D with nx := M } σ H) (k : ∀ σ' H', M σ' H' → tw D σ' H') : Evl.tCut tz tw D σ H := ⟨M, h, k⟩
end
/-! ### defs that may be called by their names -/
structure Df (K : PySem.W.Frag) (mg : Str → Option Value) (x : Str) (st : Stmt) (ps : List Str) : Prop where
  ex : ∃ (f : Addr) (fd : FuncData), Fun K x x st f fd ∧ mg x = some (.ref f) ∧ Binds K fd ps []
structure Kal (P : Program) (w : World) (K : PySem.W.Frag) (mg : Str → Option Value) (base : Heap) (k : Nat) (x : Str) (ps : List Str) (sp : Sp) : Prop where
  ex : ∃ (f : Addr) (fd : FuncData), FnOk P w K mg base CX0 k f fd ps sp ∧ mg x = some (.ref f) ∧ PySem.W.keepIn K (.ref f) = true ∧ Binds K fd ps []
theorem kal_of {P : Program} {w : World} {K : PySem.W.Frag} {mg : Str → Option Value} {base : Heap} {k : Nat} {x : Str} {st : Stmt} {ps : List Str} {sp : Sp} (A : Df K mg x st ps)
    (ok : ∀ f fd, Fun K x x st f fd → FnOk P w K mg base CX0 k f fd ps sp) : Kal P w K mg base k x ps sp := by
  obtain ⟨f, fd, F, g, b⟩ := A.ex
  exact ⟨f, fd, ok f fd F, g, F.kp, b⟩
theorem pe_k {X : Cx} {k j : Nat} {x : Str} {ps : List Str} {sp : Sp} {p pos : Pos} {e : Expr} {es : List Expr} {t : TA} (c : Kal X.prog X.w X.K X.mg X.base k x ps sp) (hr : Room j X.A) (hk : k ≤ j) (hg : Gl X x) (ha : PA X (e :: es) t)
    (hdb : (x == ("__debug__" : Str)) = false := by decide) (he : starEach (e :: es) X.env = (false, eval e X.env) :: starEach es X.env := by rfl) (hpl : (backTo pos (starEach es X.env)).any (·.1) = false := by rfl) :
    PE X (.Call (.Name x p) (e :: es) [] pos) (tCall sp [] E0 t) := by
  obtain ⟨f, fd, F, hm, kp, b⟩ := c.ex
  exact pe_call F (hr.mono hk) hg hm kp b .nil pass0 ha hdb he hpl
/-! ### values that are not told: ints of which P holds -/
def Vi (te : TE) (σ : L2.St) (H : Hp) (P : Int → Prop) : Prop := ∀ Q : VK, (∀ r, P r → Q (.int r) H) → te σ H Q
section
variable {K : PySem.W.Frag} {σ : L2.St} {H : Hp} {i : Nat} {ta tb te : TE} {tr : TA} {D : Ends} {tz tw tu : TS} {P P1 P2 : Int → Prop}
theorem vi_of {n : Int} (h : Vl te σ H (.int n)) : Vi te σ H (fun r => r = n) := fun _ q => h _ (q n rfl)
theorem vi_I0 {g : Int → Int → Int} (ha : Vi ta σ H P1) (hb : Vi tb σ H P2) (h : ∀ p q, P1 p → P2 q → P (g p q)) : Vi (tOp (rI0 fun i j => .int (g i j)) ta tb) σ H P := fun _ k =>
  ha _ fun p hp => hb _ fun q hq => ⟨p, q, rfl, rfl, k _ (h p q hp hq)⟩
theorem vi_call {sp : Sp} {vs : List V} (h : Va tr σ H vs) (hs : ∀ Q E, (∀ r, P r → Q (.int r) H) → sp vs H Q E) : Vi (tCall sp [] E0 tr) σ H P := fun Q q => h _ (by
  show sp (vs ++ []) H Q E0
  rw [List.append_nil]
  exact hs Q E0 q)
theorem vi_mono (h : Vi te σ H P1) (hh : ∀ r, P1 r → P r) : Vi te σ H P := fun Q q => h Q fun r hr => q r (hh r hr)
theorem g_asgI {i : Nat} (h : Vi te σ H P) (k : ∀ r, P r → D.nx (σ.set i (some (.int r))) H) : tAsg te (gName i) D σ H := h _ k
theorem q_asgI {i : Nat} (h : Vi te σ H P) (k : ∀ r, P r → tw D (σ.set i (some (.int r))) H) : tSeq (tAsg te (gName i)) tw D σ H := h _ k
theorem g_retI (h : Vi te σ H P) (k : ∀ r, P r → D.rt (.int r) H) : tRet te D σ H := h _ k
end
local macro_rules
  | `(tactic| walk_at "ev") => `(tactic| repeat' (first
    | exact vl_c | exact vl_var rfl | apply vl_I0 | apply vl_I | apply vl_int1 | apply vl_abs | apply vl_min2 | apply vl_max2 | apply vl_neg | apply vl_chainI
    | apply vl_lenL | apply vl_ixL | apply vl_ixT | apply vl_isN | apply vl_notN | apply vl_eq | apply vl_ne
    | apply an_test | apply an_B | apply an_not
    | exact (show (0 : Int) < _ by decide) | exact (show (0 : Int) < _ ∧ _ < (1073741824 : Int) from ⟨by decide, by decide⟩)))
abbrev sDraws : Stmt := topS 5
theorem scDraws : FnScope ["script", "draws", "k", "rest", "turn", "mixed"] ["script"] (defScope sDraws) := ⟨rfl, rfl, rfl, by decide +kernel, rfl, by decide +kernel, by decide +kernel⟩
structure DrawsOk (m : Nat) (ds : List Int) : Prop where
  len : ds.length ≤ m
  all : ∀ d ∈ ds, 0 ≤ d ∧ d < 65536
theorem DrawsOk.app {m : Nat} {ds : List Int} {d : Int} (h : DrawsOk m ds) (h0 : 0 ≤ d) (h1 : d < 65536) : DrawsOk (m + 1) (ds ++ [d]) where
  len := by
    rw [List.length_append]
    exact Nat.succ_le_succ h.len
  all := fun e he => by
    rcases List.mem_append.mp he with h' | h'
    · exact h.all e h'
    · rw [List.mem_singleton.mp h']
      exact ⟨h0, h1⟩
theorem DrawsOk.mono {m n : Nat} {ds : List Int} (h : DrawsOk m ds) (le : m ≤ n) : DrawsOk n ds := ⟨Nat.le_trans h.len le, h.all⟩
def spDraws (K : PySem.W.Frag) : Sp := fun vs H Q _ => ∃ (a : Addr) (ns : List Int), vs = [.ref a] ∧ SqL K H a (ns.map V.int) ∧ ns.length ≤ 63 ∧
  ∀ H' p ds, Same H H' → H p = none → H' p = some (.lst (ds.map V.int)) → DrawsOk 3780 ds → Q (.ref p) H'
section
variable {P : Program} {w : World} {K : PySem.W.Frag} {mg : Str → Option Value} {base : Heap}
theorem ok_draws {f : Addr} {fd : FuncData} {k : Nat} (F : Fun K "_law_draws" "_law_draws" sDraws f fd) (mr : mg "range" = none) (mm : mg "min" = none) (ml : mg "len" = none) (ma : mg "abs" = none) (mi : mg "int" = none) :
    FnOk P w K mg base CX0 (k + 1) f fd ["script"] (spDraws K) := by
  refine F.ok scDraws (fun vs H Q E h => ?_) (fun cdv A outer s H vs Q E hr h => ?_)
  · obtain ⟨a, ns, rfl, _⟩ := h
    rfl
  · obtain ⟨a, ns, rfl, hS, hlen, q⟩ := h
    refine ⟨_, pss_cons (ps_set (i := 1) scDraws.nd rfl (.inl rfl) (pe_lst pa_nil))
      (pss_cons (ps_for PassesOwn.never rfl (pi_range1 (by rfl) mr (pa_cons (pe_callB (call_min2 rfl) (by rfl) mm (by decide +kernel) (pa_cons pe_int (pa_cons (pe_callB call_len_seq (by rfl) ml PySem.boot_len (pa_cons (pv 0) pa_nil)) pa_nil))) pa_nil)) (pg_name (i := 2) scDraws.nd rfl (.inl rfl))
        (pss_cons (ps_set (i := 3) scDraws.nd rfl (.inl rfl) (pe_callB call_abs (by rfl) ma (by decide +kernel) (pa_cons (pe_ix ix_list (pv 0) (pv 2) (fun _ _ => rfl)) pa_nil)))
        (pss_one (ps_if (pt_cmpR op_ge (pv 3) (pe_op op_pow pe_int pe_int) (nomark _))
          (pss_one (ps_for PassesOwn.never rfl (pi_range1 (by rfl) mr (pa_cons pe_int pa_nil)) (pg_name (i := 4) scDraws.nd rfl (.inl rfl))
            (pss_one (ps_if (pt_cmpR op_gt (pv 3) pe_int (nomark _))
              (pss_cons (ps_expr (pe_bm PySem.F.plainAttrs_list PySem.F.slot_list_append PySem.F.type_list_append mt_append (pv 1) (pa_cons (pe_op op_mod (pe_callTy call_int1 (by rfl) mi (by decide +kernel) (pa_cons (pv 3) pa_nil)) pe_int) pa_nil)))
              (pss_one (ps_set (i := 3) scDraws.nd rfl (.inl rfl) (pe_op op_fdiv (pv 3) pe_int)))) pss_nil))))
          (pss_cons (ps_set (i := 5) scDraws.nd rfl (.inl rfl) (pe_op op_mod (pe_callTy call_int1 (by rfl) mi (by decide +kernel) (pa_cons (pe_op op_add (pe_op op_mul (pv 3) pe_int) (pe_op op_mul (pe_op op_add (pv 2) pe_int) pe_int)) pa_nil)) pe_int))
          (pss_cons (ps_set (i := 5) scDraws.nd rfl (.inl rfl) (pe_op op_mod (pe_callTy call_int1 (by rfl) mi (by decide +kernel) (pa_cons (pe_op op_add (pe_op op_add (pe_op op_mul (pv 5) pe_int) (pe_op op_mul pe_int (pv 2))) pe_int) pa_nil)) pe_int))
          (pss_cons (ps_expr (pe_bm PySem.F.plainAttrs_list PySem.F.slot_list_append PySem.F.type_list_append mt_append (pv 1) (pa_cons (pe_op op_mod (pe_callTy call_int1 (by rfl) mi (by decide +kernel) (pa_cons (pv 5) pa_nil)) pe_int) pa_nil)))
          (pss_one (ps_expr (pe_bm PySem.F.plainAttrs_list PySem.F.slot_list_append PySem.F.type_list_append mt_append (pv 1) (pa_cons (pe_op op_mod (pe_callTy call_int1 (by rfl) mi (by decide +kernel) (pa_cons (pe_op op_fdiv (pv 5) pe_int) pa_nil)) pe_int) pa_nil)))))))))))
      (pss_one (ps_ret (pv 1)))), ?_⟩
    -- draws = []
    refine ⟨Nat.zero_le _, fun o no => ?_⟩
    have s1 : Same H (upd H o (.lst [])) := same_upd no
    have hS1 := s1.seq hS
    refine (q_forR (n := if (ns.length : Int) < 63 then (ns.length : Int) else 63) (va_cons (vl_min2 vl_c ((vl_lenL (vl_var rfl) hS1).is (by rw [List.length_map]))) va_nil) ⟨by split <;> omega, by split <;> omega⟩
      (fun i σ H3 => ∃ y2 y3 y4 y5 ds, σ = [some (.ref a), some (.ref o), y2, y3, y4, y5] ∧ Same H H3 ∧ H3 o = some (.lst (ds.map V.int)) ∧ DrawsOk (60 * i) ds)
      ⟨none, none, none, none, [], rfl, s1, upd_same, Nat.zero_le _, fun _ h => by cases h⟩ (fun i σ H3 hi hP => ?_) (fun σ H3 hP => ?_))
    · obtain ⟨y2, y3, y4, y5, ds, rfl, sm, ho, hd⟩ := hP
      have hi2 : i < ns.length := by
        split at hi <;> omega
      have hA := sm.seq hS
      have g1 : (ns.map V.int)[i]? = some (.int ns[i]) := by
        rw [List.getElem?_map, List.getElem?_eq_getElem hi2]
        rfl
      -- rest = abs(script[k])
      refine (q_asg (v := .int (if ns[i] < 0 then -ns[i] else ns[i])) (vl_abs (vl_ixL (vl_var rfl) (vl_var rfl) hA (atI_nat g1))) ?_)
      generalize hr0 : (if ns[i] < 0 then -ns[i] else ns[i]) = r
      have hr1 : 0 ≤ r := by
        rw [← hr0]
        split <;> omega
      refine g_if (b := decide ((10 : Int) ^ (18 : Int).toNat ≤ r)) (by exact an_test (vl_I0 (vl_var rfl) (vl_I vl_c vl_c ⟨by decide, by decide, by decide⟩))) (fun _ => ?_) (fun hlt => ?_)
      · refine g_forR (n := 60) (va_cons vl_c va_nil) ⟨by decide, by decide⟩
          (fun j σ H4 => ∃ y4 r ds', σ = [some (.ref a), some (.ref o), some (.int i), some (.int r), y4, y5] ∧ Same H H4 ∧ H4 o = some (.lst (ds'.map V.int)) ∧ DrawsOk (60 * i + j) ds')
          ⟨y4, r, ds, rfl, sm, ho, hd⟩ (fun j σ H4 hj hP => ?_) (fun σ H4 hP => ?_)
        · obtain ⟨z4, r', ds', rfl, sm', ho', hd'⟩ := hP
          refine g_if (by walk_at "ev") (fun _ => ?_) (fun _ => ?_)
          · have h0 : 0 ≤ r' % 65536 := Int.emod_nonneg _ (by decide)
            have h1 : r' % 65536 < 65536 := Int.emod_lt_of_pos _ (by decide)
            refine (q_app (vl_var rfl) ho' (v := .int (r' % 65536)) (by walk_at "ev") ?_ ?_)
            · rw [List.length_map]
              have := hd'.len
              exact Nat.lt_of_le_of_lt this (Nat.lt_of_le_of_lt (show 60 * i + j ≤ 10000 by omega) (by decide))
            · refine g_asg (v := .int (r' / 65536)) (by walk_at "ev") ?_
              refine ⟨_, _, ds' ++ [r' % 65536], rfl, same_upd' sm' no, ?_, hd'.app h0 h1⟩
              rw [upd_same, List.map_append]
              rfl
          · exact ⟨_, _, ds', rfl, sm', ho', hd'.mono (Nat.le_succ _)⟩
        · obtain ⟨z4, r', ds', rfl, sm', ho', hd'⟩ := hP
          exact ⟨_, _, _, _, ds', rfl, sm', ho', hd'⟩
      · have hlt : r < 1000000000000000000 := by
          have := of_decide_eq_false hlt
          have e : (10 : Int) ^ (18 : Int).toNat = 1000000000000000000 := by decide
          omega
        refine (q_asg (v := .int ((r * 48271 + ((i : Int) + 1) * 69621) % 2147483647)) (by walk_at "ev"; exact .inl ⟨by omega, by omega⟩; exact .inl ⟨by omega, by omega⟩) ?_)
        generalize hm : (r * 48271 + ((i : Int) + 1) * 69621) % 2147483647 = m
        have hm0 : 0 ≤ m := by
          rw [← hm]
          exact Int.emod_nonneg _ (by decide)
        have hm1 : m < 2147483647 := by
          rw [← hm]
          exact Int.emod_lt_of_pos _ (by decide)
        refine (q_asg (v := .int ((m * 16807 + 11 * (i : Int) + 5) % 2147483629)) (by walk_at "ev"; exact .inl ⟨by omega, by omega⟩; exact .inl ⟨by decide, by decide⟩) ?_)
        generalize (m * 16807 + 11 * (i : Int) + 5) % 2147483629 = m2
        have h0 : 0 ≤ m2 % 65536 := Int.emod_nonneg _ (by decide)
        have h1 : m2 % 65536 < 65536 := Int.emod_lt_of_pos _ (by decide)
        have h2 : 0 ≤ (m2 / 65536) % 32768 := Int.emod_nonneg _ (by decide)
        have h3 : (m2 / 65536) % 32768 < 65536 := Int.lt_trans (Int.emod_lt_of_pos _ (by decide)) (by decide)
        have hl := hd.len
        refine (q_app (vl_var rfl) ho (v := .int (m2 % 65536)) (by walk_at "ev") ?_ ?_)
        · rw [List.length_map]
          exact Nat.lt_of_le_of_lt (show ds.length ≤ 10000 by omega) (by decide)
        · refine g_app (vl_var rfl) upd_same (v := .int ((m2 / 65536) % 32768)) (by walk_at "ev") ?_ ?_
          · rw [List.length_append, List.length_map]
            exact Nat.lt_of_le_of_lt (show ds.length + 1 ≤ 10000 by omega) (by decide)
          · refine ⟨_, _, _, _, (ds ++ [m2 % 65536]) ++ [(m2 / 65536) % 32768], rfl, same_upd' (same_upd' sm no) no, ?_, ((hd.app h0 h1).app h2 h3).mono (by omega)⟩
            rw [upd_same, List.map_append, List.map_append]
            rfl
    · obtain ⟨y2, y3, y4, y5, ds, rfl, sm, ho, hd⟩ := hP
      refine g_ret (vl_var rfl) (q H3 o ds sm no ho (hd.mono ?_))
      split <;> omega
end
abbrev sAt : Stmt := topS 6
abbrev sIsI : Stmt := topS 7
theorem scAt : FnScope ["draws", "k", "many"] ["draws", "k", "many"] (defScope sAt) := ⟨rfl, rfl, rfl, by decide +kernel, rfl, by decide +kernel, by decide +kernel⟩
theorem scIsI : FnScope ["actual"] ["actual"] (defScope sIsI) := ⟨rfl, rfl, rfl, by decide +kernel, rfl, by decide +kernel, by decide +kernel⟩
local macro_rules
  | `(tactic| walk_at "ev") => `(tactic| repeat' (first
    | exact vl_c | exact vl_var rfl | apply vl_I0 | apply vl_I | apply vl_int1 | apply vl_abs | apply vl_min2 | apply vl_max2 | apply vl_neg | apply vl_chainI
    | apply vl_lenL | apply vl_ixL | apply vl_ixT | apply vl_isN | apply vl_notN | apply vl_eq | apply vl_ne
    | apply an_test | apply an_B | apply an_not
    | exact (show (0 : Int) < _ by decide) | exact (show (0 : Int) < _ ∧ _ < (1073741824 : Int) from ⟨by decide, by decide⟩)))
/-- an int in [0, m) for draws, k, m -/
def spAt (K : PySem.W.Frag) : Sp := fun vs H Q _ => ∃ (a : Addr) (ds : List Int) (k m : Int), vs = [.ref a, .int k, .int m] ∧ SqL K H a (ds.map V.int) ∧ 0 ≤ k ∧ 0 < m ∧ ∀ r, 0 ≤ r ∧ r < m → Q (.int r) H
def spIsI : Sp := fun vs H Q _ => ∃ i : Int, vs = [.int i] ∧ Q (.bl true) H
section
variable {P : Program} {w : World} {K : PySem.W.Frag} {mg : Str → Option Value} {base : Heap}
theorem ok_isI {f : Addr} {fd : FuncData} {k : Nat} (F : Fun K "_law_is_integer" "_law_is_integer" sIsI f fd) (ms : mg "isinstance" = none) (mi : mg "int" = none) (mb : mg "bool" = none) :
    FnOk P w K mg base CX0 (k + 1) f fd ["actual"] spIsI := by
  refine F.ok scIsI (fun vs H Q E h => ?_) (fun cdv A outer s H vs Q E hr h => ?_)
  · obtain ⟨i, rfl, _⟩ := h
    rfl
  · obtain ⟨i, rfl, q⟩ := h
    refine ⟨_, pss_one (ps_ret (pe_and (pe_callB call_isi (by rfl) ms (by decide +kernel) (pa_cons (pv 0) (pa_cons (pe_bltn (v := .ty "int") (by rfl) mi (by decide +kernel) rfl) pa_nil)))
      (pe_one (pe_not (pe_callB call_isi (by rfl) ms (by decide +kernel) (pa_cons (pv 0) (pa_cons (pe_bltn (v := .ty "bool") (by rfl) mb (by decide +kernel) rfl) pa_nil))))))), ?_⟩
    refine ⟨.int i, rfl, .int i, .ty "int", .type "int", .type "int", true, rfl, .ty _, .base (.int _), kit_ty (by decide +kernel), true, rfl, iteT ?_⟩
    exact ⟨.int i, rfl, .int i, .ty "bool", .type "int", .type "bool", false, rfl, .ty _, .base (.int _), kit_ty (by decide +kernel), false, rfl, q⟩
theorem ok_at {f : Addr} {fd : FuncData} {k : Nat} (F : Fun K "_law_at" "_law_at" sAt f fd) (ml : mg "len" = none) (mi : mg "int" = none) :
    FnOk P w K mg base CX0 (k + 1) f fd ["draws", "k", "many"] (spAt K) := by
  refine F.ok scAt (fun vs H Q E h => ?_) (fun cdv A outer s H vs Q E hr h => ?_)
  · obtain ⟨a, ds, k, m, rfl, _⟩ := h
    rfl
  · obtain ⟨a, ds, k, m, rfl, hS, hk, hm, q⟩ := h
    refine ⟨_, pss_cons (ps_if (pt_cmpR op_lt (pv 1) (pe_callB call_len_seq (by rfl) ml PySem.boot_len (pa_cons (pv 0) pa_nil)) (nomark _))
        (pss_one (ps_ret (pe_op op_mod (pe_callTy call_int1 (by rfl) mi (by decide +kernel) (pa_cons (pe_ix ix_list (pv 0) (pv 1) (fun _ _ => rfl)) pa_nil)) (pv 2)))) pss_nil)
      (pss_one (ps_ret pe_int)), ?_⟩
    refine q_when (b := decide (k < (ds.length : Int))) (by exact an_test (vl_I0 (vl_var rfl) ((vl_lenL (vl_var rfl) hS).is (by rw [List.length_map])))) (fun hb => ?_) (fun _ => ?_)
    · have hb := of_decide_eq_true hb
      obtain ⟨d, g', _⟩ := at_int hk hb
      refine g_ret (v := .int (d % m)) ?_ (q _ ⟨Int.emod_nonneg _ (by omega), Int.emod_lt_of_pos _ hm⟩)
      exact vl_I (vl_int1 (vl_ixL (vl_var rfl) (vl_var rfl) hS g')) (vl_var rfl) hm
    · exact g_ret vl_c (q 0 ⟨by omega, by omega⟩)
end
def PriceOk (o : Option Int) : Prop := ∀ x, o = some x → 1 ≤ x ∧ x ≤ 1000000
structure LnkOk (n : Int) (l : Lnk) : Prop where
  a0 : 0 ≤ l.a
  ab : l.a < l.b
  bn : l.b < n
  t : PriceOk l.t
  k : PriceOk l.k
def LnkLt (x y : Lnk) : Prop := x.a < y.a ∨ (x.a = y.a ∧ x.b < y.b)
structure NetOk (N : Net) : Prop where
  n1 : 1 ≤ N.n
  n40 : N.n ≤ 40
  ok : ∀ l ∈ N.ls, LnkOk N.n l
  lt : N.ls.Pairwise LnkLt
  len : N.ls.length ≤ 1600
/-- a net that stands in H by itself -/
def NetAt (K : PySem.W.Frag) (H : Hp) (v : V) (N : Net) : Prop := ∃ p q xs, v = .ref p ∧ H p = some (.tup [.int N.n, .ref q]) ∧ H q = some (.lst xs) ∧ DpAll K H xs (N.ls.map lnkD)
theorem NetAt.dp {K : PySem.W.Frag} {H : Hp} {v : V} {N : Net} (h : NetAt K H v N) : Dp K H v (netD N) := by
  obtain ⟨p, q, xs, rfl, hp, hq, hx⟩ := h
  exact Dp.net (.of hp) (.of hq) hx
theorem NetAt.to {K : PySem.W.Frag} {H H' : Hp} {v : V} {N : Net} (h : NetAt K H v N) (s : Same H H') : NetAt K H' v N := by
  obtain ⟨p, q, xs, rfl, hp, hq, hx⟩ := h
  exact ⟨p, q, xs, rfl, s _ _ hp, s _ _ hq, DpAll.to hx s⟩
def spPrice (K : PySem.W.Frag) : Sp := fun vs H Q _ => ∃ (a : Addr) (ds : List Int) (k : Int), vs = [.ref a, .int k] ∧ SqL K H a (ds.map V.int) ∧ 0 ≤ k ∧ ∀ H' o, Same H H' → PriceOk o → Q (oV o) H'
def spNet (K : PySem.W.Frag) : Sp := fun vs H Q _ => ∃ (a : Addr) (ds : List Int) (k m : Int), vs = [.ref a, .int k, .int m] ∧ SqL K H a (ds.map V.int) ∧ 0 ≤ k ∧ 1 ≤ m ∧ m ≤ 40 ∧
  ∀ H' v N, Same H H' → NetAt K H' v N → NetOk N → N.n ≤ m → Q v H'
section
variable {P : Program} {w : World} {K : PySem.W.Frag} {mg : Str → Option Value} {base : Heap}
end
/-- the links made so far: all of them before (i, c) -/
structure LsAt (n i c : Int) (ls : List Lnk) : Prop where
  ok : ∀ l ∈ ls, LnkOk n l
  to : ∀ l ∈ ls, l.a < i ∨ (l.a = i ∧ l.b < c)
  lt : ls.Pairwise LnkLt
theorem LsAt.nil {n i c : Int} : LsAt n i c [] := ⟨fun _ h => (nomatch h), fun _ h => (nomatch h), .nil⟩
theorem LsAt.mono {n i c i' c' : Int} {ls : List Lnk} (h : LsAt n i c ls) (e : i < i' ∨ (i = i' ∧ c ≤ c')) : LsAt n i' c' ls :=
  ⟨h.ok, fun l hl => by
    have := h.to l hl
    omega, h.lt⟩
theorem LsAt.app {n i c : Int} {ls : List Lnk} {t k : Option Int} (h : LsAt n i c ls) (h0 : 0 ≤ i) (h1 : i < c) (h2 : c < n) (ht : PriceOk t) (hk : PriceOk k) : LsAt n i (c + 1) (ls ++ [⟨i, c, t, k⟩]) where
  ok := fun l hl => by
    rcases List.mem_append.mp hl with h' | h'
    · exact h.ok l h'
    · rw [List.mem_singleton.mp h']
      exact ⟨h0, h1, h2, ht, hk⟩
  to := fun l hl => by
    rcases List.mem_append.mp hl with h' | h'
    · have := h.to l h'
      omega
    · rw [List.mem_singleton.mp h']
      exact .inr ⟨rfl, Int.lt_succ c⟩
  lt := List.pairwise_append.mpr ⟨h.lt, List.pairwise_singleton _ _, fun x hx y hy => by
    rw [List.mem_singleton.mp hy]
    exact h.to x hx⟩
section
variable {P : Program} {w : World} {K : PySem.W.Frag} {mg : Str → Option Value} {base : Heap}
end
/-! ### data that is the same is equal -/
theorem lay_o : ∀ o : Option Int, (oD o).canLay0 = true ∧ (oD o).depth = 0
  | none => ⟨rfl, rfl⟩
  | some _ => ⟨rfl, rfl⟩
theorem lay_lnks : ∀ ls : List Lnk, PyData.canLayAll0 (ls.map lnkD) = true ∧ PyData.depthAll (ls.map lnkD) ≤ 1
  | [] => ⟨rfl, Nat.zero_le _⟩
  | l :: ls => by
    have h1 := lay_o l.t
    have h2 := lay_o l.k
    have ih := lay_lnks ls
    constructor
    · show (((true && (true && ((oD l.t).canLay0 && ((oD l.k).canLay0 && true)))) && PyData.canLayAll0 (ls.map lnkD)) = true)
      rw [h1.1, h2.1, ih.1]
      rfl
    · show max (max 0 (max 0 (max (oD l.t).depth (max (oD l.k).depth 0))) + 1) (PyData.depthAll (ls.map lnkD)) ≤ 1
      rw [h1.2, h2.2]
      have := ih.2
      simp only [Nat.max_self, Nat.zero_add]
      omega
theorem shaped_net (N : Net) : SeqAt.shaped (netD N) = true := by
  have h := lay_lnks N.ls
  show ((true && (PyData.canLayAll0 (N.ls.map lnkD) && true)) && decide (max 0 (max (PyData.depthAll (N.ls.map lnkD) + 1) 0) + 1 ≤ 64)) = true
  rw [h.1, decide_eq_true (show max 0 (max (PyData.depthAll (N.ls.map lnkD) + 1) 0) + 1 ≤ 64 by
    have := h.2
    omega)]
  rfl
theorem eqv_net (N : Net) : PyData.eqv (netD N) (netD N) = true := SeqAt.eqv_refl _ (Bool.and_eq_true_iff.mp (shaped_net N)).1
/-! ### new lists -/
def Vn (te : TE) (σ : L2.St) (H : Hp) (xs : List V) : Prop := ∀ Q : VK, (∀ p H', Same H H' → H p = none → H' p = some (.lst xs) → Q (.ref p) H') → te σ H Q
section
variable {K : PySem.W.Frag} {σ : L2.St} {H : Hp} {ta tb te : TE} {tr : TA} {xs ys : List V} {a : Addr} {D : Ends} {tw : TS}
theorem vn_lst (h : Va tr σ H xs) (hz : xs.length ≤ sizeLine) : Vn (tLst tr) σ H xs := fun Q q => h _ ⟨hz, fun p np => q p _ (same_upd np) np upd_same⟩
theorem vn_slice {tl th : TO} {lo hi : Option Int} (h : Vl te σ H (.ref a)) (hl : ∀ Q : Option Int → Hp → Prop, Q lo H → tl σ H Q) (hh : ∀ Q : Option Int → Hp → Prop, Q hi H → th σ H Q) (hx : SqL K H a xs) : Vn (tSl (rSlL K) te tl th) σ H (cutV xs lo hi) := fun Q q =>
  h _ (hl _ (hh _ ⟨a, xs, rfl, hx, fun p np => q p _ (same_upd np) np upd_same⟩))
theorem vn_rev (h : Vl te σ H (.ref a)) (hx : SqL K H a xs) : Vn (tRevL K te) σ H xs.reverse := fun Q q => h _ ⟨a, xs, rfl, hx, fun p np => q p _ (same_upd np) np upd_same⟩
theorem vn_cat (ha : Vn ta σ H xs) (hb : ∀ H', Same H H' → Vn tb σ H' ys) (hz : xs.length + ys.length ≤ sizeLine) : Vn (tOp rCat ta tb) σ H (xs ++ ys) := fun Q q => ha _ fun p H1 s1 np hp => hb H1 s1 _ fun r H2 s2 nr hr =>
  ⟨p, r, xs, ys, rfl, rfl, s2 _ _ hp, hr, hz, fun t nt => q t _ ((s1.trans s2).trans (same_upd nt)) (Same.free (s1.trans s2) nt) upd_same⟩
theorem vn_listOf (h : Vl te σ H (.ref a)) (hx : SqL K H a xs) : Vn (tCB (fun xs H Q => ∃ p ys, xs = [V.ref p] ∧ (SqL K H p ys ∨ SqT K H p ys) ∧ ∀ l, H l = none → Q (V.ref l) (upd H l (.lst ys))) (tCons te tNil)) σ H xs := fun Q q =>
  h _ ⟨a, xs, rfl, .inl hx, fun p np => q p _ (same_upd np) np upd_same⟩
theorem q_asgN {i : Nat} (h : Vn te σ H xs) (k : ∀ p H', Same H H' → H p = none → H' p = some (.lst xs) → tw D (σ.set i (some (.ref p))) H') : tSeq (tAsg te (gName i)) tw D σ H := h _ k
end
theorem cut_to {xs : List V} {n : Nat} (h : n ≤ xs.length) : cutV xs none (some (n : Int)) = xs.take n := by
  unfold cutV
  rw [HT.sIx_none, HT.sIx_nat, Nat.min_eq_left h, Nat.sub_zero, List.drop_zero]
theorem cut_from {xs : List V} {n : Nat} (h : n ≤ xs.length) : cutV xs (some (n : Int)) none = xs.drop n := by
  unfold cutV
  rw [HT.sIx_none, HT.sIx_nat, Nat.min_eq_left h]
  exact List.take_of_length_le (by rw [List.length_drop]; exact Nat.le_refl _)
/-- lists of lists of ints -/
theorem Dp.ints {K : PySem.W.Frag} {H : Hp} {p : Addr} {ns : List Int} (h : SqL K H p (ns.map V.int)) : Dp K H (.ref p) (.list (ns.map PyData.int)) := .lst h (DpAll.ints ns)
theorem Dp.ints_inv {K : PySem.W.Frag} {H : Hp} {v : V} {ns : List Int} (h : Dp K H v (.list (ns.map PyData.int))) : ∃ p, v = .ref p ∧ SqL K H p (ns.map V.int) := by
  obtain ⟨a, xs, rfl, hs, ha⟩ := Dp.lst_inv h
  rw [DpAll.ints_inv ha] at hs
  exact ⟨a, rfl, hs⟩
end Ovc
namespace PySem
namespace LowX
open PySem.W PySem.Calls PyProof.Rows PySem.HandSPX
/-! ### the text of __init__ -/
def iA (p1 p2 : Pos) : Arguments := { posonlyargs := [], args := [{ arg := "self", annotation := none, pos := p1 }, { arg := "at", annotation := none, pos := p2 }], vararg := none, kwonlyargs := [], kw_defaults := [], kwarg := none, defaults := [] }
def iB (q1 q2 q3 q4 : Pos) : List Stmt := [.Assign [.Attribute (.Name "self" q1) "at" q2] (.Name "at" q3) q4]
def iS : Scope := { kind := .function, names := [(PySem.Str.ofString "self", .local), (PySem.Str.ofString "at", .local)], isGenerator := false, isCoroutine := false, more := [] }
/-- what the written part says of Low, at C, and of its __init__, at fI -/
structure LowTxt (K : Frag) (mg : Str → Option Value) (xN : Str) (C fI : Addr) : Prop where
  gC : mg xN = some (.ref C)
  cls : ∃ nm q N bs bm sn sub ab col dd k0 k1 k2 k3 k5, K.lookup C = some (excClassObj nm q C N bs bm true sn sub ab col dd k0 k1 k2 k3 k5 "ValueError.__new__") ∧ refsVE bm = true
  sa : findIn K (.ref C) "__setattr__" = some (some (.builtin "object.__setattr__"))
  ga : findIn K (.ref C) "__getattribute__" = some (some (.builtin "BaseException.__getattribute__"))
  gg : findIn K (.ref C) "__getattr__" = some none
  noN : findIn K (.ref C) "at" = some none
  iC : findIn K (.ref C) "__init__" = some (some (.ref fI))
  tC : typeIn K (.ref fI) = some (.type "function")
  kC : keepIn K (.ref C) = true
  exC : subIn K (.ref C) (.type "BaseException") = some true
  tyC : typeIn K (.ref C) = some (.type "type")
  hdC : hasDictIn K C = true
  te : exmOne K (.ref C) (.ref C) = some true
  fn : ∃ (oc : Value) (od : Option Addr) (doc pm : Value) (an : Option Addr) (cdv ct : Value) (osl : Array (Option Value)) (p1 p2 q1 q2 q3 q4 : Pos),
    K.lookup fI = some ⟨oc, od, .func (fnOf "__init__" "OverpassesError.__init__" (iA p1 p2) (iB q1 q2 q3 q4) iS .none .none doc pm an cdv ct), osl⟩ ∧ codeIn K cdv "OverpassesError.__init__" = true
theorem one_size (v : Value) : [v].length ≤ sizeLine := by
  rw [sizeLine_eq]
  exact (by decide : 1 ≤ 16777216)
theorem kept_but {K : Frag} {h h' : Heap} {x : Addr} (X : K.In h) (hx : K.lookup x = none) (k : ∀ b o, b ≠ x → h.get? b = some o → h'.get? b = some o) : K.In h' := fun a o e =>
  k a o (fun z => by rw [z, hx] at e; cases e) (X a o e)
theorem ldC {M : Model} {s : Shared} {name : Str} {scope : Scope} {L a : Addr} {cd : Value} {m : Str → Option Value} {x : Str} {pos : Pos} {v : Value} {Q : Value → Shared → Prop} {A : Around} {E : Value → Shared → Prop} (hn : s.heap.Ns L m) (hv : m x = some v) (h : Q v s)
    (hk : scope.kind = .function := by rfl) (hl : (envOfC name scope L a cd).kindOf x = some .local := by rfl) (hd : (x == ("__debug__" : Str)) = false := by decide) :
    wpAny M A (eval (.Name x pos) (envOfC name scope L a cd)) Q E s := wpAny_Name (wpAny_loadName_local hk hl hn hv h) hd
/-- what __init__ leaves of a fresh exception at x -/
structure InitEnd (h h' : Heap) (x C dx t1 : Addr) (v : Value) : Prop where
  keep : ∀ b o, b ≠ x → h.get? b = some o → h'.get? b = some o
  obj : h'.get? x = some { cls := .ref C, dict := some dx, data := .fields #[.ref t1, .none, .none, .none, .bool false, .none] }
  dbig : h.objs.size ≤ dx
  dne : dx ≠ x
  ns : h'.Ns1 dx (fun y => if y = "at" then some v else none)
/-- a made Low -/
structure OwnMade (h h' : Heap) (e C d : Addr) (v : Value) : Prop where
  keep : ∀ b o, h.get? b = some o → h'.get? b = some o
  new : h.objs.size ≤ e
  obj : ∃ oe vs, h'.get? e = some oe ∧ oe.cls = .ref C ∧ oe.dict = some d ∧ oe.data = .fields vs ∧ vs[1]? = some .none
  dbig : h.objs.size ≤ d
  dne : d ≠ e
  ns : h'.Ns1 d (fun y => if y = "at" then some v else none)
section
variable {prog : Program} {w : World} {A : Around} {E : Value → Shared → Prop} {R : Result → Shared → Prop} {s : Shared} {K : Frag} {mg : Str → Option Value} {xN : Str} {C fI : Addr}
theorem low_init (T : LowTxt K mg xN C fI) {x t0 : Addr} {v : Value} (X : K.In s.heap) (hlim : s.heap.NoLimit) (hx : s.heap.get? x = some (excO C t0)) (hnx : K.lookup x = none) (hroom : A.depth < recursionLimit)
    (hq : ∀ h' tk dx, InitEnd s.heap h' x C dx t0 v → R (.ok (.ret .none)) { s with heap := h', toks := tk }) :
    codeAny (model prog w) A (.call (.ref fI) ⟨[.ref x, v], []⟩) R s := by
  obtain ⟨oc, od, doc, pm, an, cdv, ct, osl, p1, p2, q1, q2, q3, q4, ho, hcd⟩ := T.fn
  obtain ⟨nm, q, N, bs, bm, sn, sub, ab, col, dd, k0, k1, k2, k3, k5, hC, hbm⟩ := T.cls
  have hcl : clsIn K C = some { name := nm, bases := bs, mro := .ref C :: bm, ns := N, qualname := q, hasDict := true, slotNames := sn, subclasses := sub, abstract := ab, collection := col, hasDel := false } := by unfold clsIn; rw [hC] <;> rfl
  refine Att.call_fn (binds := [("self", .ref x), ("at", v)]) X hlim ho hcd hroom (BindsTo.of_eq (by first | rfl | with_unfolding_all rfl)) (by first | rfl | decide | with_unfolding_all rfl) (fun s₁ IC => ?_) rfl rfl rfl
  obtain ⟨h₁, tk₁, rfl⟩ := IC.toInCall.same
  have k : ∀ b o, s.heap.get? b = some o → h₁.get? b = some o := IC.toInCall.keep
  have hn := IC.toInCall.ns
  have hxL : s.heap.objs.size ≠ x := Nat.ne_of_gt (Heap.lt_size hx)
  have X₁ : K.In h₁ := X.keeps k
  have hx₁ := k _ _ hx
  -- self.by = by
  show wpAny _ _ (execs _ _) _ _ _
  refine wpAny_execs_cons (plainObj_wpAny_Assign_Attribute ?_)
  refine ldC (v := v) hn (by first | rfl | with_unfolding_all rfl | kernel_rfl) (ldC (v := .ref x) hn (by first | rfl | with_unfolding_all rfl | kernel_rfl) ?_)
  refine set_plain X₁ (ox := excO C t0) (od := none) ⟨hx₁, rfl, rfl, trivial⟩ T.sa ?_
  refine exc_osa X₁ hx₁ hcl (show refsVE (.ref C :: bm) = true from hbm) rfl T.noN (fun h₃ tk₃ dx k₃ dn dne hx₃ hn₃ => ?_)
  show wpAny _ _ (execs _ _) _ _ _
  have z : s.heap.objs.size < h₁.objs.size := hn.lt
  exact wpAny_execs_nil (hq h₃ tk₃ dx ⟨fun b o hb e => k₃ b o hb (k b o e), hx₃, Nat.le_of_lt (Nat.lt_of_lt_of_le z dn), dne, hn₃⟩)
theorem low_made (T : LowTxt K mg xN C fI) {v : Value} (X : K.In s.heap) (hlim : s.heap.NoLimit) (hroom : A.depth + 1 < recursionLimit)
    (hq : ∀ h' tk e d, OwnMade s.heap h' e C d v → R (.ok (.ret (.ref e))) { s with heap := h', toks := tk }) :
    codeAny (model prog w) A (.call (.ref C) ⟨[v], []⟩) R s := by
  obtain ⟨nm, q, N, bs, bm, sn, sub, ab, col, dd, k0, k1, k2, k3, k5, hC, hbm⟩ := T.cls
  obtain ⟨hp, g, dr, tk, os⟩ := s
  have k : ∀ b o, hp.get? b = some o → ((hp.push (kdv_tup [v])).push (excO C hp.objs.size)).get? b = some o := fun b o e => Heap.get?_push_of_some _ (Heap.get?_push_of_some _ e)
  have hget : ((hp.push (kdv_tup [v])).push (excO C hp.objs.size)).get? (hp.objs.size + 1) = some (excO C hp.objs.size) := by heap_get
  have hnx : K.lookup (hp.objs.size + 1) = none := by
    cases e : K.lookup (hp.objs.size + 1) with
    | none => rfl
    | some o =>
      have z : hp.get? (hp.objs.size + 1) = some o := X _ _ e
      exact absurd (Nat.lt_of_succ_lt (Heap.lt_size z)) (Nat.lt_irrefl _)
  refine call_own F.excBase_ValueError (fun X => refsVE_contains X bm hbm) (X _ _ hC) (looks_findIn X T.iC) (fun self => bind_fn X self T.tC) (one_size v) ?_
  refine low_init (s := ⟨(hp.push (kdv_tup [v])).push (excO C hp.objs.size), g, dr, tk, os⟩) T (X.keeps k) (hlim.keeps k) hget hnx ?_ fun h' tk' dx ⟨k', hx, dn, dne, hns⟩ => ?_
  · show A.depth + 1 < recursionLimit
    exact hroom
  · have old : ∀ b o, hp.get? b = some o → h'.get? b = some o := fun b o e => k' b o (Nat.ne_of_lt (Nat.lt_succ_of_lt (Heap.lt_size e))) (k b o e)
    have z : hp.objs.size + 1 + 1 ≤ dx := by
      first
        | (simpa only [Heap.size_push] using dn)
        | exact dn
        | (have q := dn; rw [Heap.size_push, Heap.size_push] at q; exact q)
    exact ⟨rfl, hq h' tk' (hp.objs.size + 1) dx ⟨old, Nat.le_succ _, ⟨_, _, hx, rfl, rfl, rfl, rfl⟩, Nat.le_trans (Nat.le_trans (Nat.le_succ _) (Nat.le_succ _)) z, dne, hns⟩⟩
end
end LowX
end PySem
namespace L2
open PySem PySem.Spec PyProof.Rows
theorem relO_low {v : V} {v' : Value} (r : RelV v v') (f : Str) : RelO (List.lookup f [(("at" : Str), v)]) (if f = "at" then some v' else none) := by
  by_cases hw : f = "at"
  · subst hw
    rw [if_pos rfl]
    have q : List.lookup ("at" : Str) [(("at" : Str), v)] = some v := by simp [List.lookup]
    rw [q]
    exact r
  · rw [if_neg hw]
    have qw : (f == ("at" : Str)) = false := by simpa using hw
    have q2 : List.lookup f [(("at" : Str), v)] = none := by simp [List.lookup, qw]
    rw [q2]
    trivial
section
variable {X : Cx} {xN : Str} {C fI : Addr}
/-- Low(e) -/
def tMkLow (C : Addr) (ta : TA) : St → Hp → XK → Prop := fun σ H Q => ta σ H fun vs H1 => ∃ v, vs = [v] ∧ ∀ d, H1 d = none → Q (.ref C) (some d) (upd H1 d (.xd [(("at" : Str), v)]))
theorem pmk_low {a : Expr} {ta : TA} {p pos : Pos} {k : Nat} (T : PySem.LowX.LowTxt X.K X.mg xN C fI) (hr : Room k X.A) (ha : PA X [a] ta) (hg : Gl X xN := by rfl) (hdb : (xN == ("__debug__" : Str)) = false := by decide)
    (he : starEach (a :: []) X.env = (false, eval a X.env) :: starEach [] X.env := by rfl) (hpl : (backTo pos (starEach [] X.env)).any (·.1) = false := by rfl) :
    PMk X (.Call (.Name xN p) [a] [] pos) (tMkLow C ta) := by
  intro pins s σ H Q I h
  refine wpAny_Call_Name_kw (ld_glob I hg T.gC ?_ hdb)
  refine PySem.W.callWith_K (h₀ := X.base) I.ok.mod.kin T.kC (thn (ha.run pos pins s σ H _ I h) fun us s1 hh => ?_) he hpl
  obtain ⟨vs, H1, I1, r1, v, ev, q1⟩ := hh
  subst ev
  refine ⟨I1.kIn, ?_⟩
  cases r1 with
  | cons rv rn =>
    rename_i v' us'
    cases rn
    show wpAny _ _ (call (.ref C) [v']) _ _ _
    have hlim := I1.nolimit
    obtain ⟨hp, g, dr, tk, os⟩ := s1
    refine wpAny_call (PySem.LowX.low_made T I1.kIn hlim (by have := hr.dp; omega) fun h' tk' e d M => ?_)
    show MkP X pins σ Q (.ref e) ⟨h', g, dr, tk', os⟩
    obtain ⟨oe, fv, hoe, hc, hd, hdat, h1⟩ := M.obj
    have hns := M.ns
    obtain ⟨G', g1, g2⟩ := restrict h' fun b => decide (b ≠ e)
    have gk : ∀ b, b ≠ e → G'.get? b = h'.get? b := fun b hb => g1 b (decide_eq_true hb)
    have ge : G'.get? e = none := g2 e (by simp)
    have old : ∀ b o, hp.get? b = some o → G'.get? b = some o := fun b o q => (gk b (Nat.ne_of_lt (Nat.lt_of_lt_of_le (Heap.lt_size q) M.new))).trans (M.keep b o q)
    have ob : ObjOk X.prog X.w (upd H1 d (.xd [(("at" : Str), v)])) G' d (.xd [(("at" : Str), v)]) :=
      ⟨_, hns.at (fun o q => (gk d M.dne).trans q), fun f => relO_low rv f⟩
    have J : Inv X pins σ (upd H1 d (.xd [(("at" : Str), v)])) ⟨G', g, dr, tk', os⟩ := I1.laid (t' := tk') old M.dbig ob
    refine ⟨e, oe, fv, ⟨G', g, dr, tk', os⟩, _, .ref C, some d, rfl, J, fun b o q => ?_, ge, hoe, ⟨hc, hd⟩, hdat, h1, ?_, rfl, I1.bare, raises_own T.exC T.tyC, q1 d (I1.hok.fresh M.dbig)⟩
    · by_cases hb : b = e
      · have q' : G'.get? b = some o := q
        rw [hb, ge] at q'; cases q'
      · exact (gk b hb).symm.trans q
    · rw [upd_ne (Ne.symm M.dne)]
      exact I1.hok.fresh M.new
/-- raise Low(e) -/
def tRaiseLow (C : Addr) (W : WX) (ta : TA) : TS := fun _ σ H => tMkLow C ta σ H fun cls d H' => W cls d σ H'
theorem ps_raiseLow {a : Expr} {ta : TA} {W : WX} {p pos pos2 : Pos} {k : Nat} (hc : X.calm = true) (T : PySem.LowX.LowTxt X.K X.mg xN C fI) (hr : Room k X.A) (tk : Takes X W) (ha : PA X [a] ta) (hg : Gl X xN := by rfl) (hdb : (xN == ("__debug__" : Str)) = false := by decide)
    (he : starEach (a :: []) X.env = (false, eval a X.env) :: starEach [] X.env := by rfl) (hpl : (backTo pos (starEach [] X.env)).any (·.1) = false := by rfl) :
    PS X (.Raise (some (.Call (.Name xN p) [a] [] pos)) none pos2) (tRaiseLow C W ta) := ps_raise hc tk (pmk_low T hr ha hg hdb he hpl)
/-- low.by, low the exception that the suite holds (at a; its class cls, its dict d) -/
def tByLow (C : Addr) (a : Addr) (cls : Value) (d : Option Addr) (te : TE) : TE := fun σ H Q => te σ H fun x H1 => x = .ref a ∧ cls = .ref C ∧ ∃ (dd : Addr) (v : V), d = some dd ∧ H1 dd = some (.xd [(("at" : Str), v)]) ∧ Q v H1
theorem pe_byLow {a : Addr} {oe : Obj} {cls : Value} {d : Option Addr} {pn : List (Addr × Obj)} {e : Expr} {te : TE} {pos : Pos} (T : PySem.LowX.LowTxt X.K X.mg xN C fI) (hz : Zc cls d oe) (hf : ∃ vs, oe.data = .fields vs) (he : PE (X.suite a ((a, oe) :: pn)) e te)
    (hb : attributeBase e "at" X.env (eval e X.env) = eval e X.env := by rfl) :
    PE (X.suite a ((a, oe) :: pn)) (.Attribute e "at" pos) (tByLow C a cls d te) := by
  refine ⟨fun pins s σ H Q I h => ?_⟩
  refine attr_of hb (thn (he.run pins s σ H _ I h) fun u s1 hh => ?_)
  obtain ⟨x, H1, I1, rx, ex, ec, dd, v, ed, ea, q⟩ := hh
  subst ex
  obtain rfl : u = Value.ref a := rx
  subst ec
  subst ed
  obtain ⟨ha, _⟩ := I1.pin (a, oe) (List.mem_append_left _ List.mem_cons_self)
  obtain ⟨vs, hd⟩ := hf
  have hx : ObjOk X.prog X.w H1 s1.heap dd (.xd [(("at" : Str), v)]) := I1.hok dd _ ea
  obtain ⟨mA, hns, hr⟩ := hx
  obtain ⟨od, ho, hl⟩ := lookIn_ns hns
  have l : List.lookup ("at" : Str) [(("at" : Str), v)] = some v := by simp [List.lookup]
  obtain ⟨u, hu, ru⟩ := RelO.some_of (v := v) (o := mA "at") (by rw [← l]; exact hr "at")
  have J : PySem.W.InstAt s1.heap a oe C (some od) := ⟨ha, hz.1, by unfold PySem.W.notCls; rw [hd] <;> rfl, by rw [hz.2]; exact ho⟩
  exact HandSPX.exc_get I1.kIn J T.ga T.gg T.exC (PySem.W.findObj_own T.hdC T.noN rfl (by rw [hl, hu])) (handed_of ru) ⟨v, H1, I1.tok _, ru, q⟩
end
end L2

namespace L2
open PySem PySem.Spec PyProof.Rows
/-- an if whose test is known -/
theorem if_true_of {c : Bool} {A B : Prop} (hc : c = true) (h : A) : if c = true then A else B := by
  rw [if_pos hc]
  exact h
theorem if_false_of {c : Bool} {A B : Prop} (hc : c = false) (h : B) : if c = true then A else B := by
  rw [hc, if_neg Bool.false_ne_true]
  exact h
end L2
namespace Ovc
open PySem PySem.Spec PyProof.Rows L2
/-! ### try with several clauses, each with a name or without one -/
/-- the ends of a suite whose name's slot is emptied behind it -/
def endsAs (i : Nat) (D : Ends) : Ends := { nx := fun σ H => D.nx (σ.set i none) H, rt := D.rt, bk := fun σ H => D.bk (σ.set i none) H, ct := fun σ H => D.ct (σ.set i none) H }
abbrev Clause := Value × Option Nat × (Addr → Value → Option Addr → TS)
def runClause (q : Clause) (a : Addr) (cls : Value) (d : Option Addr) (D : Ends) (σ : L2.St) (H : Hp) : Prop :=
  match q.2.1 with
  | none => q.2.2 a cls d D σ H
  | some i => q.2.2 a cls d (endsAs i D) (σ.set i (some (.ref a))) H
def wClauses (K : PySem.W.Frag) (Wout : WX) (D : Ends) : List Clause → WX
  | [] => Wout
  | q :: r => fun cls d σ H => ∃ b, PySem.W.exmOne K cls q.1 = some b ∧ (b = true → ∀ a, H a = none → runClause q a cls d D σ H) ∧ (b = false → wClauses K Wout D r cls d σ H)
inductive ClOk (X : Cx) : List ExceptHandler → List Clause → Prop
  | nil : ClOk X [] []
  | bare {x : Str} {c : Value} {ts : Addr → Value → Option Addr → TS} {st₀ : Stmt} {sts : List Stmt} {p1 p2 : Pos} {hds : List ExceptHandler} {l : List Clause} (hc : Names X x c)
      (suite : ∀ (a : Addr) (ob : Obj) (cls : Value) (d : Option Addr) (pn : List (Addr × Obj)), Zc cls d ob → (∃ fv, ob.data = .fields fv) → PSs (X.suite a ((a, ob) :: pn)) (st₀ :: sts) (ts a cls d)) (more : ClOk X hds l) :
      ClOk X (.ExceptHandler (some (.Name x p1)) none (st₀ :: sts) p2 :: hds) ((c, none, ts) :: l)
  | named {x n : Str} {c : Value} {i : Nat} {ts : Addr → Value → Option Addr → TS} {st₀ : Stmt} {sts : List Stmt} {p1 p2 : Pos} {hds : List ExceptHandler} {l : List Clause} (hN : X.N.Nodup) (hi : X.N[i]? = some n) (hln : X.env.kindOf n = some .local) (hc : Names X x c)
      (suite : ∀ (a : Addr) (ob : Obj) (cls : Value) (d : Option Addr) (pn : List (Addr × Obj)), Zc cls d ob → (∃ fv, ob.data = .fields fv) → PSs (X.suite a ((a, ob) :: pn)) (st₀ :: sts) (ts a cls d)) (more : ClOk X hds l) :
      ClOk X (.ExceptHandler (some (.Name x p1)) (some n) (st₀ :: sts) p2 :: hds) ((c, some i, ts) :: l)
section
variable {X : Cx} {body : List Stmt} {hd₀ : ExceptHandler} {hds : List ExceptHandler} {l : List Clause} {pos : Pos} {tb : WX → TS} {Wout : WX}
theorem ps_try_cl (hsk : X.stack = X.env :: X.outer) (hfm : X.env.frame = some X.env.locals) (tk : Takes X Wout)
    (hb : ∀ (W : WX) (pn : List (Addr × Obj)) (xe : Value → Shared → Prop), Takes (X.tr pn xe) W → PassesOwn (model X.prog X.w) X.A X.env xe → PSs (X.tr pn xe) body (tb W))
    (hcl : ClOk X (hd₀ :: hds) l) : PS X (.Try body (hd₀ :: hds) [] [] pos) (fun D σ H => tb (wClauses X.K Wout D l) D σ H) := by
  refine ⟨fun pins s σ H D I0 hr => ?_⟩
  have okX := I0.ok
  have frA : X.A.frames = some (X.env :: X.outer) := by rw [okX.frames, hsk]
  refine wpAny_Try_except (wpAny_mono ((hb (wClauses X.K Wout D l) (X.pn ++ pins) (fun e t₁ => wpAny (model X.prog X.w) X.A (noteFrame e X.env) (fun _ t₂ => wpAny (model X.prog X.w) X.A (setFlight e none) (fun _ t₃ =>
    wpAny (model X.prog X.w) X.A (handleBy e X.env (hd₀ :: hds)) (SP X pins D) X.xe t₃) X.xe t₂) X.xe t₁) (fun u t xx => ?caught) PassesOwn.looking).run [] s σ H D (I0.toTry _) hr) (fun fl t hsp => ?after) (fun e t he => he))
  case after =>
    cases fl with
    | next => exact let ⟨σ1, H1, I1, z⟩ := hsp; wpAny_execs_nil ⟨σ1, H1, I1.ofTry okX, z⟩
    | brk => exact let ⟨σ1, H1, I1, z⟩ := hsp; ⟨σ1, H1, I1.ofTry okX, z⟩
    | cont => exact let ⟨σ1, H1, I1, z⟩ := hsp; ⟨σ1, H1, I1.ofTry okX, z⟩
    | ret u => exact let ⟨v, σ1, H1, I1, r, z⟩ := hsp; ⟨v, σ1, H1, I1.ofTry okX, r, z⟩
  case caught =>
    obtain ⟨a, B, sI, pins1, σ1, H1, cls, d, rfl, I1', nb, up, sky, na, os, ag, wish⟩ := xx
    have I1 : Inv X pins σ1 H1 sI := I1'.ofTry okX
    have skyF : Sky B (X.env :: X.outer) a (Zc cls d) X.env.locals t.heap := by rw [← hsk]; exact sky
    refine Sky.land Zc.steady frA hfm skyF fun h3 fl3 up3 => ?_
    have I3 : Inv X pins σ1 H1 { t with heap := h3 } := I1.landed nb fl3.1 (up.trans up3) os ag
    obtain ⟨ob3, fv3, at3, z3, dat3⟩ := fl3.there
    have off : a ∉ frs (X.env :: X.outer) := fun hm => by
      obtain ⟨_, o', e', hnf⟩ := fl3.2.2.1.mem hm
      rw [at3] at e'
      cases e'
      exact hnf _ dat3
    have offL : a ≠ X.env.locals := fun z => off (List.mem_filterMap.mpr ⟨X.env, List.mem_cons_self, by rw [hfm, z]⟩)
    have offF : a ∉ X.fs := fun hm => let ⟨en, hen, z⟩ := List.mem_filterMap.mp hm; off (List.mem_filterMap.mpr ⟨en, List.mem_cons_of_mem _ hen, z⟩)
    have SU3 := I3.suite at3 dat3 na offL offF
    have test : ∀ {x : Str} {c : Value} {p1 : Pos} {Q : Value → Shared → Prop} {E : Value → Shared → Prop}, Names X x c → Q c { t with heap := h3 } →
        wpAny (model X.prog X.w) (X.A.mark (some (.ref a))) (eval (.Name x p1) X.env) Q E { t with heap := h3 } := fun {x c p1 Q E} hc z => by
      obtain ⟨hg, hdb, hm | ⟨hm, hv, hne⟩⟩ := hc
      · exact ld_glob (X := X.suite a ((a, ob3) :: (X.pn ++ pins))) SU3 hg hm z hdb
      · exact ld_blt (X := X.suite a ((a, ob3) :: (X.pn ++ pins))) SU3 hg hm hv z hne hdb
    have looks : PySem.W.Looks (model X.prog X.w) h3 (typeOf (.ref a)) cls := fun A Q E s1 keep z => wpAny_typeOf_ref (keep _ _ at3) (by rw [z3.1]; exact z)
    suffices go : ∀ {hs1 : List ExceptHandler} {l1 : List Clause}, ClOk X hs1 l1 → wClauses X.K Wout D l1 cls d σ1 H1 → wpAny (model X.prog X.w) X.A (handleBy (.ref a) X.env hs1) (SP X pins D) X.xe { t with heap := h3 } from go hcl wish
    intro hs1 l1 hk
    induction hk with
    | nil =>
      intro wo
      refine wpAny_handleBy_nil ?_
      obtain ⟨k1, k2, k3, ob, fv, T, oT, tv, heT, hzT, hdT, hT1, hTr⟩ := id fl3
      unfold PySem.passOn
      refine wpAny_bind (wpAny_field heT hdT hT1 ?_)
      rw [if_neg (show ¬ (Value.ref T == Value.none) = true from by simp)]
      have fin : wpAny (model X.prog X.w) X.A (setFlight (.ref a) X.env.frame) (fun _ t4 => wpAny (model X.prog X.w) X.A (throw (.ref a) : Sem Flow) (SP X pins D) X.xe t4) X.xe { t with heap := h3 } := by
        rw [hfm]
        exact HandSPX.setFlight_upZ fl3 fun h4 held4 up4 => wpAny_throw (tk _ _ ⟨a, B, sI, pins, σ1, H1, cls, d, rfl, I1, nb, (up.trans up3).trans up4, .inr (.inr (by rw [hsk]; exact held4)), na, os, ag, wo⟩)
      first | exact wpAny_bind (wpAny_pure (wpAny_bind fin)) | exact wpAny_bind fin
    | @bare x c ts st₀ sts p1 p2 hs2 l2 hc suite more ih =>
      rintro ⟨b, hb1, yes, no⟩
      refine wpAny_handleBy_cons (codeAny_handlers_test (test hc ((PySem.W.exm_one (M := model X.prog X.w) I3.kIn looks hb1).here ?_))) (by intro q; cases q)
      cases b with
      | false => exact ih (no rfl)
      | true =>
        refine codeAny_handlers_suite (HandSPX.lands_againZ fl3 fun h4 fl4 up4 => ?_)
        have I4 : Inv X pins σ1 H1 { t with heap := h4 } := I1.landed nb fl4.1 ((up.trans up3).trans up4) os ag
        obtain ⟨ob4, fv4, at4, z4, dat4⟩ := fl4.there
        refine wpAny_mono ((suite a ob4 cls d (X.pn ++ pins) z4 ⟨_, dat4⟩).run [] _ _ H1 _ (I4.suite at4 dat4 na offL offF) (yes rfl a na)) (fun f t6 hsp => ?_) (fun _ _ z => False.elim z)
        cases f with
        | next => exact let ⟨σ6, H6, S6, z6⟩ := hsp; ⟨_, _, S6.unsuite okX, z6⟩
        | brk => exact let ⟨σ6, H6, S6, z6⟩ := hsp; ⟨_, _, S6.unsuite okX, z6⟩
        | cont => exact let ⟨σ6, H6, S6, z6⟩ := hsp; ⟨_, _, S6.unsuite okX, z6⟩
        | ret u => exact let ⟨v6, σ6, H6, S6, r6, z6⟩ := hsp; ⟨_, _, _, S6.unsuite okX, r6, z6⟩
    | @named x n c i ts st₀ sts p1 p2 hs2 l2 hN hi hln hc suite more ih =>
      rintro ⟨b, hb1, yes, no⟩
      refine wpAny_handleBy_cons (codeAny_handlers_test (test hc ((PySem.W.exm_one (M := model X.prog X.w) I3.kIn looks hb1).here ?_))) (by intro q; cases q)
      cases b with
      | false => exact ih (no rfl)
      | true =>
        refine codeAny_handlers_suite_as (HandSPX.lands_againZ fl3 fun h4 fl4 up4 => ?_)
        have I4 : Inv X pins σ1 H1 { t with heap := h4 } := I1.landed nb fl4.1 ((up.trans up3).trans up4) os ag
        obtain ⟨ob4, fv4, at4, z4, dat4⟩ := fl4.there
        refine store_ok (X := X.suite a ((a, ob4) :: (X.pn ++ pins))) (v := .ref a) (I4.suite at4 dat4 na offL offF) hN hi (.inl hln) rfl (fun t5 S5 => ?_) (.inr hln)
        refine wpAny_mono ((suite a ob4 cls d (X.pn ++ pins) z4 ⟨_, dat4⟩).run [] t5 _ H1 _ S5 (yes rfl a na)) (fun f t6 hsp => ?_) (fun _ _ z => False.elim z)
        have off6 : ∀ {σ6 : L2.St} {H6 : Hp} {Q : Shared → Prop}, Inv (X.suite a ((a, ob4) :: (X.pn ++ pins))) [] σ6 H6 t6 → (∀ t7, Inv X pins (σ6.set i none) H6 t7 → Q t7) →
            wpAny (model X.prog X.w) X.A (do bindName X.env n .none; unbindBehindTheSuite X.env n p2) (fun _ t7 => Q t7) X.xe t6 := fun {σ6 H6 Q} S6 hq => gone_ok (S6.unsuite okX) hN hi hln hq
        cases f with
        | next => exact let ⟨σ6, H6, S6, z6⟩ := hsp; off6 S6 fun t7 I7 => ⟨_, _, I7, z6⟩
        | brk => exact let ⟨σ6, H6, S6, z6⟩ := hsp; off6 S6 fun t7 I7 => ⟨_, _, I7, z6⟩
        | cont => exact let ⟨σ6, H6, S6, z6⟩ := hsp; off6 S6 fun t7 I7 => ⟨_, _, I7, z6⟩
        | ret u => exact let ⟨v6, σ6, H6, S6, r6, z6⟩ := hsp; off6 S6 fun t7 I7 => ⟨_, _, _, I7, r6, z6⟩
end
/-! ### a < b < c < d as a test -/
def tTest3 (r1 r2 r3 : R2) (ta tb tc td : TE) : TT := fun σ H Q => ta σ H fun x H1 => tb σ H1 fun y H2 => r1 x y H2 fun z H3 => ∃ k, z = .bl k ∧
  (if k = true then tc σ H3 fun u H4 => r2 y u H4 fun z2 H5 => ∃ k2, z2 = .bl k2 ∧ (if k2 = true then td σ H5 fun v H6 => r3 u v H6 fun z3 H7 => ∃ k3, z3 = .bl k3 ∧ Q k3 H7 else Q false H5) else Q false H3)
theorem pt_chain3 {X : Cx} {a b c d : Expr} {ta tb tc td : TE} {o1 o2 o3 : CmpOp} {r1 r2 r3 : R2} {pos : Pos} (h1 : OpR X (compareOp o1) r1) (h2 : OpR X (compareOp o2) r2) (h3 : OpR X (compareOp o3) r3) (ha : PE X a ta) (hb : PE X b tb) (hc : PE X c tc) (hd : PE X d td)
    (hm : lastMarks [o1, o2, o3] [b, c, d] = false := by with_unfolding_all rfl) : PT X (.Compare a [o1, o2, o3] [b, c, d] pos) (tTest3 r1 r2 r3 ta tb tc td) := by
  refine ⟨fun pins s σ H Q I0 hr => isTrue_chain (thn (ha.run pins s σ H _ I0 hr) fun v1 s1 ⟨x, H1, I1, e1, q1⟩ => test_link (thn (hb.run pins s1 σ H1 _ I1 q1) fun v2 s2 ⟨y, H2, I2, e2, q2⟩ =>
    thn (h1 pins s2 σ H2 x y v1 v2 _ I2 e1 e2 q2) fun v3 s3 ⟨z, H3, I3, e3, k, ez, q3⟩ => ?_)) hm⟩
  subst ez
  cases e3
  refine wpAny_truthy_bool ?_
  cases k with
  | false => exact ite_ff ⟨H3, I3, q3⟩
  | true =>
    refine ite_tt (test_link (thn (hc.run pins s3 σ H3 _ I3 q3) fun v4 s4 ⟨u, H4, I4, e4, q4⟩ => thn (h2 pins s4 σ H4 y u v2 v4 _ I4 e2 e4 q4) fun v5 s5 ⟨z2, H5, I5, e5, k2, ez2, q5⟩ => ?_))
    subst ez2
    cases e5
    refine wpAny_truthy_bool ?_
    cases k2 with
    | false => exact ite_ff ⟨H5, I5, q5⟩
    | true =>
      refine ite_tt (test_last (thn (hd.run pins s5 σ H5 _ I5 q5) fun v6 s6 ⟨v, H6, I6, e6, q6⟩ => thn (h3 pins s6 σ H6 u v v4 v6 _ I6 e4 e6 q6) fun v7 s7 ⟨z3, H7, I7, e7, k3, ez3, q7⟩ => ?_))
      subst ez3
      cases e7
      exact wpAny_truthy_bool ⟨H7, I7, q7⟩
theorem an_chain3 {σ : L2.St} {H : Hp} {g1 g2 g3 : Int → Int → Bool} {ta tb tc td : TE} {p q r s : Int} (ha : Vl ta σ H (.int p)) (hb : Vl tb σ H (.int q)) (hc : Vl tc σ H (.int r)) (hd : Vl td σ H (.int s)) :
    An (tTest3 (rI0 fun i j => .bl (g1 i j)) (rI0 fun i j => .bl (g2 i j)) (rI0 fun i j => .bl (g3 i j)) ta tb tc td) σ H (g1 p q && (g2 q r && g3 r s)) := fun Q k =>
  ha _ (hb _ ⟨p, q, rfl, rfl, _, rfl, by
    show if g1 p q = true then _ else _
    revert k
    cases g1 p q with
    | false => exact fun k => iteF k
    | true => exact fun k => iteT (hc _ ⟨q, r, rfl, rfl, _, rfl, by
        show if g2 q r = true then _ else _
        revert k
        cases g2 q r with
        | false => exact fun k => iteF k
        | true => exact fun k => iteT (hd _ ⟨r, s, rfl, rfl, _, rfl, k⟩)⟩)⟩)
/-! ### tests that make objects on their way -/
def Ax (t : TT) (σ : L2.St) (H : Hp) (b : Bool) : Prop := ∀ Q : Bool → Hp → Prop, (∀ H', Same H H' → Q b H') → t σ H Q
section
variable {K : PySem.W.Frag} {σ : L2.St} {H : Hp} {t u : TT} {D : Ends} {tz tu tw : TS} {ta tb tc : TE}
theorem ax_of {b : Bool} (h : An t σ H b) : Ax t σ H b := fun Q q => h Q (q H (Same.refl H))
theorem ax_not {b : Bool} (h : Ax t σ H b) : Ax (tNot t) σ H (!b) := fun Q q => h _ fun H' s => q H' s
theorem ax_and {k m : Bool} (h1 : Ax t σ H k) (h2 : k = true → ∀ H', Same H H' → Ax u σ H' m) : Ax (tAnd t u) σ H (k && m) := fun Q q => h1 _ fun H1 s1 => by
  cases k with
  | true => exact iteT (h2 rfl H1 s1 _ fun H2 s2 => q H2 (s1.trans s2))
  | false => exact iteF (q H1 s1)
theorem ax_or {k m : Bool} (h1 : Ax t σ H k) (h2 : k = false → ∀ H', Same H H' → Ax u σ H' m) : Ax (tOr t u) σ H (k || m) := fun Q q => h1 _ fun H1 s1 => by
  cases k with
  | true => exact iteT (q H1 s1)
  | false => exact iteF (h2 rfl H1 s1 _ fun H2 s2 => q H2 (s1.trans s2))
theorem Ax.is {k m : Bool} (h : Ax t σ H k) (e : k = m) : Ax t σ H m := e ▸ h
theorem g_ifx {b : Bool} (h : Ax t σ H b) (h1 : b = true → ∀ H', Same H H' → tz D σ H') (h2 : b = false → ∀ H', Same H H' → tu D σ H') : tIfS t tz tu D σ H := h _ fun H' s => by
  cases b with
  | true => exact iteT (h1 rfl H' s)
  | false => exact iteF (h2 rfl H' s)
theorem q_ifx {b : Bool} (h : Ax t σ H b) (h1 : b = true → ∀ H', Same H H' → tz { D with nx := tw D } σ H') (h2 : b = false → ∀ H', Same H H' → tu { D with nx := tw D } σ H') : tSeq (tIfS t tz tu) tw D σ H := g_ifx (D := { D with nx := tw D }) h h1 h2
theorem q_whenx {b : Bool} (h : Ax t σ H b) (h1 : b = true → ∀ H', Same H H' → tz { D with nx := tw D } σ H') (h2 : b = false → ∀ H', Same H H' → tw D σ H') : tSeq (tIfS t tz tNext) tw D σ H := g_ifx (D := { D with nx := tw D }) h h1 h2
theorem g_whenx {b : Bool} (h : Ax t σ H b) (h1 : b = true → ∀ H', Same H H' → tz D σ H') (h2 : b = false → ∀ H', Same H H' → D.nx σ H') : tIfS t tz tNext D σ H := g_ifx h h1 h2
theorem lexAt2 {a b c d : Int} : Ob.lexAt (fun j => decide ([a, b].getD j 0 = [c, d].getD j 0)) (fun j => decide ([a, b].getD j 0 ≤ [c, d].getD j 0)) (decide ([a, b].length ≤ [c, d].length)) 0 (min [a, b].length [c, d].length) = decide (a < c ∨ (a = c ∧ b ≤ d)) := by
  show (if decide (a = c) = true then (if decide (b = d) = true then decide (2 ≤ 2) else decide (b ≤ d)) else decide (a ≤ c)) = _
  by_cases h1 : a = c
  · rw [if_pos (decide_eq_true h1)]
    by_cases h2 : b = d
    · rw [if_pos (decide_eq_true h2), decide_eq_true (Nat.le_refl 2), decide_eq_true (.inr ⟨h1, by omega⟩)]
    · rw [if_neg (fun h => h2 (of_decide_eq_true h)), Bool.eq_iff_iff]
      simp only [decide_eq_true_eq]
      omega
  · rw [if_neg (fun h => h1 (of_decide_eq_true h)), Bool.eq_iff_iff]
    simp only [decide_eq_true_eq]
    omega
/-- (a, b) <= t, t a tuple of two ints -/
theorem ax_leT {a b c d : Int} {T : Addr} (ha : Vl ta σ H (.int a)) (hb : Vl tb σ H (.int b)) (hc : ∀ H', Same H H' → Vl tc σ H' (.ref T)) (hT : SqT K H T [.int c, .int d]) : Ax (tTest (tOp (rLeT K) (tTup (tCons ta (tCons tb tNil))) tc)) σ H (decide (a < c ∨ (a = c ∧ b ≤ d))) := fun Q q =>
  ha _ (hb _ ⟨by show 2 ≤ sizeLine; decide, fun S nS => hc _ (same_upd nS) _ ⟨S, T, [a, b], [c, d], rfl, rfl, .of upd_same, seqT (same_upd nS) hT, _, rfl, by
    rw [lexAt2]
    exact q _ (same_upd nS)⟩⟩)
/-- (a, b) == (c, d), the tuples made on the way -/
theorem ax_eqTT {td : TE} {p q r s : Int} (ha : ∀ H', Same H H' → Vl ta σ H' (.int p)) (hb : ∀ H', Same H H' → Vl tb σ H' (.int q)) (hc : ∀ H', Same H H' → Vl tc σ H' (.int r)) (hd : ∀ H', Same H H' → Vl td σ H' (.int s)) :
    Ax (tTest (tOp (rEqD K) (tTup (tCons ta (tCons tb tNil))) (tTup (tCons tc (tCons td tNil))))) σ H (decide (p = r ∧ q = s)) := fun Q k =>
  ha H (Same.refl H) _ (hb H (Same.refl H) _ ⟨by show 2 ≤ sizeLine; decide, fun T nT => by
    have s1 : Same H (upd H T (.tup [.int p, .int q])) := same_upd nT
    refine hc _ s1 _ (hd _ s1 _ ⟨by show 2 ≤ sizeLine; decide, fun S nS => ?_⟩)
    have s2 : Same (upd H T (.tup [.int p, .int q])) (upd (upd H T (.tup [.int p, .int q])) S (.tup [.int r, .int s])) := same_upd nS
    refine ⟨.tuple [.int p, .int q], .tuple [.int r, .int s], .tup (.of (s2 _ _ upd_same)) (.cons (.int _) (.cons (.int _) .nil)), .tup (.of upd_same) (.cons (.int _) (.cons (.int _) .nil)), by rfl, by rfl, _, rfl, ?_⟩
    rw [show PyData.eqv (.tuple [.int p, .int q]) (.tuple [.int r, .int s]) = decide (p = r ∧ q = s) by
      show (p == r && (q == s && true)) = _
      rw [Bool.and_true, Bool.eq_iff_iff]
      simp]
    exact k _ (s1.trans s2)⟩)
/-- t == (c, d), t a tuple of two ints -/
theorem ax_eqRT {p q r s : Int} {T : Addr} (ha : Vl ta σ H (.ref T)) (hT : SqT K H T [.int p, .int q]) (hb : Vl tb σ H (.int r)) (hc : Vl tc σ H (.int s)) :
    Ax (tTest (tOp (rEqD K) ta (tTup (tCons tb (tCons tc tNil))))) σ H (decide (p = r ∧ q = s)) := fun Q k =>
  ha _ (hb _ (hc _ ⟨by show 2 ≤ sizeLine; decide, fun S nS => by
    have s2 : Same H (upd H S (.tup [.int r, .int s])) := same_upd nS
    refine ⟨.tuple [.int p, .int q], .tuple [.int r, .int s], .tup (seqT s2 hT) (.cons (.int _) (.cons (.int _) .nil)), .tup (.of upd_same) (.cons (.int _) (.cons (.int _) .nil)), by rfl, by rfl, _, rfl, ?_⟩
    rw [show PyData.eqv (.tuple [.int p, .int q]) (.tuple [.int r, .int s]) = decide (p = r ∧ q = s) by
      show (p == r && (q == s && true)) = _
      rw [Bool.and_true, Bool.eq_iff_iff]
      simp]
    exact k _ s2⟩))
/-- (a, b) == t, t a tuple of two ints -/
theorem ax_eqTR {p q r s : Int} {T : Addr} (ha : Vl ta σ H (.int p)) (hb : Vl tb σ H (.int q)) (hc : ∀ H', Same H H' → Vl tc σ H' (.ref T)) (hT : SqT K H T [.int r, .int s]) :
    Ax (tTest (tOp (rEqD K) (tTup (tCons ta (tCons tb tNil))) tc)) σ H (decide (p = r ∧ q = s)) := fun Q k =>
  ha _ (hb _ ⟨by show 2 ≤ sizeLine; decide, fun S nS => by
    have s2 : Same H (upd H S (.tup [.int p, .int q])) := same_upd nS
    refine hc _ s2 _ ⟨.tuple [.int p, .int q], .tuple [.int r, .int s], .tup (.of upd_same) (.cons (.int _) (.cons (.int _) .nil)), .tup (seqT s2 hT) (.cons (.int _) (.cons (.int _) .nil)), by rfl, by rfl, _, rfl, ?_⟩
    rw [show PyData.eqv (.tuple [.int p, .int q]) (.tuple [.int r, .int s]) = decide (p = r ∧ q = s) by
      show (p == r && (q == s && true)) = _
      rw [Bool.and_true, Bool.eq_iff_iff]
      simp]
    exact k _ s2⟩)
/-- assignments of a new tuple -/
theorem q_asgTup {i : Nat} {tr : TA} {xs : List V} (h : Va tr σ H xs) (hz : xs.length ≤ sizeLine) (k : ∀ T, H T = none → tw D (σ.set i (some (.ref T))) (upd H T (.tup xs))) : tSeq (tAsg (tTup tr) (gName i)) tw D σ H := h _ ⟨hz, k⟩
theorem g_asgTup {i : Nat} {tr : TA} {xs : List V} (h : Va tr σ H xs) (hz : xs.length ≤ sizeLine) (k : ∀ T, H T = none → D.nx (σ.set i (some (.ref T))) (upd H T (.tup xs))) : tAsg (tTup tr) (gName i) D σ H := h _ ⟨hz, k⟩
end
/-! ### defs that may raise, by their names -/
structure KalX (P : Program) (w : World) (K : PySem.W.Frag) (mg : Str → Option Value) (base : Heap) (k : Nat) (x : Str) (ps : List Str) (sp : Sp) : Prop where
  ex : ∃ (f : Addr) (fd : FuncData), FnOk P w K mg base (L2.CX P w) k f fd ps sp ∧ mg x = some (.ref f) ∧ PySem.W.keepIn K (.ref f) = true ∧ Binds K fd ps []
theorem kalx_of {P : Program} {w : World} {K : PySem.W.Frag} {mg : Str → Option Value} {base : Heap} {k : Nat} {x : Str} {st : Stmt} {ps : List Str} {sp : Sp} (A : Df K mg x st ps)
    (ok : ∀ f fd, Fun K x x st f fd → FnOk P w K mg base (L2.CX P w) k f fd ps sp) : KalX P w K mg base k x ps sp := by
  obtain ⟨f, fd, F, g, b⟩ := A.ex
  exact ⟨f, fd, ok f fd F, g, F.kp, b⟩
/-- called in a def that may raise -/
theorem pe_kx {X : Cx} {k j : Nat} {x : Str} {ps : List Str} {sp : Sp} {p pos : Pos} {e : Expr} {es : List Expr} {t : TA} {E : XK} (c : KalX X.prog X.w X.K X.mg X.base k x ps sp) (hr : Room j X.A) (hk : k ≤ j) (hg : Gl X x) (tk : Takes X (fun cls d _ H => E cls d H)) (ha : PA X (e :: es) t)
    (hdb : (x == ("__debug__" : Str)) = false := by decide) (he : starEach (e :: es) X.env = (false, eval e X.env) :: starEach es X.env := by rfl) (hpl : (backTo pos (starEach es X.env)).any (·.1) = false := by rfl) :
    PE X (.Call (.Name x p) (e :: es) [] pos) (tCall sp [] E t) := by
  obtain ⟨f, fd, F, hm, kp, b⟩ := c.ex
  exact pe_call F (hr.mono hk) hg hm kp b .nil (passes_call tk fun _ _ _ _ h => h) ha hdb he hpl
/-- called within a try -/
theorem pe_ks {X : Cx} {k j : Nat} {x : Str} {ps : List Str} {sp : Sp} {p pos : Pos} {e : Expr} {es : List Expr} {t : TA} {W : WX} (c : KalX X.prog X.w X.K X.mg X.base k x ps sp) (hr : Room j X.A) (hk : k ≤ j) (hg : Gl X x) (tk : Takes X W) (ha : PA X (e :: es) t)
    (hdb : (x == ("__debug__" : Str)) = false := by decide) (he : starEach (e :: es) X.env = (false, eval e X.env) :: starEach es X.env := by rfl) (hpl : (backTo pos (starEach es X.env)).any (·.1) = false := by rfl) :
    PE X (.Call (.Name x p) (e :: es) [] pos) (tCallS sp (WE W) t) := by
  obtain ⟨f, fd, F, hm, kp, b⟩ := c.ex
  exact pe_callS F (hr.mono hk) hg hm kp b (fun σ => passAt tk σ) ha hdb he hpl
/-! ### for link in links -/
section
variable {K : PySem.W.Frag} {σ : L2.St} {H : Hp} {a : Addr} {D : Ends} {tz tw : TS}
theorem g_forLk {j : Nat} {Hb : Hp} {xs : List V} {ls : List Lnk} {tl : TE} (h : Vl tl σ H (.ref a)) (hx : SqL K Hb a xs) (hL : DpAll K Hb xs (ls.map lnkD)) (hb : Same Hb H) (Pv : Nat → L2.St → Hp → Prop) (h0 : Pv 0 σ H) (hl : ∀ i σ' H', Pv i σ' H' → Same Hb H')
    (hs : ∀ (i : Nat) l t σ H, ls[i]? = some l → SqT K Hb t (lnkV l) → Pv i σ H → tz { D with nx := Pv (i + 1), ct := Pv (i + 1), bk := D.nx } (σ.set j (some (.ref t))) H) (hd : ∀ σ H, Pv ls.length σ H → D.nx σ H) :
    tFor (iList K tl) (gName j) tz D σ H := h _ ⟨a, rfl, ⟨_, hb.seq hx⟩, for_list (xs := xs) Pv h0 (fun i σ H _ p => (hl i σ H p).seq hx) (fun i x σ H hi p => by
      have e := DpAll.len hL
      rw [List.length_map] at e
      have hlt := (List.getElem?_eq_some_iff.mp hi).1
      have hg : ls[i]? = some ls[i] := List.getElem?_eq_getElem (by omega)
      obtain ⟨v, hv, dv⟩ := DpAll.get (i := i) (d := lnkD ls[i]) hL (by
        rw [List.getElem?_map, hg]
        rfl)
      cases hi.symm.trans hv
      obtain ⟨t, rfl, ht⟩ := Dp.lnk_inv dv
      exact hs i _ t σ H hg ht p) (fun σ H p => by
      have e := DpAll.len hL
      rw [List.length_map] at e
      rw [e] at p
      exact hd σ H p)⟩
theorem q_forLk {j : Nat} {Hb : Hp} {xs : List V} {ls : List Lnk} {tl : TE} (h : Vl tl σ H (.ref a)) (hx : SqL K Hb a xs) (hL : DpAll K Hb xs (ls.map lnkD)) (hb : Same Hb H) (Pv : Nat → L2.St → Hp → Prop) (h0 : Pv 0 σ H) (hl : ∀ i σ' H', Pv i σ' H' → Same Hb H')
    (hs : ∀ (i : Nat) l t σ H, ls[i]? = some l → SqT K Hb t (lnkV l) → Pv i σ H → tz { D with nx := Pv (i + 1), ct := Pv (i + 1), bk := tw D } (σ.set j (some (.ref t))) H) (hd : ∀ σ H, Pv ls.length σ H → tw D σ H) :
    tSeq (tFor (iList K tl) (gName j) tz) tw D σ H := g_forLk (D := { D with nx := tw D }) h hx hL hb Pv h0 hl hs hd
/-- a, b, c, d = e, a link -/
theorem q_asgLnk {j1 j2 j3 j4 : Nat} {te : TE} {t : Addr} {l : Lnk} (h : Vl te σ H (.ref t)) (ht : SqT K H t (lnkV l)) (k : tw D ((((σ.set j1 (some (.int l.a))).set j2 (some (.int l.b))).set j3 (some (oV l.t))).set j4 (some (oV l.k))) H) :
    tSeq (tAsg te (gTup K 4 (gCons (gName j1) (gCons (gName j2) (gCons (gName j3) (gCons (gName j4) gNil)))))) tw D σ H := h _ ⟨t, _, rfl, ht, rfl, _, _, rfl, _, _, rfl, _, _, rfl, _, _, rfl, rfl, k⟩
/-- a tuple made in one of two ways -/
theorem if_tup {t : TT} {r1 r2 : TA} {b : Bool} {x1 x2 zs : List V} {Q : VK} (h : An t σ H b) (h1 : Va r1 σ H x1) (h2 : Va r2 σ H x2) (e1 : b = true → x1 = zs) (e2 : b = false → x2 = zs) (hz : zs.length ≤ sizeLine)
    (k : ∀ T, H T = none → Q (.ref T) (upd H T (.tup zs))) : tIf t (tTup r1) (tTup r2) σ H Q := h _ (by
  cases b with
  | true =>
    cases e1 rfl
    exact iteT (h1 _ ⟨hz, k⟩)
  | false =>
    cases e2 rfl
    exact iteF (h2 _ ⟨hz, k⟩))
end
/-! ### errors that leave a def -/
def RaiseTo (E : XK) (H : Hp) (C : Addr) (i : Int) : Prop := ∀ H' d, Same H H' → H' d = some (.xd [("at", .int i)]) → E (.ref C) (some d) H'
theorem RaiseTo.to {E : XK} {H H' : Hp} {C : Addr} {i : Int} (h : RaiseTo E H C i) (s : Same H H') : RaiseTo E H' C i := fun H2 d s2 hd => h H2 d (s.trans s2) hd
theorem raise_now {E : XK} {C : Addr} {i : Int} {ta : TA} {σ : L2.St} {H : Hp} {D : Ends} (h : Va ta σ H [.int i]) (r : RaiseTo E H C i) : tRaiseLow C (fun cls d _ H => E cls d H) ta D σ H := h _ ⟨_, rfl, fun d nd => r _ d (same_upd nd) upd_same⟩
/-- for i, x in enumerate(xs) -/
theorem for_en {K : PySem.W.Frag} {a : Addr} {xs : List V} {g : TG} {tb : TS} {D : Ends} {σ : L2.St} {H : Hp} (Pv : Nat → L2.St → Hp → Prop) (h0 : Pv 0 σ H) (hq : ∀ i σ H, Pv i σ H → SqL K H a xs)
    (hs : ∀ (i : Nat) x T σ H, xs[i]? = some x → Pv i σ H → H T = none → g (.ref T) σ (upd H T (.tup [.int (i : Nat), x])) fun σ2 H2 => tb { D with nx := Pv (i + 1), ct := Pv (i + 1), bk := D.nx } σ2 H2) (hd : ∀ σ H, Pv xs.length σ H → D.nx σ H) :
    ∃ W : Nat → Nat → L2.St → Hp → Prop, (∃ m, W 0 m σ H) ∧ ∀ i m σ H, W i m σ H → ((Ite K a).stop i H ∧ D.nx σ H) ∨
      ((Ite K a).go i H ∧ ∃ N : L2.St → Hp → Prop, (∀ σ' H', N σ' H' → ∃ m', m' < m ∧ W (i + 1) m' σ' H') ∧ ∀ v H', (Ite K a).yld i H v H' → g v σ H' fun σ2 H2 => tb { D with nx := N, ct := N, bk := D.nx } σ2 H2) := by
  refine ⟨fun i m σ H => m + i = xs.length ∧ Pv i σ H, ⟨xs.length, rfl, h0⟩, fun i m σ H hW => ?_⟩
  obtain ⟨em, p⟩ := hW
  have qx := hq i σ H p
  by_cases hlt : i < xs.length
  · refine .inr ⟨⟨xs, xs[i], qx, List.getElem?_eq_getElem hlt⟩, Pv (i + 1), fun σ' H' p' => ⟨m - 1, by omega, by omega, p'⟩, fun v H' yy => ?_⟩
    obtain ⟨T, x', rfl, hT, rfl, f1⟩ := yy
    exact hs i x' T σ H (f1 xs qx) p hT
  · have e : i = xs.length := by omega
    rw [e] at p
    exact .inl ⟨⟨xs, qx, by omega⟩, hd σ H p⟩
theorem take_snoc {α : Type} {xs : List α} {i : Nat} {x : α} (h : xs[i]? = some x) : xs.take (i + 1) = xs.take i ++ [x] := by
  rw [List.take_add_one, h]
  rfl
theorem vl_orV {K : PySem.W.Frag} {σ : L2.St} {H : Hp} {ta tb : TE} {k m : Bool} (h1 : Vl ta σ H (.bl k)) (h2 : k = false → Vl tb σ H (.bl m)) : Vl (tOrV ta tb) σ H (.bl (k || m)) := fun Q q => h1 _ ⟨k, rfl, by
  cases k with
  | true => exact iteT q
  | false => exact iteF (h2 rfl _ q)⟩
/-! ### values with a heap that grows on the way -/
def Ve (te : TE) (σ : L2.St) (H : Hp) (v : V) : Prop := ∀ Q : VK, (∀ H', Same H H' → Q v H') → te σ H Q
section
variable {K : PySem.W.Frag} {σ : L2.St} {H : Hp} {ta tb te tl t0 t1 t2 t3 : TE} {D : Ends} {tw : TS} {v x y z : V} {tt : TT}
theorem ve_of (h : Vl te σ H v) : Ve te σ H v := fun Q q => h Q (q H (Same.refl H))
theorem Ve.is {w : V} (h : Ve te σ H v) (e : v = w) : Ve te σ H w := e ▸ h
theorem q_asgV {i : Nat} (h : Ve te σ H v) (k : ∀ H', Same H H' → tw D (σ.set i (some v)) H') : tSeq (tAsg te (gName i)) tw D σ H := h _ k
theorem g_asgV {i : Nat} (h : Ve te σ H v) (k : ∀ H', Same H H' → D.nx (σ.set i (some v)) H') : tAsg te (gName i) D σ H := h _ k
theorem g_retV (h : Ve te σ H v) (k : ∀ H', Same H H' → D.rt v H') : tRet te D σ H := h _ k
theorem ve_ixNew {xs : List V} {p : Int} (ha : Vn ta σ H xs) (hb : ∀ H', Same H H' → Vl tb σ H' (.int p)) (hg : atI xs p = some z) : Ve (tOp (rIxL K) ta tb) σ H z := fun Q k =>
  ha _ fun a H1 s1 np e => hb H1 s1 _ ⟨a, xs, p, z, rfl, rfl, .of e, hg, k H1 s1⟩
theorem vn_lc {j : Nat} {xs ys : List V} (hl : ∀ Q : VK, (∀ a H1, Same H H1 → SqL K H1 a xs → Q (.ref a) H1) → tl σ H Q) (hxy : xs.length = ys.length) (hz : ys.length ≤ 1000000)
    (he : ∀ (i : Nat) x y H', Same H H' → xs[i]? = some x → ys[i]? = some y → Ve te ((σ.set j none).set j (some x)) H' y) : Vn (tLc (iList K tl) (gName j) tYes te [j]) σ H ys := fun Q q => by
  refine hl _ fun a H1 s1 hx => ⟨a, rfl, ⟨xs, hx⟩, fun D nD => lc_list (xs := xs) (fun i H' => H' D = some (.lst (ys.take i)) ∧ Same H1 H') ⟨upd_same, same_upd nD⟩ (fun i H' _ hP => hP.2.seq hx) (fun i x H2 hi hP => ?_) (fun H2 hP => ?_)⟩
  · obtain ⟨hD, s2⟩ := hP
    have hi2 := (List.getElem?_eq_some_iff.mp hi).1
    have hy : ys[i]? = some ys[i] := List.getElem?_eq_getElem (by omega)
    refine ⟨?_, ?_⟩
    · show ((σ.set j none).set j (some x)).set j none = σ.set j none
      rw [List.set_set, List.set_set]
    · refine iteT (B := H2 D = some (.lst (ys.take (i + 1))) ∧ Same H1 H2) (he i x _ H2 (s1.trans s2) hi hy _ fun H3 s3 => ⟨_, s3 _ _ hD, ?_, ?_, ?_⟩)
      · exact Nat.lt_of_le_of_lt (m := 1000000) (Nat.le_trans (by rw [List.length_take]; exact Nat.min_le_right _ _) hz) (by decide)
      · rw [upd_same, take_snoc hy]
      · exact same_upd' (s2.trans s3) nD
  · obtain ⟨hD, s2⟩ := hP
    rw [hxy, List.take_length] at hD
    exact q D H2 (s1.trans s2) (Same.free s1 nD) hD
theorem vx_list {a : Addr} {xs : List V} (h : Vl tl σ H (.ref a)) (hx : SqL K H a xs) : ∀ Q : VK, (∀ a H1, Same H H1 → SqL K H1 a xs → Q (.ref a) H1) → tl σ H Q := fun Q q => h _ (q a H (Same.refl H) hx)
theorem vx_new {xs : List V} (h : Vn tl σ H xs) : ∀ Q : VK, (∀ a H1, Same H H1 → SqL K H1 a xs → Q (.ref a) H1) → tl σ H Q := fun Q q => h _ fun a H1 s1 _ e => q a H1 s1 (.of e)
end
section
variable {K : PySem.W.Frag} {σ : L2.St} {H : Hp} {te : TE} {D : Ends} {tz tw : TS} {P : Int → Prop}
theorem q_forRI {j : Nat} (h : Vi te σ H P) (hb : ∀ n, P n → -(2 ^ 62) ≤ n ∧ n < 2 ^ 62) (Pv : Nat → L2.St → Hp → Prop) (h0 : Pv 0 σ H)
    (hs : ∀ n, P n → ∀ (i : Nat) σ H, (i : Int) < n → Pv i σ H → tz { D with nx := Pv (i + 1), ct := Pv (i + 1), bk := tw D } (σ.set j (some (.int i))) H) (hd : ∀ n, P n → ∀ σ H, Pv n.toNat σ H → tw D σ H) :
    tSeq (tFor (iRng1 (tCons te tNil)) (gName j) tz) tw D σ H := h _ fun n hn => ⟨n, rfl, (hb n hn).1, (hb n hn).2, for_range (lo := 0) (n := n.toNat) Pv h0 (fun i σ H hi p => by
      show tz _ (σ.set j (some (.int (0 + i)))) H
      rw [Int.zero_add]
      exact hs n hn i σ H (by omega) p) (hd n hn)⟩
end
section
variable {K : PySem.W.Frag} {σ : L2.St} {H : Hp} {ta tb te tl t0 t1 t2 t3 : TE} {D : Ends} {tw : TS} {v x y z : V} {tt : TT}
theorem g_appV {l : Addr} {xs : List V} (ho : Vl ta σ H (.ref l)) (hl : H l = some (.lst xs)) (h : Ve te σ H v) (hz : xs.length < sizeLine) (k : ∀ H', Same H H' → D.nx σ (upd H' l (.lst (xs ++ [v])))) :
    tDrop (tBM K "list" rAppend ta (tCons te tNil)) D σ H := ho _ ⟨.inl ⟨rfl, _, .inl (.inl hl)⟩, h _ fun H' s' => ⟨l, xs, v, rfl, rfl, s' _ _ hl, hz, k H' s'⟩⟩
theorem lc_filter {j : Nat} {xs : List V} {pb : V → Bool} (hj : j < σ.length) (hl : ∀ Q : VK, (∀ a H1, Same H H1 → SqL K H1 a xs → Q (.ref a) H1) → tl σ H Q) (hz : xs.length ≤ 1000000)
    (ht : ∀ x ∈ xs, ∀ H', An tt ((σ.set j none).set j (some x)) H' (pb x)) (Q : VK) (q : ∀ D H' acc, Same H H' → H' D = some (.lst acc) → acc.length = (xs.filter pb).length → Q (.ref D) H') : tLc (iList K tl) (gName j) tt (tVar j) [j] σ H Q := by
  refine hl _ fun a H1 s1 hx => ⟨a, rfl, ⟨xs, hx⟩, fun D nD => lc_list (xs := xs) (fun i H' => ∃ acc, H' D = some (.lst acc) ∧ Same H1 H' ∧ acc.length = ((xs.take i).filter pb).length) ⟨[], upd_same, same_upd nD, rfl⟩ (fun i H' _ hP => hP.choose_spec.2.1.seq hx) (fun i x H2 hi hP => ?_) (fun H2 hP => ?_)⟩
  · obtain ⟨acc, hD, s2, ha⟩ := hP
    have e : (xs.take (i + 1)).filter pb = (xs.take i).filter pb ++ [x].filter pb := by
      rw [take_snoc hi]
      exact List.filter_append ..
    refine ⟨?_, ht x (List.mem_of_getElem? hi) H2 _ ?_⟩
    · show ((σ.set j none).set j (some x)).set j none = σ.set j none
      rw [List.set_set, List.set_set]
    · cases hp : pb x with
      | true =>
        have e2 : [x].filter pb = [x] := by
          rw [List.filter_cons, hp]
          rfl
        refine iteT ⟨x, ?_, acc, hD, ?_, _, upd_same, same_upd' s2 nD, ?_⟩
        · exact List.getElem?_set_self (by
            show j < (σ.set j none).length
            rw [List.length_set]
            exact hj)
        · have h1 : ((xs.take i).filter pb).length ≤ xs.length := Nat.le_trans (List.length_filter_le _ _) (by rw [List.length_take]; exact Nat.min_le_right _ _)
          exact Nat.lt_of_le_of_lt (m := 1000000) (by omega) (by decide)
        · rw [e, e2, List.length_append, List.length_append, ha]
      | false =>
        have e2 : [x].filter pb = [] := by
          rw [List.filter_cons, hp]
          rfl
        refine iteF ⟨acc, hD, s2, ?_⟩
        rw [e, e2, List.append_nil]
        exact ha
  · obtain ⟨acc, hD, s2, ha⟩ := hP
    rw [List.take_length] at ha
    exact q D H2 acc (s1.trans s2) hD ha
theorem vl_inL {a : Addr} {xs : List V} (h : Vl te σ H (.ref a)) (hx : SqL K H a xs) (f1 : flatV x = true) (f2 : xs.all flatV = true) : Vl (tOp (rIn K false) (tC x) te) σ H (.bl (inV x xs)) := vl_op vl_c h fun _ k => ⟨a, xs, rfl, .inl hx, f1, f2, k⟩
theorem flat_o (o : Option Int) : flatV (oV o) = true := by cases o <;> rfl
theorem ax_leLT {a T : Addr} {p q r s : Int} (h : Vl te σ H (.ref a)) (hx : SqL K H a [.int p, .int q]) (hb : ∀ H', Same H H' → Vl tb σ H' (.ref T)) (hT : SqT K H T [.int r, .int s]) :
    Ax (tTest (tOp (rLeT K) (tCB (fun xs H Q => ∃ p ys, xs = [V.ref p] ∧ ((SqL K H p ys ∧ ∀ l, H l = none → Q (.ref l) (upd H l (.tup ys))) ∨ (SqT K H p ys ∧ Q (.ref p) H))) (tCons te tNil)) tb)) σ H (decide (p < r ∨ (p = r ∧ q ≤ s))) := fun Q k =>
  h _ ⟨a, _, rfl, .inl ⟨hx, fun S nS => hb _ (same_upd nS) _ ⟨S, T, [p, q], [r, s], rfl, rfl, .of upd_same, seqT (same_upd nS) hT, _, rfl, by
    rw [lexAt2]
    exact k _ (same_upd nS)⟩⟩⟩
theorem ve_tup4 {v0 v1 v2 v3 : V} (h0 : Ve t0 σ H v0) (h1 : ∀ H', Same H H' → Ve t1 σ H' v1) (h2 : ∀ H', Same H H' → Ve t2 σ H' v2) (h3 : ∀ H', Same H H' → Ve t3 σ H' v3) (Q : VK) (q : ∀ R H', Same H H' → H' R = some (.tup [v0, v1, v2, v3]) → Q (.ref R) H') :
    tTup (tCons t0 (tCons t1 (tCons t2 (tCons t3 tNil)))) σ H Q := h0 _ fun H1 s1 => h1 H1 s1 _ fun H2 s2 => h2 H2 (s1.trans s2) _ fun H3 s3 => h3 H3 ((s1.trans s2).trans s3) _ fun H4 s4 => ⟨by show 4 ≤ sizeLine; decide, fun R nR => q R _ ((((s1.trans s2).trans s3).trans s4).trans (same_upd nR)) upd_same⟩
end
theorem ret_pairE {te : TE} {x : Str} {D : Ends} {σ : L2.St} {H : Hp} (h : te σ H fun v H1 => [V.str x, v].length ≤ sizeLine ∧ ∀ p, H1 p = none → D.rt (.ref p) (upd H1 p (.tup [.str x, v]))) : tRet (tTup (tCons (tC (.str x)) (tCons te tNil))) D σ H := h
theorem nx_of {f : L2.St → Hp → Prop} {a b c} {σ : L2.St} {H : Hp} (h : f σ H) : (Ends.mk f a b c).nx σ H := h
theorem ax_isNV {σ : L2.St} {H : Hp} {te : TE} {v : V} (h : Ve te σ H v) : Ax (tTest (tOp (fun x y H Q => y = V.non ∧ Q (V.bl (decide (x = V.non))) H) te (tC .non))) σ H (decide (v = .non)) := fun Q k => h _ fun H' s' => ⟨rfl, _, rfl, k H' s'⟩
theorem last_get {α : Type} {l : List α} {d : α} (h : l ≠ []) : l[l.length - 1]? = some (l.getLast?.getD d) := by
  rw [List.getLast?_eq_getElem?]
  have : l.length - 1 < l.length := by
    have := List.length_pos_iff.mpr h
    omega
  rw [List.getElem?_eq_getElem this]
  rfl
theorem seqT_but {K : PySem.W.Frag} {H : Hp} {o R : Addr} {ys zs : List V} (h : SqT K H R zs) (ho : H o = some (.lst ys)) : SqT K (but H o) R zs := by
  rcases h with (h | ⟨u, h⟩) | h
  · have ne : R ≠ o := fun z => by
      rw [z, ho] at h
      cases h
    exact .inl (.inl (by rw [but_ne ne]; exact h))
  · have ne : R ≠ o := fun z => by
      rw [z, ho] at h
      cases h
    exact .inl (.inr ⟨u, by rw [but_ne ne]; exact h⟩)
  · exact .inr h
theorem vl_byLow {C a d : Addr} {te : TE} {σ : L2.St} {H : Hp} {v : V} (h : Vl te σ H (.ref a)) (hd : H d = some (.xd [("at", v)])) : Vl (tByLow C a (.ref C) (some d) te) σ H v := fun Q q => h _ ⟨rfl, rfl, d, v, rfl, hd, q⟩
def pairD (x : Str) (d : PyData) : PyData := .tuple [.str x, d]
theorem ret_pair {K : PySem.W.Frag} {σ : L2.St} {H : Hp} {D : Ends} {te : TE} {x : Str} {v : V} {d : PyData} (h : Vl te σ H v) (hd : Dp K H v d) (k : ∀ p H', Same H H' → Dp K H' (.ref p) (pairD x d) → D.rt (.ref p) H') :
    tRet (tTup (tCons (tC (.str x)) (tCons te tNil))) D σ H := h _ ⟨by show 2 ≤ sizeLine; decide, fun p np => k p _ (same_upd np) (.tup (.of upd_same) (.cons (.str x) (.cons (Dp.to hd (same_upd np)) .nil)))⟩
structure Apart (K : PySem.W.Frag) (C C' : Addr) : Prop where
  no : PySem.W.exmOne K (.ref C) (.ref C') = some false
structure NmAt (mg : Str → Option Value) (x : Str) (C : Addr) : Prop where
  gC : mg x = some (.ref C)
theorem lay_net (N : Net) : (netD N).canLay0 = true ∧ (netD N).depth ≤ 3 := by
  have h := lay_lnks N.ls
  constructor
  · show (true && (PyData.canLayAll0 (N.ls.map lnkD) && true)) = true
    rw [h.1]
    rfl
  · show max 0 (max (PyData.depthAll (N.ls.map lnkD) + 1) 0) + 1 ≤ 3
    have := h.2
    omega
theorem shaped_pair {x : Str} {d : PyData} (hx : PyData.canLay0 (.str x) = true) (h : d.canLay0 = true) (h2 : d.depth ≤ 3) : SeqAt.shaped (pairD x d) = true := by
  show ((PyData.canLay0 (.str x) && (d.canLay0 && true)) && decide (max 0 (max d.depth 0) + 1 ≤ 64)) = true
  rw [hx, h, decide_eq_true (by omega)]
  rfl
theorem refl_of {d : PyData} (h : SeqAt.shaped d = true) : PyData.eqv d d = true := SeqAt.eqv_refl _ (Bool.and_eq_true_iff.mp h).1
theorem ax_ne {K : PySem.W.Frag} {σ : L2.St} {H : Hp} {te te2 : TE} {d : PyData} (hd : SeqAt.shaped d = true) (h1 : ∀ Q : VK, (∀ v H', Same H H' → Dp K H' v d → Q v H') → te σ H Q) (h2 : ∀ H', Same H H' → ∀ Q : VK, (∀ v H2, Same H' H2 → Dp K H2 v d → Q v H2) → te2 σ H' Q) :
    Ax (tTest (tOp (rNeD K) te te2)) σ H false := fun Q k => h1 _ fun v H1 s1 d1 => h2 H1 s1 _ fun u H2 s2 d2 => ⟨d, d, Dp.to d1 s2, d2, hd, hd, _, rfl, by
  rw [refl_of hd]
  exact k H2 (s1.trans s2)⟩
theorem ax_neV {σ : L2.St} {H : Hp} {ta tb : TE} {x y : V} (ha : Vl ta σ H x) (hb : Ve tb σ H y) (hs : scal x y = true) : Ax (tTest (tOp rNe ta tb)) σ H (!decide (x = y)) := fun Q k => ha _ (hb _ fun H' s' => ⟨hs, _, rfl, k H' s'⟩)
theorem lay_ints : ∀ ns : List Int, PyData.canLayAll0 (ns.map PyData.int) = true ∧ PyData.depthAll (ns.map PyData.int) = 0
  | [] => ⟨rfl, rfl⟩
  | n :: ns => by
    have h := lay_ints ns
    constructor
    · show (true && PyData.canLayAll0 (ns.map PyData.int)) = true
      rw [h.1]
      rfl
    · show max 0 (PyData.depthAll (ns.map PyData.int)) = 0
      rw [h.2]
      rfl
theorem shaped_ints (ns : List Int) : SeqAt.shaped (.list (ns.map PyData.int)) = true := by
  have h := lay_ints ns
  show (PyData.canLayAll0 (ns.map PyData.int) && decide (PyData.depthAll (ns.map PyData.int) + 1 ≤ 64)) = true
  rw [h.1, h.2]
  rfl
/-! ### heaps with two objects that change -/
def B2 (H : Hp) (o q : Addr) : Hp := but (but H o) q
theorem b2_same {H : Hp} {o q : Addr} : Same (B2 H o q) H := but_same.trans but_same
theorem same_b2 {G H : Hp} {o q : Addr} (s : Same G H) (n : G o = none) (m : G q = none) : Same G (B2 H o q) := same_but (same_but s n) m
theorem b2_mono {H H' : Hp} {o q : Addr} (s : Same H H') : Same (B2 H o q) (B2 H' o q) := but_mono (but_mono s)
theorem b2_upd1 {H : Hp} {o q : Addr} {u : HO} : B2 (upd H o u) o q = B2 H o q := by
  unfold B2
  rw [but_upd]
theorem b2_upd2 {H : Hp} {o q : Addr} {u : HO} : B2 (upd H q u) o q = B2 H o q := by
  funext b
  unfold B2
  by_cases h : b = q
  · rw [h, but_at, but_at]
  · rw [but_ne h, but_ne h]
    by_cases h2 : b = o
    · rw [h2, but_at, but_at]
    · rw [but_ne h2, but_ne h2, upd_ne h]
theorem b2_get {H : Hp} {o q a : Addr} {u : HO} (h : H a = some u) (h1 : a ≠ o) (h2 : a ≠ q) : B2 H o q a = some u := by
  unfold B2
  rw [but_ne h2, but_ne h1]
  exact h
/-! ### comprehensions over ints -/
section
variable {K : PySem.W.Frag} {σ : L2.St} {H : Hp} {ta tb te tl td ty tv : TE} {tr : TA} {D : Ends} {tw : TS} {tt : TT} {v : V}
theorem an_yes : An tYes σ H true := fun _ q => q
theorem vn_lcI {j : Nat} {ns : List Int} {pb : Int → Bool} {f : Int → V} (hl : ∀ Q : VK, (∀ a H1, Same H H1 → SqL K H1 a (ns.map V.int) → Q (.ref a) H1) → tl σ H Q) (hz : ns.length ≤ 1000000)
    (ht : ∀ x ∈ ns, ∀ H', Same H H' → An tt ((σ.set j none).set j (some (.int x))) H' (pb x)) (he : ∀ x ∈ ns, ∀ H', Same H H' → Vl te ((σ.set j none).set j (some (.int x))) H' (f x)) :
    Vn (tLc (iList K tl) (gName j) tt te [j]) σ H ((ns.filter pb).map f) := fun Q q => by
  refine hl _ fun a H1 s1 hx => ⟨a, rfl, ⟨_, hx⟩, fun D nD => lc_list (xs := ns.map V.int) (fun i H' => H' D = some (.lst (((ns.take i).filter pb).map f)) ∧ Same H1 H') ⟨upd_same, same_upd nD⟩ (fun i H' _ hP => hP.2.seq hx) (fun i x H2 hi hP => ?_) (fun H2 hP => ?_)⟩
  · obtain ⟨hD, s2⟩ := hP
    rw [List.getElem?_map] at hi
    cases hg : ns[i]? with
    | none =>
      rw [hg] at hi
      cases hi
    | some n =>
      rw [hg] at hi
      cases hi
      have hm := List.mem_of_getElem? hg
      have e : (ns.take (i + 1)).filter pb = (ns.take i).filter pb ++ [n].filter pb := by
        rw [take_snoc hg]
        exact List.filter_append ..
      refine ⟨?_, ht n hm H2 (s1.trans s2) _ ?_⟩
      · show ((σ.set j none).set j (some (V.int n))).set j none = σ.set j none
        rw [List.set_set, List.set_set]
      · cases hp : pb n with
        | true =>
          have e2 : [n].filter pb = [n] := by
            rw [List.filter_cons, hp]
            rfl
          refine iteT (B := H2 D = some (.lst (((ns.take (i + 1)).filter pb).map f)) ∧ Same H1 H2) (he n hm H2 (s1.trans s2) _ ⟨_, hD, ?_, ?_, same_upd' s2 nD⟩)
          · rw [List.length_map]
            have h1 : ((ns.take i).filter pb).length ≤ ns.length := Nat.le_trans (List.length_filter_le _ _) (by rw [List.length_take]; exact Nat.min_le_right _ _)
            exact Nat.lt_of_le_of_lt (m := 1000000) (by omega) (by decide)
          · rw [upd_same, e, e2, List.map_append]
            rfl
        | false =>
          have e2 : [n].filter pb = [] := by
            rw [List.filter_cons, hp]
            rfl
          refine iteF ⟨?_, s2⟩
          rw [e, e2, List.append_nil]
          exact hD
  · obtain ⟨hD, s2⟩ := hP
    rw [List.length_map, List.take_length] at hD
    exact q D H2 (s1.trans s2) (Same.free s1 nD) hD
theorem vn_lcR {j : Nat} {n : Int} {pb : Int → Bool} {f : Int → V} (hl : Va tr σ H [.int n]) (h0 : 0 ≤ n) (hz : n ≤ 1000000)
    (ht : ∀ x : Int, 0 ≤ x → x < n → ∀ H', Same H H' → An tt ((σ.set j none).set j (some (.int x))) H' (pb x)) (he : ∀ x : Int, 0 ≤ x → x < n → ∀ H', Same H H' → Vl te ((σ.set j none).set j (some (.int x))) H' (f x)) :
    Vn (tLc (iRng1 tr) (gName j) tt te [j]) σ H (((((List.range n.toNat).map fun (i : Nat) => (i : Int))).filter pb).map f) := fun Q q => by
  refine hl _ ⟨n, rfl, by omega, by omega, fun D nD => lc_range (lo := 0) (n := n.toNat) (fun i H' => H' D = some (.lst ((((List.range i).map fun (i : Nat) => (i : Int)).filter pb).map f)) ∧ Same H H') ⟨upd_same, same_upd nD⟩ (fun i H2 hi hP => ?_) (fun H2 hP => ?_)⟩
  · obtain ⟨hD, s2⟩ := hP
    have e : (((List.range (i + 1)).map fun (i : Nat) => (i : Int)).filter pb) = ((List.range i).map fun (i : Nat) => (i : Int)).filter pb ++ [(i : Int)].filter pb := by
      rw [List.range_succ, List.map_append]
      exact List.filter_append ..
    rw [Int.zero_add]
    refine ⟨?_, ht i (by omega) (by omega) H2 s2 _ ?_⟩
    · show ((σ.set j none).set j (some (V.int i))).set j none = σ.set j none
      rw [List.set_set, List.set_set]
    · cases hp : pb (i : Int) with
      | true =>
        have e2 : [(i : Int)].filter pb = [(i : Int)] := by
          rw [List.filter_cons, hp]
          rfl
        refine iteT (B := H2 D = some (.lst ((((List.range (i + 1)).map fun (i : Nat) => (i : Int)).filter pb).map f)) ∧ Same H H2) (he i (by omega) (by omega) H2 s2 _ ⟨_, hD, ?_, ?_, same_upd' s2 nD⟩)
        · rw [List.length_map]
          have h1 : (((List.range i).map fun (i : Nat) => (i : Int)).filter pb).length ≤ i := Nat.le_trans (List.length_filter_le _ _) (by rw [List.length_map, List.length_range]; exact Nat.le_refl _)
          exact Nat.lt_of_le_of_lt (m := 1000000) (by omega) (by decide)
        · rw [upd_same, e, e2, List.map_append]
          rfl
      | false =>
        have e2 : [(i : Int)].filter pb = [] := by
          rw [List.filter_cons, hp]
          rfl
        refine iteF ⟨?_, s2⟩
        rw [e, e2, List.append_nil]
        exact hD
  · obtain ⟨hD, s2⟩ := hP
    exact q D H2 s2 nD hD
/-! ### dicts by ints -/
theorem vl_dgetI {o : Addr} {p : Int} {kvs : List (Key × V)} (ho : Vl td σ H (.ref o)) (hk : Vl ty σ H (.int p)) (hd : H o = some (.dK kvs)) (hv : valV kvs (.inl p) = some v) : Vl (tDGet td ty) σ H v := fun Q q => ho _ (hk _ ⟨o, v, rfl, by
  rw [← hv]
  exact DGet.k (k := .inl p) hd, q⟩)
theorem q_dnewK {i : Nat} (k : ∀ p, H p = none → tw D (σ.set i (some (.ref p))) (upd H p (.dK []))) : tSeq (tAsg tDNewK (gName i)) tw D σ H := k
theorem g_dputN {o : Addr} {p : Int} {kvs : List (Key × V)} {xs : List V} (hv : Vn tv σ H xs) (ho : ∀ H', Same H H' → Vl td σ H' (.ref o)) (hk : ∀ H', Same H H' → Vl ty σ H' (.int p)) (hd : H o = some (.dK kvs)) (hl : kvs.length < sizeLine)
    (k : ∀ a H', Same H H' → H a = none → H' a = some (.lst xs) → D.nx σ (upd H' o (.dK (putK kvs (.inl p) (.ref a))))) : sDPut td ty tv D σ H := hv _ fun a H' s' na ea => ho H' s' _ (hk H' s' _ ⟨o, _, rfl, DPut.k (k := .inl p) (s' _ _ hd) hl, k a H' s' na ea⟩)
theorem g_dputV {o : Addr} {p : Int} {kvs : List (Key × V)} (hv : Vl tv σ H v) (ho : Vl td σ H (.ref o)) (hk : Vl ty σ H (.int p)) (hd : H o = some (.dK kvs)) (hl : kvs.length < sizeLine)
    (k : D.nx σ (upd H o (.dK (putK kvs (.inl p) v)))) : sDPut td ty tv D σ H := hv _ (ho _ (hk _ ⟨o, _, rfl, DPut.k (k := .inl p) hd hl, k⟩))
end
theorem hu_of {k : Nat} {A : Around} (r : Room k A) : A.units + 1 < cLine := by
  have := r.units
  omega
theorem dI {i j : Int} : decide (V.int i = V.int j) = decide (i = j) := by
  rw [Bool.eq_iff_iff, decide_eq_true_eq, decide_eq_true_eq]
  exact ⟨fun z => V.int.inj z, fun z => by rw [z]⟩
theorem vn_catV {K : PySem.W.Frag} {σ : L2.St} {H : Hp} {ta tb : TE} {a : Addr} {xs ys : List V} (ha : Vn ta σ H xs) (hb : ∀ H', Same H H' → Vl tb σ H' (.ref a)) (hA : H a = some (.lst ys)) (hz : xs.length + ys.length ≤ sizeLine) : Vn (tOp rCat ta tb) σ H (xs ++ ys) := fun Q q => ha _ fun p H1 s1 np hp => hb H1 s1 _
  ⟨p, a, xs, ys, rfl, rfl, hp, s1 _ _ hA, hz, fun t nt => q t _ (s1.trans (same_upd nt)) (Same.free s1 nt) upd_same⟩
theorem putK_len {κ : Type} [DecidableEq κ] {kvs : List (κ × V)} {k : κ} {v : V} (h : (valV kvs k).isSome = true) : (putK kvs k v).length = kvs.length := by
  unfold putK
  rw [valV_any, if_pos h, List.length_map]
/-! ### a law's own def, called from without: nothing is being shown there -/
structure FnG (P : Program) (w : World) (K : PySem.W.Frag) (mg : Str → Option Value) (base : Heap) (f : Addr) (fd : FuncData) (ps : List Str) (sp : Sp) : Prop where
  go : ∀ (s : Shared) (H : Hp) (us : List Value) (vs : List V) (Q : VK) (E : XK), Env0 P w K mg base callerA [] s H → BindsTo s fd ⟨us, []⟩ (ps.zip us) → Vals vs us → sp vs H Q E → codeAny (model P w) callerA (.call (.ref f) ⟨us, []⟩) (CR CX0 [] P w H s Q E) s
section
variable {P : Program} {w : World} {K : PySem.W.Frag} {mg : Str → Option Value} {base : Heap}
theorem okG {x qual : Str} {st : Stmt} {f : Addr} {fd : FuncData} {N ps : List Str} {k : Nat} {sp : Sp} (F : Fun K x qual st f fd) (S : FnScope N ps (defScope st)) (room : Room (k + 1) callerA) (count : ∀ vs H Q E, sp vs H Q E → vs.length = ps.length)
    (body : ∀ (cdv : Value) (s : Shared) (H : Hp) (vs : List V) (Q : VK) (E : XK), Room k (callerA.deeper (envOfC qual (defScope st) s.heap.objs.size f cdv)) → sp vs H Q E →
      ∃ t, PSs (cxOf CX0 P w K mg base N qual (defScope st) f cdv callerA [] s H E).nox (defBody st) t ∧ t { nx := fun _ H' => Q .non H', rt := Q } (start N vs) H) : FnG P w K mg base f fd ps sp := by
  obtain ⟨oc, od, kV, doc, pm, an, cdv, ct, osl, efd, look, code⟩ := F.ex
  subst efd
  refine ⟨fun s H us vs Q E env bnd rel want => ?_⟩
  have old : ∀ b o, base.get? b = some o → s.heap.get? b = some o := fun b o e => (env.bs b o e).1
  have kin : K.In s.heap := env.mod.kin.keeps old
  have lims : s.heap.NoLimit := env.mod.nolimit.keeps old
  refine codeAny_call_function room.depth (kin _ _ look) rfl S.co S.gen rfl (PySem.W.codeRec_of kin code) (bnd _ _ _ _ ?_)
  refine wpAny_newFunctionEnv_cells S.kind (fun y hy => ?_) fun fresh same s1 made => ?_
  · obtain ⟨n, v⟩ := y
    cases S.par n (List.of_mem_zip hy).1 with
    | inl q => exact .inl q
    | inr q => exact .inr ⟨q, PySem.W.cellsFrom_some _ _ _ (.inl q)⟩
  cases same
  refine ⟨lims.keeps made.toInCall.keep, codeAny_func ?_⟩
  obtain ⟨t, prog, ends⟩ := body cdv s H vs Q E (room.deeper _) want
  have inv : Inv (cxOf CX0 P w K mg base N qual (defScope st) f cdv callerA [] s H E) [] (start N vs) H s1 := inv_start S room.hd env (count _ _ _ _ want) rel made
  refine wpAny_mono (prog.nox.run [] s1 (start N vs) H _ inv ends) (fun fl s2 got => ?_) fun e s2 got => got
  cases fl with
  | ret u => exact let ⟨v, _, H2, J, rv, q⟩ := got; ⟨v, H2, J.os, J.bare, J.base, J.hok, rv, q⟩
  | next => exact let ⟨_, H2, J, q⟩ := got; ⟨V.non, H2, J.os, J.bare, J.base, J.hok, rfl, q⟩
  | brk => exact let ⟨_, _, _, q⟩ := got; False.elim q
  | cont => exact let ⟨_, _, _, q⟩ := got; False.elim q
variable {mb : Str → Option Value} {fa a : Addr} {fd : FuncData} {x : Str} {sp : Sp} {s1 : Shared} {vs : List Value} {ns : List Int}
abbrev scr (vs : List Value) : Obj := { cls := .type "list", data := .seq vs.toArray }
/-- from a heap in which at most the script is told -/
theorem runG_core (kin : K.In s1.heap) (gl : s1.heap.Ns mainGlobals mg) (bl : s1.heap.Ns builtinsNs mb) (bo : ∀ x : Str, x ≠ "__name__" → mb x = bootBuiltins x) (lim : s1.heap.NoLimit) (gen : s1.gens = #[]) (ha : s1.heap.get? a = some (scr vs))
    (F : ∀ base : Heap, K.In base → base.Ns mainGlobals mg → FnG P w K mg base fa fd [x] sp) (bind : ∀ (s : Shared) (u : Value), BindsTo s fd ⟨[u], []⟩ [(x, u)]) {H : Hp} (only : Only H) (want : sp [.ref a] H (fun v _ => v = .bl true) fun _ _ _ => False) (hok : HOk P w H s1.heap)
    (alone : ∀ b, H b ≠ none → b = a) (free : H a ≠ none → K.lookup a = none) :
    codeAny (model P w) callerA (.call (.ref fa) ⟨[.ref a], []⟩) (fun r s' => r = .ok (.ret (.bool true)) ∧ OldK s1.heap s'.heap ∧ s'.os = s1.os ∧ AllBare s'.gens) s1 := by
  have none_of : ∀ {b : Addr} {o : Obj}, s1.heap.get? b = some o → (b = a → H a ≠ none → False) → (hidT s1.heap H).get? b = some o := fun {b o} e no => hidT_get e (by
    cases q : H b with
    | none => rfl
    | some u =>
      have n : H b ≠ none := by rw [q]; exact fun z => nomatch z
      have eb := alone b n
      subst eb
      exact (no rfl n).elim)
  have names : ∀ {b : Addr} {m : Str → Option Value}, s1.heap.Ns b m → (hidT s1.heap H).Ns b m := fun {b m} ⟨o, es, ep, e, d, r⟩ => ⟨o, es, ep, none_of e (fun eb _ => by
    subst eb
    rw [ha] at e
    cases e
    have d : Data.seq vs.toArray _ = Data.dict es ep := d
    cases d), d, r⟩
  have kin2 : K.In (hidT s1.heap H) := fun b o e => none_of (kin b o e) fun eb n => by
    subst eb
    rw [free n] at e
    cases e
  have mod : Mod K mg (hidT s1.heap H) := ⟨kin2, names gl, ⟨mb, names bl, bo⟩, let ⟨mc, h1, h2⟩ := lim; ⟨mc, names h1, h2⟩⟩
  have env : Env0 P w K mg (hidT s1.heap H) callerA [] s1 H := ⟨rfl, mod, fun b o e => of_hidT e, Nat.le_of_eq (hidT_size _ _), trivial, fun b hb => (nomatch (show b ∈ ([] : List Addr) from hb)), hok, .of_eq gen⟩
  refine codeAny_mono ((F _ kin2 (names gl)).go s1 H [.ref a] [.ref a] _ _ env (bind s1 (.ref a)) (.cons rfl .nil) want) fun r s2 got => ?_
  match r, got with
  | .ok (.ret u), got =>
    obtain ⟨v, H2, os, bare, un, hok2, rel, q⟩ := got
    have q : v = .bl true := q
    cases q
    have rel : u = Value.bool true := rel
    cases rel
    refine ⟨rfl, OldK.of_keep fun b o e => ?_, os, bare⟩
    rcases only b with z | ⟨ob, xs, z⟩
    · exact un.keep b o e z (fun m => (nomatch (show b ∈ ([] : List Addr) from m))) (fun m => (nomatch m))
    · obtain ⟨e1, _⟩ := hok b _ z
      obtain ⟨e2, _⟩ := hok2 b _ (un.frzs b ob _ z)
      rw [e] at e1
      cases e1
      exact e2
theorem runG (kin : K.In s1.heap) (gl : s1.heap.Ns mainGlobals mg) (bl : s1.heap.Ns builtinsNs mb) (bo : ∀ x : Str, x ≠ "__name__" → mb x = bootBuiltins x) (lim : s1.heap.NoLimit) (gen : s1.gens = #[]) (ha : s1.heap.get? a = some (scr vs)) (hin : IntsAre vs ns) (hl : ns.length ≤ sizeLine)
    (F : ∀ base : Heap, K.In base → base.Ns mainGlobals mg → FnG P w K mg base fa fd [x] sp) (bind : ∀ (s : Shared) (u : Value), BindsTo s fd ⟨[u], []⟩ [(x, u)]) (want : ∀ H : Hp, Only H → SqL K H a (ns.map V.int) → sp [.ref a] H (fun v _ => v = .bl true) fun _ _ _ => False) :
    codeAny (model P w) callerA (.call (.ref fa) ⟨[.ref a], []⟩) (fun r s' => r = .ok (.ret (.bool true)) ∧ OldK s1.heap s'.heap ∧ s'.os = s1.os ∧ AllBare s'.gens) s1 := by
  have rel := vals_ints hin
  have size : vs.toArray.size ≤ sizeLine := by
    rw [List.size_toArray, hin.length]
    exact hl
  cases hk : K.lookup a with
  | some o =>
    have e := (kin a o hk).symm.trans ha
    cases e
    have only : Only (fun _ : Addr => (none : Option HO)) := fun _ => .inl rfl
    exact runG_core kin gl bl bo lim gen ha F bind only (want _ only (.inr ⟨_, vs.toArray, _, hk, rfl, rfl, rfl, size, by simpa using rel⟩)) (fun b u z => (nomatch (show (none : Option HO) = some u from z))) (fun b z => absurd rfl z) fun z => absurd rfl z
  | none =>
    let H : Hp := fun b => if b = a then some (.frz (scr vs) (.lst (ns.map V.int))) else none
    have at_ : H a = some (.frz (scr vs) (.lst (ns.map V.int))) := if_pos rfl
    have off : ∀ b, b ≠ a → H b = none := fun b hb => if_neg hb
    have only : Only H := fun b => by
      by_cases hb : b = a
      · subst hb
        exact .inr ⟨_, _, at_⟩
      · exact .inl (off b hb)
    refine runG_core kin gl bl bo lim gen ha F bind only (want _ only (.inl (.inr ⟨scr vs, at_⟩))) (fun b u z => ?_) (fun b z => ?_) fun _ => hk
    · by_cases hb : b = a
      · subst hb
        cases at_.symm.trans z
        exact ⟨ha, by rw [List.length_map]; exact hl, vs, _, rel, ha⟩
      · cases (off b hb).symm.trans z
    · by_cases hb : b = a
      · exact hb
      · exact absurd (off b hb) z
end
/-- the head -/
theorem walkG {l : PySem.W.OpenLaw} {n : Nat} {q : Program} {loose : List Str} {XP : (Str → Option Value) → Heap → Prop} {YP : World → Heap → Prop} {d : DefRec} {K : Params → PySem.W.Frag} {sp : World → Sp} {x : Str} (hn : l.most = some n) (hn2 : n ≤ sizeLine) (hdf : d.params.defaults = []) (hY : ∀ (w : World) (h : Heap), YP w h → (K w.params).In h)
    (F : ∀ (w : World) (mg : Str → Option Value) (fa : Addr) (h : Heap), (K w.params).In h → h.Ns mainGlobals mg → mg d.name = some (.ref fa) → ∃ fd : FuncData, (∀ (s : Shared) (u : Value), BindsTo s fd ⟨[u], []⟩ [(x, u)]) ∧ ∀ base : Heap, (K w.params).In base → base.Ns mainGlobals mg → FnG l.prog w (K w.params) mg base fa fd [x] (sp w))
    (want : ∀ (w : World) (H : Hp) (a : Addr) (ns : List Int), ns.length ≤ n → Only H → SqL (K w.params) H a (ns.map V.int) → sp w [.ref a] H (fun v _ => v = .bl true) fun _ _ _ => False) : PySem.W.WalkO q loose XP YP l.row.toRowW d [] (fun f vs => PySem.call f vs) :=
  Att.attach_call hn hdf fun w s₀ s₁ mg mb fa o pm cd doc a vs ns G Y ho hd hcd hmg hobj hints hlen hg => by
    obtain ⟨fd, bnd, fn⟩ := F w mg fa _ (hY w _ Y) G.T.g hmg
    exact runG (hY w _ Y) G.T.g G.T.b G.T.builtins G.T.nolimit hg hobj hints (Nat.le_trans hlen hn2) fn bnd fun H o q => want w H a ns hlen o q
/-! ### repr of data -/
def rRepr (K : PySem.W.Frag) : List V → Hp → VK → Prop := fun xs H Q => ∃ a d, xs = [.ref a] ∧ Dp K H (.ref a) d ∧ d.showable = true ∧ d.hasDict = false ∧ d.depth ≤ 60 ∧ d.shown.length ≤ sizeLine ∧ Q (.str d.shown) H
theorem call_reprD {X : Cx} (hg : X.A.guards = some []) (hu : X.A.units + 64 < cLine) : CallR X (.builtin "repr") (rRepr X.K) := by
  intro pins s σ H xs us Q I r h
  obtain ⟨a, d, rfl, hd, sh, nd, dep, len, q⟩ := h
  obtain ⟨u, rfl, e⟩ := vals1 r
  cases e
  obtain ⟨as, rd⟩ := Dp.reads I d _ _ hd rfl
  exact repr_of_reads' rd sh (PyData.noDict_hsm nd) hg (by omega) (fun _ _ e => e) (fun h' u tk keep => ⟨.str d.shown, H, I.kept keep, ⟨u, rfl⟩, q⟩) len
theorem ve_repr {K : PySem.W.Frag} {σ : L2.St} {H : Hp} {tr : TA} {xs : List V} {d : PyData} (h : Va tr σ H xs) (hz : xs.length ≤ sizeLine) (hd : ∀ T H', Same H H' → H' T = some (.tup xs) → Dp K H' (.ref T) d) (h1 : d.showable = true) (h2 : d.hasDict = false) (h3 : d.depth ≤ 60) (h4 : d.shown.length ≤ sizeLine) :
    Ve (tCB (rRepr K) (tCons (tTup tr) tNil)) σ H (.str d.shown) := fun Q q => h _ ⟨hz, fun T nT => ⟨T, d, rfl, hd T _ (same_upd nT) upd_same, h1, h2, h3, h4, q _ (same_upd nT)⟩⟩
theorem ve_repr1 {K : PySem.W.Frag} {σ : L2.St} {H : Hp} {te : TE} {a : Addr} {d : PyData} (h : Vl te σ H (.ref a)) (hd : Dp K H (.ref a) d) (h1 : d.showable = true) (h2 : d.hasDict = false) (h3 : d.depth ≤ 60) (h4 : d.shown.length ≤ sizeLine) :
    Ve (tCB (rRepr K) (tCons te tNil)) σ H (.str d.shown) := fun Q q => h _ ⟨a, d, rfl, hd, h1, h2, h3, h4, q _ (Same.refl _)⟩
/-! ### orders -/
def rng (n : Int) : List Int := (List.range n.toNat).map fun (i : Nat) => (i : Int)
def OrdOk (n : Int) (os : List Int) : Prop := os.Perm (rng n)
theorem mem_rng {n x : Int} : x ∈ rng n ↔ 0 ≤ x ∧ x < n := by
  unfold rng
  rw [List.mem_map]
  constructor
  · rintro ⟨i, hi, rfl⟩
    rw [List.mem_range] at hi
    omega
  · intro h
    exact ⟨x.toNat, List.mem_range.mpr (by omega), by omega⟩
theorem len_rng {n : Int} : (rng n).length = n.toNat := by
  unfold rng
  rw [List.length_map, List.length_range]
theorem nodup_rng {n : Int} : (rng n).Nodup := by
  unfold rng
  show List.Pairwise (· ≠ ·) _
  rw [List.pairwise_map]
  exact List.Pairwise.imp (fun h z => h (Int.ofNat.inj z)) List.nodup_range
theorem rng_succ (i : Nat) : rng ((i + 1 : Nat) : Int) = rng (i : Nat) ++ [(i : Int)] := by
  unfold rng
  rw [Int.toNat_natCast, Int.toNat_natCast, List.range_succ, List.map_append]
  rfl
theorem OrdOk.mem {n x : Int} {os : List Int} (h : OrdOk n os) : x ∈ os ↔ 0 ≤ x ∧ x < n := (h.mem_iff).trans mem_rng
theorem OrdOk.nodup {n : Int} {os : List Int} (h : OrdOk n os) : os.Nodup := (List.Perm.nodup_iff h).mpr nodup_rng
theorem OrdOk.len {n : Int} {os : List Int} (h : OrdOk n os) : os.length = n.toNat := (List.Perm.length_eq h).trans len_rng
theorem perm_of_sub : ∀ (xs ys : List Int), xs.Nodup → (∀ x ∈ xs, x ∈ ys) → ys.length ≤ xs.length → xs.Perm ys
  | [], ys, _, _, hl => by
    rw [List.eq_nil_of_length_eq_zero (Nat.le_zero.mp hl)]
  | x :: xs, ys, hn, hs, hl => by
    have hx := hs x List.mem_cons_self
    have hn := List.nodup_cons.mp hn
    have e := List.length_erase_of_mem hx
    have h := perm_of_sub xs (ys.erase x) hn.2 (fun y hy => (List.mem_erase_of_ne (fun z => hn.1 (by rw [← z]; exact hy))).mpr (hs y (List.mem_cons_of_mem _ hy))) (by
      rw [e]
      rw [List.length_cons] at hl
      omega)
    exact (h.cons x).trans (List.perm_cons_erase hx).symm
theorem ord_of {n : Int} {os : List Int} (hn : os.Nodup) (hm : ∀ x ∈ os, 0 ≤ x ∧ x < n) (hl : os.length = n.toNat) : OrdOk n os :=
  perm_of_sub _ _ hn (fun x hx => mem_rng.mpr (hm x hx)) (by rw [len_rng, hl]; exact Nat.le_refl _)
section
variable {K : PySem.W.Frag} {σ : L2.St} {H : Hp} {ta tb te : TE} {D : Ends} {tw : TS} {xs : List V}
theorem g_asgN {i : Nat} (h : Vn te σ H xs) (k : ∀ p H', Same H H' → H p = none → H' p = some (.lst xs) → D.nx (σ.set i (some (.ref p))) H') : tAsg te (gName i) D σ H := h _ k
/-- slices and sums of lists of ints -/
theorem vn_toI {ns : List Int} {a : Addr} {j : Nat} (h : Vl te σ H (.ref a)) (hj : Vl tb σ H (.int (j : Nat))) (hx : SqL K H a (ns.map V.int)) (hl : j ≤ ns.length) : Vn (tSl (rSlL K) te tNoPart (tPart tb)) σ H ((ns.take j).map V.int) := by
  have e : cutV (ns.map V.int) none (some ((j : Nat) : Int)) = (ns.take j).map V.int := by
    rw [cut_to (by rw [List.length_map]; exact hl), List.map_take]
  rw [← e]
  exact vn_slice h (fun _ q => q) (fun Q q => hj _ ⟨_, rfl, q⟩) hx
theorem vn_fromI {ns : List Int} {a : Addr} {j : Nat} (h : Vl te σ H (.ref a)) (hj : Vl tb σ H (.int (j : Nat))) (hx : SqL K H a (ns.map V.int)) (hl : j ≤ ns.length) : Vn (tSl (rSlL K) te (tPart tb) tNoPart) σ H ((ns.drop j).map V.int) := by
  have e : cutV (ns.map V.int) (some ((j : Nat) : Int)) none = (ns.drop j).map V.int := by
    rw [cut_from (by rw [List.length_map]; exact hl), List.map_drop]
  rw [← e]
  exact vn_slice h (fun Q q => hj _ ⟨_, rfl, q⟩) (fun _ q => q) hx
theorem vn_oneI {n : Int} (h : Vl te σ H (.int n)) : Vn (tLst (tCons te tNil)) σ H (([n] : List Int).map V.int) := vn_lst (va_cons h va_nil) (by show 1 ≤ sizeLine; decide)
theorem vn_catI {ms ns : List Int} (ha : Vn ta σ H (ms.map V.int)) (hb : ∀ H', Same H H' → Vn tb σ H' (ns.map V.int)) (hz : ms.length + ns.length ≤ 1000000) : Vn (tOp rCat ta tb) σ H ((ms ++ ns).map V.int) := by
  rw [List.map_append]
  exact vn_cat ha hb (by
    rw [List.length_map, List.length_map]
    exact Nat.le_trans hz (by decide))
theorem inV_int {x : Int} {ns : List Int} : inV (.int x) (ns.map V.int) = decide (x ∈ ns) := by
  unfold inV
  induction ns with
  | nil => rfl
  | cons n r ih =>
    rw [List.map_cons, List.any_cons, ih]
    show ((n == x) || decide (x ∈ r)) = _
    rw [Bool.eq_iff_iff, Bool.or_eq_true, beq_iff_eq, decide_eq_true_eq, decide_eq_true_eq, List.mem_cons]
    constructor
    · rintro (h | h)
      · exact .inl h.symm
      · exact .inr h
    · rintro (h | h)
      · exact .inl h.symm
      · exact .inr h
theorem flat_ints (ns : List Int) : (ns.map V.int).all flatV = true := by
  rw [List.all_map, List.all_eq_true]
  intro x _
  rfl
theorem vl_inI {a : Addr} {x : Int} {ns : List Int} (ha : Vl ta σ H (.int x)) (h : Vl te σ H (.ref a)) (hx : SqL K H a (ns.map V.int)) : Vl (tOp (rIn K false) ta te) σ H (.bl (decide (x ∈ ns))) := vl_op ha h fun _ k => ⟨a, _, rfl, .inl hx, rfl, flat_ints ns, by
  rw [inV_int]
  exact k⟩
theorem vl_notInI {a : Addr} {x : Int} {ns : List Int} (ha : Vl ta σ H (.int x)) (h : Vl te σ H (.ref a)) (hx : SqL K H a (ns.map V.int)) : Vl (tOp (rIn K true) ta te) σ H (.bl (!decide (x ∈ ns))) := vl_op ha h fun _ k => ⟨a, _, rfl, .inl hx, rfl, flat_ints ns, by
  rw [inV_int]
  exact k⟩
theorem vl_ixI {a : Addr} {ns : List Int} {j : Nat} {x : Int} (ha : Vl ta σ H (.ref a)) (hb : Vl tb σ H (.int (j : Nat))) (h : SqL K H a (ns.map V.int)) (hg : ns[j]? = some x) : Vl (tOp (rIxL K) ta tb) σ H (.int x) := vl_ixL ha hb h (atI_nat (by
  rw [List.getElem?_map, hg]
  rfl))
theorem vl_lenI {a : Addr} {ns : List Int} (ha : Vl ta σ H (.ref a)) (h : SqL K H a (ns.map V.int)) : Vl (tCB (fun xs H Q => ∃ p ys, xs = [V.ref p] ∧ (SqL K H p ys ∨ SqT K H p ys) ∧ Q (V.int ys.length) H) (tCons ta tNil)) σ H (.int ns.length) := (vl_lenL ha h).is (by rw [List.length_map])
end
section
variable {K : PySem.W.Frag} {σ : L2.St} {H : Hp} {ta tb te : TE} {b k m : Bool}
theorem vn_catL {a : Addr} {ms ns : List Int} (ha : Vl ta σ H (.ref a)) (hA : H a = some (.lst (ms.map V.int))) (hb : Vn tb σ H (ns.map V.int)) (hz : ms.length + ns.length ≤ 1000000) : Vn (tOp rCat ta tb) σ H ((ms ++ ns).map V.int) := fun Q q =>
  ha _ (hb _ fun p H1 s1 np hp => ⟨a, p, _, _, rfl, rfl, s1 _ _ hA, hp, by
    rw [List.length_map, List.length_map]
    exact Nat.le_trans hz (by decide), fun t nt => by
    rw [← List.map_append]
    exact q t _ (s1.trans (same_upd nt)) (Same.free s1 nt) upd_same⟩)
theorem vn_lstRg {n : Int} (h : Vl ta σ H (.int n)) (h0 : 0 ≤ n) (h1 : n ≤ 1000000) : Vn (tLstRg (tRg1 ta)) σ H ((rng n).map V.int) := fun Q q => h _ ⟨n, rfl, RgOk.of_le (by omega) (by omega) (by omega) h0, fun p np => by
  have e : rgV 0 n = (rng n).map V.int := by
    unfold rgV rng
    rw [List.map_map, Int.sub_zero]
    exact List.map_congr_left fun i _ => by
      rw [Int.zero_add]
      rfl
  rw [e]
  exact q p _ (same_upd np) np upd_same⟩
theorem vl_andV (h1 : Vl ta σ H (.bl k)) (h2 : k = true → Vl tb σ H (.bl m)) : Vl (tAndV ta tb) σ H (.bl (k && m)) := fun Q q => h1 _ ⟨k, rfl, by
  cases k with
  | true => exact iteT (h2 rfl _ q)
  | false => exact iteF q⟩
theorem dB {i j : Bool} : decide (V.bl i = V.bl j) = decide (i = j) := by
  rw [Bool.eq_iff_iff, decide_eq_true_eq, decide_eq_true_eq]
  exact ⟨fun z => V.bl.inj z, fun z => by rw [z]⟩
end
theorem q_dputN {σ : L2.St} {H : Hp} {td ty tv : TE} {D : Ends} {tw : TS} {o : Addr} {p : Int} {kvs : List (Key × V)} {xs : List V} (hv : Vn tv σ H xs) (ho : ∀ H', Same H H' → Vl td σ H' (.ref o)) (hk : ∀ H', Same H H' → Vl ty σ H' (.int p)) (hd : H o = some (.dK kvs)) (hl : kvs.length < sizeLine)
    (k : ∀ a H', Same H H' → H a = none → H' a = some (.lst xs) → tw D σ (upd H' o (.dK (putK kvs (.inl p) (.ref a))))) : tSeq (sDPut td ty tv) tw D σ H := g_dputN (D := { D with nx := tw D }) hv ho hk hd hl k
def spOrder (K : PySem.W.Frag) : Sp := fun vs H Q _ => ∃ (d : Addr) (ds : List Int) (k n : Int), vs = [.ref d, .int k, .int n] ∧ SqL K H d (ds.map V.int) ∧ 0 ≤ k ∧ 0 ≤ n ∧ n ≤ 40 ∧ ∀ H' p os, Same H H' → H p = none → H' p = some (.lst (os.map V.int)) → OrdOk n os → Q (.ref p) H'
/-! ### ranks -/
def fb (m : Int) : List Int → List Int → Nat → Option Nat
  | _, [], _ => none
  | seen, x :: xs, k => if (0 ≤ x ∧ x < m) ∧ x ∉ seen then fb m (seen ++ [x]) xs (k + 1) else some k
def badAt (os : List Int) : Option Nat := fb os.length [] os 0
def posOf (x : Int) : List Int → Nat
  | [] => 0
  | y :: ys => if y = x then 0 else posOf x ys + 1
def rk (os : List Int) : List Int := (rng os.length).map fun p => (posOf p os : Int)
theorem posOf_get : ∀ {os : List Int} {i : Nat} {x : Int}, os.Nodup → os[i]? = some x → posOf x os = i
  | [], _, _, _, h => by simp at h
  | y :: ys, 0, x, _, h => if_pos (Option.some.inj h)
  | y :: ys, i + 1, x, hn, h => by
    have hn := List.nodup_cons.mp hn
    have h : ys[i]? = some x := h
    have ne : ¬ y = x := fun z => hn.1 (by rw [z]; exact List.mem_of_getElem? h)
    show (if y = x then 0 else posOf x ys + 1) = i + 1
    rw [if_neg ne, posOf_get hn.2 h]
theorem posOf_lt : ∀ {os : List Int} {x : Int}, x ∈ os → os[posOf x os]? = some x
  | y :: ys, x, h => by
    show (y :: ys)[if y = x then 0 else posOf x ys + 1]? = some x
    by_cases e : y = x
    · rw [if_pos e, e]
      rfl
    · rw [if_neg e]
      rcases List.mem_cons.mp h with h | h
      · exact absurd h.symm e
      · exact posOf_lt h
theorem fb_ok {m : Int} : ∀ {xs seen : List Int} {k : Nat}, fb m seen xs k = none → seen.Nodup → (∀ x ∈ seen, 0 ≤ x ∧ x < m) → (seen ++ xs).Nodup ∧ ∀ x ∈ seen ++ xs, 0 ≤ x ∧ x < m
  | [], seen, k, _, hn, hm => by
    rw [List.append_nil]
    exact ⟨hn, hm⟩
  | x :: xs, seen, k, h, hn, hm => by
    have h : (if (0 ≤ x ∧ x < m) ∧ x ∉ seen then fb m (seen ++ [x]) xs (k + 1) else some k) = none := h
    by_cases c : (0 ≤ x ∧ x < m) ∧ x ∉ seen
    · rw [if_pos c] at h
      have := fb_ok h (List.nodup_append.mpr ⟨hn, List.nodup_cons.mpr ⟨List.not_mem_nil, .nil⟩, fun a ha b hb e => c.2 (by
        rw [List.mem_singleton] at hb
        rw [← hb, ← e]
        exact ha)⟩) (fun y hy => by
        rcases List.mem_append.mp hy with hy | hy
        · exact hm y hy
        · rw [List.mem_singleton.mp hy]
          exact c.1)
      rw [List.append_assoc] at this
      exact this
    · rw [if_neg c] at h
      cases h
theorem bad_none {os : List Int} (h : badAt os = none) : OrdOk os.length os := by
  have := fb_ok h .nil (fun _ h => nomatch h)
  exact ord_of this.1 this.2 (Int.toNat_natCast _).symm
theorem fb_none {m : Int} : ∀ {xs seen : List Int} {k : Nat}, (seen ++ xs).Nodup → (∀ x ∈ xs, 0 ≤ x ∧ x < m) → fb m seen xs k = none
  | [], _, _, _, _ => rfl
  | x :: xs, seen, k, hn, hm => by
    have c : (0 ≤ x ∧ x < m) ∧ x ∉ seen := ⟨hm x List.mem_cons_self, fun z => (List.nodup_append.mp hn).2.2 x z x List.mem_cons_self rfl⟩
    show (if (0 ≤ x ∧ x < m) ∧ x ∉ seen then fb m (seen ++ [x]) xs (k + 1) else some k) = none
    rw [if_pos c]
    exact fb_none (by
      rw [List.append_assoc]
      exact hn) fun y hy => hm y (List.mem_cons_of_mem _ hy)
theorem bad_iff {os : List Int} : badAt os = none ↔ OrdOk os.length os := ⟨bad_none, fun h => fb_none (by
  rw [List.nil_append]
  exact h.nodup) fun x hx => h.mem.mp hx⟩
def outAt (os : List Int) (i : Nat) : List Int := (rng os.length).map fun p => if p ∈ os.take i then (posOf p os : Int) else 0
theorem rng_get {n : Int} {p : Nat} (h : p < (rng n).length) : (rng n)[p] = (p : Int) := by
  simp only [rng, List.getElem_map, List.getElem_range]
theorem out_zero {os : List Int} : outAt os 0 = os.map fun _ => (0 : Int) := by
  refine List.ext_getElem ?_ fun p h1 h2 => ?_
  · unfold outAt
    rw [List.length_map, List.length_map, len_rng, Int.toNat_natCast]
  · simp only [outAt, List.getElem_map, List.take_zero, List.not_mem_nil, if_false]
theorem out_succ {os : List Int} {i : Nat} {x : Int} (ok : OrdOk os.length os) (h : os[i]? = some x) : outAt os (i + 1) = (outAt os i).set x.toNat i := by
  have hx := ok.mem.mp (List.mem_of_getElem? h)
  refine List.ext_getElem ?_ fun p h1 h2 => ?_
  · unfold outAt
    rw [List.length_set, List.length_map, List.length_map]
  · rw [List.getElem_set]
    simp only [outAt, List.getElem_map, rng_get]
    rw [take_snoc h]
    by_cases e : x.toNat = p
    · have e2 : (p : Int) = x := by omega
      rw [if_pos e, e2, if_pos (List.mem_append.mpr (.inr (List.mem_singleton.mpr rfl))), posOf_get ok.nodup h]
    · have e2 : ¬ (p : Int) = x := fun z => e (by omega)
      rw [if_neg e]
      by_cases c : (p : Int) ∈ os.take i
      · rw [if_pos c, if_pos (List.mem_append.mpr (.inl c))]
      · rw [if_neg c, if_neg (fun z => by
          rcases List.mem_append.mp z with z | z
          · exact c z
          · exact e2 (List.mem_singleton.mp z))]
theorem out_end {os : List Int} (ok : OrdOk os.length os) : outAt os os.length = rk os := by
  unfold outAt rk
  rw [List.take_length]
  exact List.map_congr_left fun p hp => if_pos (ok.mem.mpr (mem_rng.mp hp))
def dueD (os : List Int) : PyData := match badAt os with
  | some k => .tuple [.str "bad", .int (k : Nat)]
  | none => .tuple [.str "ranks", .list ((rk os).map PyData.int)]
theorem shaped_due (os : List Int) : SeqAt.shaped (dueD os) = true := by
  unfold dueD
  split
  · exact shaped_pair (x := "bad") (by decide +kernel) rfl (Nat.zero_le _)
  · refine shaped_pair (x := "ranks") (by decide +kernel) ?_ ?_
    · exact (lay_ints _).1
    · show PyData.depthAll _ + 1 ≤ 3
      rw [(lay_ints _).2]
      decide
/-- what due's tuple holds -/
def DueAt (K : PySem.W.Frag) (H : Hp) (T : Addr) (os : List Int) : Prop := match badAt os with
  | some k => SqT K H T [.str "bad", .int (k : Nat)]
  | none => ∃ q, SqT K H T [.str "ranks", .ref q] ∧ SqL K H q ((rk os).map V.int)
theorem DueAt.dp {K : PySem.W.Frag} {H : Hp} {T : Addr} {os : List Int} (h : DueAt K H T os) : Dp K H (.ref T) (dueD os) := by
  unfold DueAt at h
  unfold dueD
  cases e : badAt os with
  | some k =>
    rw [e] at h
    exact .tup h (.cons (.str _) (.cons (.int _) .nil))
  | none =>
    rw [e] at h
    obtain ⟨q, h1, h2⟩ := h
    exact .tup h1 (.cons (.str _) (.cons (Dp.ints h2) .nil))
/-! ### neighbours -/
def nearF (a : Int) (l : Lnk) : Option Int := if l.a = a then some l.b else if l.b = a then some l.a else none
def nearOf (a : Int) (ls : List Lnk) : List Int := ls.filterMap (nearF a)
theorem nearF_sum {a : Int} {l : Lnk} : nearF a l = if (l.a = a ∨ l.b = a) then some (l.a + l.b - a) else none := by
  unfold nearF
  by_cases h1 : l.a = a
  · rw [if_pos h1, if_pos (.inl h1)]
    congr 1
    omega
  · rw [if_neg h1]
    by_cases h2 : l.b = a
    · rw [if_pos h2, if_pos (.inr h2)]
      congr 1
      omega
    · rw [if_neg h2, if_neg (by omega)]
theorem nearF_iff {a o : Int} {l : Lnk} (h : l.a < l.b) : nearF a l = some o ↔ (l.a = a ∧ l.b = o) ∨ (l.a = o ∧ l.b = a) := by
  rw [nearF_sum]
  by_cases c : l.a = a ∨ l.b = a
  · rw [if_pos c]
    constructor
    · intro e
      have := Option.some.inj e
      omega
    · intro e
      congr 1
      omega
  · rw [if_neg c]
    constructor
    · intro e
      cases e
    · intro e
      omega
def adj0 (ls : List Lnk) (x y : Int) : Bool := ls.any fun l => decide ((l.a = x ∧ l.b = y) ∨ (l.a = y ∧ l.b = x))
theorem adj0_iff {ls : List Lnk} {x y : Int} : adj0 ls x y = true ↔ ∃ l ∈ ls, (l.a = x ∧ l.b = y) ∨ (l.a = y ∧ l.b = x) := by
  unfold adj0
  rw [List.any_eq_true]
  constructor
  · rintro ⟨l, h, e⟩
    exact ⟨l, h, of_decide_eq_true e⟩
  · rintro ⟨l, h, e⟩
    exact ⟨l, h, decide_eq_true e⟩
theorem split_at {α : Type} {xs : List α} {i : Nat} {x : α} (h : xs[i]? = some x) : xs = xs.take i ++ x :: xs.drop (i + 1) := by
  have hi := (List.getElem?_eq_some_iff.mp h).1
  have e := List.take_append_drop i xs
  rw [List.drop_eq_getElem_cons hi, (List.getElem?_eq_some_iff.mp h).2] at e
  exact e.symm
theorem near_mem {N : Net} (ok : NetOk N) {a o : Int} : o ∈ nearOf a N.ls ↔ adj0 N.ls a o = true := by
  unfold nearOf
  rw [List.mem_filterMap, adj0_iff]
  constructor
  · rintro ⟨l, h, e⟩
    exact ⟨l, h, (nearF_iff (ok.ok l h).ab).mp e⟩
  · rintro ⟨l, h, e⟩
    exact ⟨l, h, (nearF_iff (ok.ok l h).ab).mpr e⟩
theorem near_lt {N : Net} (ok : NetOk N) (a : Int) : (nearOf a N.ls).Pairwise (· < ·) := by
  unfold nearOf
  rw [List.pairwise_filterMap]
  refine List.Pairwise.imp_of_mem (fun {l m} hl hm hlt x hx y hy => ?_) ok.lt
  have h1 := (ok.ok l hl).ab
  have h2 := (ok.ok m hm).ab
  have hx := (nearF_iff h1).mp hx
  have hy := (nearF_iff h2).mp hy
  unfold LnkLt at hlt
  omega
theorem near_nodup {N : Net} (ok : NetOk N) (a : Int) : (nearOf a N.ls).Nodup := (near_lt ok a).imp fun h z => by omega
theorem adj0_in {N : Net} (ok : NetOk N) {x y : Int} (h : adj0 N.ls x y = true) : (0 ≤ x ∧ x < N.n) ∧ (0 ≤ y ∧ y < N.n) ∧ x ≠ y := by
  obtain ⟨l, hl, e⟩ := adj0_iff.mp h
  have := (ok.ok l hl).a0
  have := (ok.ok l hl).ab
  have := (ok.ok l hl).bn
  omega
theorem adj0_sym {ls : List Lnk} {x y : Int} : adj0 ls x y = adj0 ls y x := by
  rw [Bool.eq_iff_iff, adj0_iff, adj0_iff]
  constructor
  · rintro ⟨l, h, e⟩
    exact ⟨l, h, e.symm⟩
  · rintro ⟨l, h, e⟩
    exact ⟨l, h, e.symm⟩
/-! ### the greedy order -/
def joinB (adj : Int → Int → Bool) (b x y : Int) : Bool := adj x y || (adj b x && (adj b y && !decide (x = y)))
def deg (L : List Int) (adj : Int → Int → Bool) (p : Int) : Nat := (L.filter (adj p)).length
def pick (f : Int → Nat) (b : Int) (xs : List Int) : Int := xs.foldl (fun b p => if f p < f b then p else b) b
def gr : Nat → List Int → (Int → Int → Bool) → List Int
  | 0, _, _ => []
  | _ + 1, [], _ => []
  | k + 1, p :: r, adj => pick (deg (p :: r) adj) p (p :: r) :: gr k ((p :: r).erase (pick (deg (p :: r) adj) p (p :: r))) (joinB adj (pick (deg (p :: r) adj) p (p :: r)))
def greedyOf (N : Net) : List Int := gr N.n.toNat (rng N.n) (adj0 N.ls)
theorem pick_or {f : Int → Nat} : ∀ {xs : List Int} {b : Int}, pick f b xs = b ∨ pick f b xs ∈ xs
  | [], b => .inl rfl
  | x :: xs, b => by
    show pick f (if f x < f b then x else b) xs = b ∨ pick f (if f x < f b then x else b) xs ∈ x :: xs
    by_cases c : f x < f b
    · rw [if_pos c]
      rcases pick_or (f := f) (xs := xs) (b := x) with h | h
      · right
        rw [h]
        exact List.mem_cons_self
      · exact .inr (List.mem_cons_of_mem _ h)
    · rw [if_neg c]
      rcases pick_or (f := f) (xs := xs) (b := b) with h | h
      · exact .inl h
      · exact .inr (List.mem_cons_of_mem _ h)
theorem pick_mem {f : Int → Nat} {p : Int} {r : List Int} : pick f p (p :: r) ∈ p :: r := by
  rcases pick_or (f := f) (xs := p :: r) (b := p) with h | h
  · rw [h]
    exact List.mem_cons_self
  · exact h
theorem pick_congr {f g : Int → Nat} : ∀ {xs : List Int} {b : Int}, (∀ x ∈ b :: xs, f x = g x) → pick f b xs = pick g b xs
  | [], _, _ => rfl
  | x :: xs, b, h => by
    show pick f (if f x < f b then x else b) xs = pick g (if g x < g b then x else b) xs
    rw [h x (List.mem_cons_of_mem _ List.mem_cons_self), h b List.mem_cons_self]
    refine pick_congr fun y hy => ?_
    rcases List.mem_cons.mp hy with e | e
    · by_cases c : g x < g b
      · rw [if_pos c] at e
        rw [e]
        exact h x (List.mem_cons_of_mem _ List.mem_cons_self)
      · rw [if_neg c] at e
        rw [e]
        exact h b List.mem_cons_self
    · exact h y (List.mem_cons_of_mem _ (List.mem_cons_of_mem _ e))
structure AdjOk (adj : Int → Int → Bool) : Prop where
  sym : ∀ x y, adj x y = adj y x
  irr : ∀ x, adj x x = false
theorem AdjOk.join {adj : Int → Int → Bool} (h : AdjOk adj) (b : Int) : AdjOk (joinB adj b) where
  sym := fun x y => by
    unfold joinB
    rw [h.sym x y, Bool.and_left_comm, show decide (x = y) = decide (y = x) by
      rw [Bool.eq_iff_iff, decide_eq_true_eq, decide_eq_true_eq]
      exact eq_comm]
  irr := fun x => by
    unfold joinB
    rw [h.irr x, decide_eq_true rfl]
    simp
theorem adj0_ok {N : Net} (ok : NetOk N) : AdjOk (adj0 N.ls) := ⟨fun _ _ => adj0_sym, fun x => by
  cases e : adj0 N.ls x x with
  | false => rfl
  | true => exact absurd rfl (adj0_in ok e).2.2⟩
/-- lists of neighbours that say what adj says of the places left -/
structure NearOk (L : List Int) (adj : Int → Int → Bool) (near : Int → List Int) : Prop where
  nd : ∀ p ∈ L, (near p).Nodup
  mem : ∀ p ∈ L, ∀ o, o ∈ near p ↔ o ∈ L ∧ adj p o = true
theorem sub_len : ∀ {xs ys : List Int}, xs.Nodup → (∀ x ∈ xs, x ∈ ys) → xs.length ≤ ys.length
  | [], _, _, _ => Nat.zero_le _
  | x :: xs, ys, hn, hs => by
    have hn := List.nodup_cons.mp hn
    have hx := hs x List.mem_cons_self
    have e := List.length_erase_of_mem hx
    have h := sub_len (ys := ys.erase x) hn.2 (fun y hy => (List.mem_erase_of_ne (fun z => hn.1 (by rw [← z]; exact hy))).mpr (hs y (List.mem_cons_of_mem _ hy)))
    have := List.length_pos_of_mem hx
    rw [List.length_cons]
    omega
theorem NearOk.deg {L : List Int} {adj : Int → Int → Bool} {near : Int → List Int} (h : NearOk L adj near) (hL : L.Nodup) {p : Int} (hp : p ∈ L) : (near p).length = Ovc.deg L adj p := by
  unfold Ovc.deg
  have hf : (L.filter (adj p)).Nodup := hL.filter _
  have m : ∀ o, o ∈ near p ↔ o ∈ L.filter (adj p) := fun o => by
    rw [h.mem p hp o, List.mem_filter]
  refine Nat.le_antisymm ?_ ?_
  · exact sub_len (h.nd p hp) fun o ho => (m o).mp ho
  · exact sub_len hf fun o ho => (m o).mpr ho
def nearTo (near : Int → List Int) (b p : Int) : List Int := (near p).filter (fun o => !decide (o = b)) ++ (near b).filter fun o => !decide (o = p) && !decide (o ∈ near p)
theorem NearOk.step {L : List Int} {adj : Int → Int → Bool} {near : Int → List Int} (h : NearOk L adj near) (ha : AdjOk adj) (hL : L.Nodup) {b : Int} (hb : b ∈ L) :
    NearOk (L.erase b) (joinB adj b) (fun p => if p ∈ near b then nearTo near b p else near p) where
  nd := fun p hp => by
    have hp2 := (hL.mem_erase_iff.mp hp).2
    show (if p ∈ near b then nearTo near b p else near p).Nodup
    by_cases c : p ∈ near b
    · rw [if_pos c]
      refine List.nodup_append.mpr ⟨(h.nd p hp2).filter _, (h.nd b hb).filter _, fun x hx y hy e => ?_⟩
      have h1 := (List.mem_filter.mp hx).1
      have h2 := (List.mem_filter.mp hy).2
      rw [Bool.and_eq_true, Bool.not_eq_true', Bool.not_eq_true', decide_eq_false_iff_not, decide_eq_false_iff_not] at h2
      exact h2.2 (by rw [← e]; exact h1)
    · rw [if_neg c]
      exact h.nd p hp2
  mem := fun p hp o => by
    have hpb := (hL.mem_erase_iff.mp hp).1
    have hp2 := (hL.mem_erase_iff.mp hp).2
    show o ∈ (if p ∈ near b then nearTo near b p else near p) ↔ o ∈ L.erase b ∧ joinB adj b p o = true
    have j : joinB adj b p o = true ↔ adj p o = true ∨ (adj b p = true ∧ adj b o = true ∧ o ≠ p) := by
      unfold joinB
      rw [Bool.or_eq_true, Bool.and_eq_true, Bool.and_eq_true, Bool.not_eq_true', decide_eq_false_iff_not]
      constructor
      · rintro (h | ⟨h1, h2, h3⟩)
        · exact .inl h
        · exact .inr ⟨h1, h2, fun z => h3 z.symm⟩
      · rintro (h | ⟨h1, h2, h3⟩)
        · exact .inl h
        · exact .inr ⟨h1, h2, fun z => h3 z.symm⟩
    rw [j, hL.mem_erase_iff]
    by_cases c : p ∈ near b
    · rw [if_pos c]
      unfold nearTo
      have hbp := ((h.mem b hb p).mp c).2
      rw [List.mem_append, List.mem_filter, List.mem_filter, Bool.and_eq_true, Bool.not_eq_true', Bool.not_eq_true', Bool.not_eq_true', decide_eq_false_iff_not, decide_eq_false_iff_not, decide_eq_false_iff_not, h.mem p hp2 o, h.mem b hb o]
      constructor
      · rintro (⟨⟨h1, h2⟩, h3⟩ | ⟨⟨h1, h2⟩, h3, h4⟩)
        · exact ⟨⟨h3, h1⟩, .inl h2⟩
        · have ne : o ≠ b := fun z => by
            rw [z, ha.irr] at h2
            cases h2
          exact ⟨⟨ne, h1⟩, .inr ⟨hbp, h2, h3⟩⟩
      · rintro ⟨⟨h1, h2⟩, h3 | ⟨h3, h4, h5⟩⟩
        · exact .inl ⟨⟨h2, h3⟩, h1⟩
        · by_cases d : adj p o = true
          · exact .inl ⟨⟨h2, d⟩, h1⟩
          · exact .inr ⟨⟨h2, h4⟩, h5, fun z => d z.2⟩
    · rw [if_neg c, h.mem p hp2 o]
      have hbp : adj b p ≠ true := fun z => c ((h.mem b hb p).mpr ⟨hp2, z⟩)
      constructor
      · rintro ⟨h1, h2⟩
        have ne : o ≠ b := fun z => by
          rw [z, ha.sym] at h2
          exact hbp h2
        exact ⟨⟨ne, h1⟩, .inl h2⟩
      · rintro ⟨⟨h1, h2⟩, h3 | ⟨h3, _⟩⟩
        · exact ⟨h2, h3⟩
        · exact absurd h3 hbp
theorem left_snoc {n b : Int} {acc : List Int} : (rng n).filter (fun p => !decide (p ∈ acc ++ [b])) = ((rng n).filter fun p => !decide (p ∈ acc)).erase b := by
  rw [List.Nodup.erase_eq_filter (show List.Nodup _ from nodup_rng.filter _) b, List.filter_filter]
  refine List.filter_congr fun p _ => ?_
  rw [Bool.eq_iff_iff]
  simp only [List.mem_append, List.mem_singleton, Bool.not_eq_true', decide_eq_false_iff_not, Bool.and_eq_true, bne_iff_ne, ne_eq, not_or]
  exact And.comm
/-! ### pairs of an order -/
inductive Rch (adj : Int → Int → Bool) (low : Int → Prop) : Int → Int → Prop
  | one {x y : Int} : adj x y = true → Rch adj low x y
  | step {x z y : Int} : Rch adj low x z → low z → adj z y = true → Rch adj low x y
section
variable {adj : Int → Int → Bool} {low low' : Int → Prop} {x y z : Int}
theorem Rch.mono (h : Rch adj low x y) (m : ∀ z, low z → low' z) : Rch adj low' x y := by
  induction h with
  | one a => exact .one a
  | step _ l a ih => exact .step ih (m _ l) a
theorem Rch.trans (h : Rch adj low x z) (l : low z) (k : Rch adj low z y) : Rch adj low x y := by
  induction k with
  | one a => exact .step h l a
  | step _ l2 a ih => exact .step ih l2 a
theorem Rch.sym (ok : AdjOk adj) (h : Rch adj low x y) : Rch adj low y x := by
  induction h with
  | one a => exact .one (by rw [ok.sym]; exact a)
  | step _ l a ih => exact Rch.trans (.one (by rw [ok.sym]; exact a)) l ih
theorem Rch.last (h : Rch adj low x y) : ∃ a, adj a y = true := by
  cases h with
  | one a => exact ⟨_, a⟩
  | step _ _ a => exact ⟨_, a⟩
theorem Rch.first (h : Rch adj low x y) : ∃ a, adj x a = true := by
  induction h with
  | one a => exact ⟨_, a⟩
  | step _ _ _ ih => exact ih
end
section
variable {adj : Int → Int → Bool} {pos : Int → Nat}
theorem floyd1 (inj : ∀ x y a b, adj a x = true → adj b y = true → pos x = pos y → x = y) {k : Nat} {x y : Int} (h : Rch adj (fun z => pos z < k + 1) x y) :
    Rch adj (fun z => pos z < k) x y ∨ ∃ w, pos w = k ∧ Rch adj (fun z => pos z < k) x w ∧ Rch adj (fun z => pos z < k) w y := by
  induction h with
  | one a => exact .inl (.one a)
  | @step z y hz l a ih =>
    by_cases e : pos z = k
    · rcases ih with h | ⟨w, hw, h1, h2⟩
      · exact .inr ⟨z, e, h, .one a⟩
      · obtain ⟨b, hb⟩ := h1.last
        obtain ⟨c, hc⟩ := hz.last
        have : w = z := inj w z b c hb hc (by omega)
        subst this
        exact .inr ⟨w, hw, h1, .one a⟩
    · rcases ih with h | ⟨w, hw, h1, h2⟩
      · exact .inl (.step h (by omega) a)
      · exact .inr ⟨w, hw, h1, .step h2 (by omega) a⟩
theorem floyd (inj : ∀ x y a b, adj a x = true → adj b y = true → pos x = pos y → x = y) : ∀ {k : Nat} {x y : Int}, Rch adj (fun z => pos z < k) x y →
    adj x y = true ∨ ∃ w, pos w < k ∧ Rch adj (fun z => pos z < pos w) x w ∧ Rch adj (fun z => pos z < pos w) w y
  | 0, x, y, h => by
    cases h with
    | one a => exact .inl a
    | step _ l _ => exact absurd l (Nat.not_lt_zero _)
  | k + 1, x, y, h => by
    rcases floyd1 inj h with h | ⟨w, hw, h1, h2⟩
    · rcases floyd inj h with h | ⟨w, hw, h1, h2⟩
      · exact .inl h
      · exact .inr ⟨w, by omega, h1, h2⟩
    · exact .inr ⟨w, by omega, by rw [hw]; exact h1, by rw [hw]; exact h2⟩
end
def PairP (ls : List Lnk) (os : List Int) (u v : Int) : Prop := posOf u os < posOf v os ∧ Rch (adj0 ls) (fun z => posOf z os < posOf u os) u v
theorem pos_inj {os : List Int} {x y : Int} (hx : x ∈ os) (hy : y ∈ os) (h : posOf x os = posOf y os) : x = y := by
  have h1 := posOf_lt hx
  rw [h, posOf_lt hy] at h1
  exact (Option.some.inj h1).symm
theorem pos_len {os : List Int} {x : Int} (hx : x ∈ os) : posOf x os < os.length := (List.getElem?_eq_some_iff.mp (posOf_lt hx)).1
section
variable {N : Net} {os : List Int} {u v w : Int}
theorem adj_inj (ok : NetOk N) (oo : OrdOk N.n os) : ∀ x y a b, adj0 N.ls a x = true → adj0 N.ls b y = true → posOf x os = posOf y os → x = y := fun x y a b h1 h2 h3 =>
  pos_inj (oo.mem.mpr (adj0_in ok h1).2.1) (oo.mem.mpr (adj0_in ok h2).2.1) h3
theorem PairP.ins (ok : NetOk N) (h : PairP N.ls os u v) : (0 ≤ u ∧ u < N.n) ∧ (0 ≤ v ∧ v < N.n) := by
  obtain ⟨a, ha⟩ := h.2.last
  obtain ⟨b, hb⟩ := h.2.first
  exact ⟨(adj0_in ok hb).1, (adj0_in ok ha).2.1⟩
theorem PairP.ne (h : PairP N.ls os u v) : u ≠ v := fun e => by
  have := h.1
  rw [e] at this
  exact Nat.lt_irrefl _ this
theorem pair_clique (ok : NetOk N) (h1 : PairP N.ls os u v) (h2 : PairP N.ls os u w) (hvw : posOf v os < posOf w os) : PairP N.ls os v w := by
  have m : ∀ z, posOf z os < posOf u os → posOf z os < posOf v os := fun z hz => Nat.lt_trans hz h1.1
  exact ⟨hvw, ((h1.2.sym (adj0_ok ok)).mono m).trans h1.1 (h2.2.mono m)⟩
theorem pair_rec (ok : NetOk N) (oo : OrdOk N.n os) : PairP N.ls os u v ↔ posOf u os < posOf v os ∧ (adj0 N.ls u v = true ∨ ∃ w, PairP N.ls os w u ∧ PairP N.ls os w v) := by
  constructor
  · intro h
    refine ⟨h.1, ?_⟩
    rcases floyd (adj_inj ok oo) h.2 with h2 | ⟨w, hw, h1, h2⟩
    · exact .inl h2
    · exact .inr ⟨w, ⟨hw, h1.sym (adj0_ok ok)⟩, ⟨Nat.lt_trans hw h.1, h2⟩⟩
  · rintro ⟨hl, h | ⟨w, h1, h2⟩⟩
    · exact ⟨hl, .one h⟩
    · have m : ∀ z, posOf z os < posOf w os → posOf z os < posOf u os := fun z hz => Nat.lt_trans hz h1.1
      exact ⟨hl, ((h1.2.sym (adj0_ok ok)).mono m).trans h1.1 (h2.2.mono m)⟩
theorem pair_link (ok : NetOk N) (oo : OrdOk N.n os) (h : adj0 N.ls u v = true) : PairP N.ls os u v ∨ PairP N.ls os v u := by
  have hi := adj0_in ok h
  have hne : posOf u os ≠ posOf v os := fun e => hi.2.2 (pos_inj (oo.mem.mpr hi.1) (oo.mem.mpr hi.2.1) e)
  rcases Nat.lt_or_gt_of_ne hne with h1 | h1
  · exact .inl ⟨h1, .one h⟩
  · exact .inr ⟨h1, .one (by rw [adj0_sym]; exact h)⟩
end
open Classical in
/-- the upper neighbours of a place, in the order of ranks -/
noncomputable def upP (ls : List Lnk) (os : List Int) (u : Int) : List Int := os.filter fun v => decide (PairP ls os u v)
section
variable {N : Net} {ls : List Lnk} {os : List Int} {u v w : Int}
open Classical in
theorem mem_up : v ∈ upP ls os u ↔ v ∈ os ∧ PairP ls os u v := by
  unfold upP
  rw [List.mem_filter, decide_eq_true_eq]
theorem mem_upP (ok : NetOk N) (oo : OrdOk N.n os) : v ∈ upP N.ls os u ↔ PairP N.ls os u v := by
  rw [mem_up]
  exact ⟨fun h => h.2, fun h => ⟨oo.mem.mpr (h.ins ok).2, h⟩⟩
open Classical in
theorem up_eq {fs : List Int} (oo : OrdOk N.n os) (h : ∀ v ∈ os, v ∈ fs ↔ PairP N.ls os u v) : os.filter (fun v => decide (v ∈ fs)) = upP N.ls os u := by
  unfold upP
  refine List.filter_congr fun v hv => ?_
  rw [Bool.eq_iff_iff, decide_eq_true_eq, decide_eq_true_eq]
  exact h v hv
theorem up_nodup (oo : OrdOk N.n os) : (upP N.ls os u).Nodup := oo.nodup.filter _
theorem up_len (ok : NetOk N) (oo : OrdOk N.n os) : (upP N.ls os u).length ≤ 40 := by
  have e := oo.len
  have := ok.n40
  have h2 : (upP N.ls os u).length ≤ os.length := List.length_filter_le _ _
  omega
theorem pos_sorted {os : List Int} (h : os.Nodup) : os.Pairwise fun a b => posOf a os < posOf b os := by
  rw [List.pairwise_iff_getElem]
  intro i j hi hj hij
  rw [posOf_get h (List.getElem?_eq_getElem hi), posOf_get h (List.getElem?_eq_getElem hj)]
  exact hij
theorem up_sorted (oo : OrdOk N.n os) : (upP N.ls os u).Pairwise fun a b => posOf a os < posOf b os := (pos_sorted oo.nodup).filter _
end
/-! ### the other drawing of nets and orders -/
abbrev sPrice2 : Stmt := topS 8
abbrev sNet2 : Stmt := topS 9
abbrev sOrder2 : Stmt := topS 10
theorem scPrice2 : FnScope ["cell"] ["cell"] (defScope sPrice2) := ⟨rfl, rfl, rfl, by decide +kernel, rfl, by decide +kernel, by decide +kernel⟩
theorem scNet2 : FnScope ["draws", "first", "most", "count", "dense", "links", "a", "b", "cell"] ["draws", "first", "most"] (defScope sNet2) := ⟨rfl, rfl, rfl, by decide +kernel, rfl, by decide +kernel, by decide +kernel⟩
theorem scOrder2 : FnScope ["draws", "first", "count", "rows", "key", "k"] ["draws", "first", "count"] (defScope sOrder2) := ⟨rfl, rfl, rfl, by decide +kernel, rfl, by decide +kernel, by decide +kernel⟩
def spPrice2 : Sp := fun vs H Q _ => ∃ c : Int, vs = [.int c] ∧ 0 ≤ c ∧ c ≤ 60000 ∧ ∀ H' o, Same H H' → PriceOk o → Q (oV o) H'
section
variable {P : Program} {w : World} {K : PySem.W.Frag} {mg : Str → Option Value} {base : Heap}
theorem ok_price2 {f : Addr} {fd : FuncData} {k : Nat} (F : Fun K "_law_price" "_law_price" sPrice2 f fd) (mi : mg "int" = none) : FnOk P w K mg base CX0 (k + 1) f fd ["cell"] spPrice2 := by
  refine F.ok scPrice2 (fun vs H Q E h => ?_) (fun cdv A outer s H vs Q E hr h => ?_)
  · obtain ⟨c, rfl, _⟩ := h
    rfl
  · obtain ⟨c, rfl, h0, h1, q⟩ := h
    refine ⟨_, pss_cons (ps_if (pt_cmpR op_eq (pe_op op_mod (pe_callTy call_int1 (by rfl) mi (by decide +kernel) (pa_cons (pv 0) pa_nil)) pe_int) pe_int (nomark _))
      (pss_one (ps_ret pe_non))
      pss_nil)
      (pss_one (ps_ret (pe_ix ix_list (pe_lst (pa_cons (pe_op op_add pe_int (pe_op op_mod (pe_callTy call_int1 (by rfl) mi (by decide +kernel) (pa_cons (pe_op op_fdiv (pv 0) pe_int) pa_nil)) pe_int)) (pa_cons (pe_op op_add pe_int (pe_op op_mod (pe_callTy call_int1 (by rfl) mi (by decide +kernel) (pa_cons (pe_op op_fdiv (pv 0) pe_int) pa_nil)) pe_int)) (pa_cons (pe_op op_add pe_int (pe_op op_mul (pe_callTy call_int1 (by rfl) mi (by decide +kernel) (pa_cons (pe_op op_fdiv (pv 0) pe_int) pa_nil)) pe_int)) pa_nil)))) (pe_op op_mod (pe_callTy call_int1 (by rfl) mi (by decide +kernel) (pa_cons (pe_op op_fdiv (pv 0) pe_int) pa_nil)) pe_int) (fun _ _ => rfl)))), ?_⟩
    refine q_when (b := decide (V.int (c % 6) = V.int 5)) (an_test (vl_eq (vl_I (vl_int1 (vl_var rfl)) vl_c (by decide)) vl_c rfl)) (fun _ => ?_) (fun _ => ?_)
    · exact g_ret vl_c (q H none (Same.refl H) (fun x e => by cases e))
    · obtain ⟨d, g', hd⟩ := at_int (ds := [1 + (c / 6) % 3, 1 + (c / 6) % 12, 1 + (c / 6) * 97]) (k := (c / 3) % 3) (by omega) (by show (c / 3) % 3 < 3; omega)
      have hd1 : 1 ≤ d ∧ d ≤ 1000000 := by
        have := List.mem_of_getElem? hd
        simp only [List.mem_cons, List.not_mem_nil, or_false] at this
        omega
      refine g_retV (v := .int d) (ve_ixNew (xs := [1 + (c / 6) % 3, 1 + (c / 6) % 12, 1 + (c / 6) * 97].map V.int) (p := (c / 3) % 3) (vn_lst (va_cons (vl_I0 vl_c (vl_I (vl_int1 (vl_I (vl_var rfl) vl_c ⟨by decide, by decide⟩)) vl_c (by decide))) (va_cons (vl_I0 vl_c (vl_I (vl_int1 (vl_I (vl_var rfl) vl_c ⟨by decide, by decide⟩)) vl_c (by decide))) (va_cons (vl_I0 vl_c (vl_I (vl_int1 (vl_I (vl_var rfl) vl_c ⟨by decide, by decide⟩)) vl_c (.inr ⟨by decide, by decide⟩))) va_nil))) (by show 3 ≤ sizeLine; decide)) (fun H' s' => vl_I (vl_int1 (vl_I (vl_var rfl) vl_c ⟨by decide, by decide⟩)) vl_c (by decide)) g') fun H' s' => q H' (some d) s' (fun x e => by
        cases e
        exact hd1)
theorem ok_net2 {f : Addr} {fd : FuncData} (F : Fun K "_law_net" "_law_net" sNet2 f fd) (c_law_at : Kal P w K mg base 1 "_law_at" ["draws", "k", "many"] (spAt K)) (c_law_price : Kal P w K mg base 1 "_law_price" ["cell"] spPrice2) (mr : mg "range" = none) (mi : mg "int" = none) :
    FnOk P w K mg base CX0 2 f fd ["draws", "first", "most"] (spNet K) := by
  refine F.ok scNet2 (fun vs H Q E h => ?_) (fun cdv A outer s H vs Q E hr h => ?_)
  · obtain ⟨a, ds, k, m, rfl, _⟩ := h
    rfl
  · obtain ⟨a, ds, k, m, rfl, hS, hk, hm1, hm2, q⟩ := h
    refine ⟨_, pss_cons (ps_set (i := 3) scNet2.nd rfl (.inl rfl) (pe_op op_add pe_int (pe_k c_law_at hr (by first | decide | omega) (by rfl) (pa_cons (pv 0) (pa_cons (pv 1) (pa_cons (pv 2) pa_nil))))))
      (pss_cons (ps_set (i := 4) scNet2.nd rfl (.inl rfl) (pe_op op_add pe_int (pe_k c_law_at hr (by first | decide | omega) (by rfl) (pa_cons (pv 0) (pa_cons (pe_op op_add (pv 1) pe_int) (pa_cons pe_int pa_nil))))))
      (pss_cons (ps_set (i := 5) scNet2.nd rfl (.inl rfl) (pe_lst pa_nil))
      (pss_cons (ps_for PassesOwn.never rfl (pi_range1 (by rfl) mr (pa_cons (pv 3) pa_nil)) (pg_name (i := 6) scNet2.nd rfl (.inl rfl))
      (pss_one (ps_for PassesOwn.never rfl (pi_range2 (by rfl) mr (pa_cons (pe_op op_add (pv 6) pe_int) (pa_cons (pv 3) pa_nil))) (pg_name (i := 7) scNet2.nd rfl (.inl rfl))
        (pss_cons (ps_set (i := 8) scNet2.nd rfl (.inl rfl) (pe_op op_add (pe_op op_add (pe_k c_law_at hr (by first | decide | omega) (by rfl) (pa_cons (pv 0) (pa_cons (pe_op op_add (pe_op op_add (pv 1) pe_int) (pe_op op_mod (pe_callTy call_int1 (by rfl) mi (by decide +kernel) (pa_cons (pe_op op_add (pe_op op_mul (pv 6) pe_int) (pe_op op_mul (pv 7) pe_int)) pa_nil)) pe_int)) (pa_cons pe_int pa_nil)))) (pe_op op_mul pe_int (pv 6))) (pe_op op_mul pe_int (pv 7))))
          (pss_one (ps_if (pt_cmpR op_lt (pe_op op_mod (pe_callTy call_int1 (by rfl) mi (by decide +kernel) (pa_cons (pv 8) pa_nil)) pe_int) (pv 4) (nomark _))
          (pss_one (ps_expr (pe_bm PySem.F.plainAttrs_list PySem.F.slot_list_append PySem.F.type_list_append mt_append (pv 5) (pa_cons (pe_tup (pa_cons (pv 6) (pa_cons (pv 7) (pa_cons (pe_k c_law_price hr (by first | decide | omega) (by rfl) (pa_cons (pe_callTy call_int1 (by rfl) mi (by decide +kernel) (pa_cons (pe_op op_fdiv (pv 8) pe_int) pa_nil)) pa_nil)) (pa_cons (pe_k c_law_price hr (by first | decide | omega) (by rfl) (pa_cons (pe_op op_add (pe_callTy call_int1 (by rfl) mi (by decide +kernel) (pa_cons (pe_op op_fdiv (pv 8) pe_int) pa_nil)) (pv 6)) pa_nil)) pa_nil))))) pa_nil))))
          pss_nil))))))
      (pss_one (ps_ret (pe_tup (pa_cons (pv 3) (pa_cons (pv 5) pa_nil)))))))), ?_⟩
    refine q_asgI (P := fun r => 1 ≤ r ∧ r ≤ m) (vi_I0 (vi_of vl_c) (vi_call (P := fun r => 0 ≤ r ∧ r < m) (va_cons (vl_var rfl) (va_cons (vl_var rfl) (va_cons (vl_var rfl) va_nil))) fun Q E q => ⟨a, ds, k, m, rfl, hS, hk, by omega, q⟩) (fun p r hp hr => by omega)) (fun n hn => ?_)
    refine q_asgI (P := fun _ => True) (vi_I0 (vi_of vl_c) (vi_call (P := fun r => 0 ≤ r ∧ r < 9) (va_cons (vl_var rfl) (va_cons (vl_I0 (vl_var rfl) vl_c) (va_cons vl_c va_nil))) fun Q E q => ⟨a, ds, k + 1, 9, rfl, hS, by omega, by decide, q⟩) (fun p r hp hr => trivial)) (fun dn _ => ?_)
    refine q_lnew fun o no => ?_
    refine q_forR (n := n) (va_cons (vl_var rfl) va_nil) ⟨by omega, by omega⟩
      (fun i σ H3 => ∃ y6 y7 y8 xs ls, σ = [some (.ref a), some (.int k), some (.int m), some (.int n), some (.int dn), some (.ref o), y6, y7, y8] ∧ H3 o = some (.lst xs) ∧ Same H (but H3 o) ∧ DpAll K (but H3 o) xs (ls.map lnkD) ∧ LsAt n i 0 ls ∧ ls.length ≤ i * 40)
      ⟨none, none, none, [], [], rfl, upd_same, same_but (same_upd no) no, .nil, .nil, by simp⟩ (fun i σ H3 hi hP => ?_) (fun σ H3 hP => ?_)
    · obtain ⟨y6, y7, y8, xs, ls, rfl, ho, sm, hx, hl, hlen⟩ := hP
      refine g_forR2 (lo := (i : Int) + 1) (n := n) (va_cons (vl_I0 (vl_var rfl) vl_c) (va_cons (vl_var rfl) va_nil)) ⟨by omega, by omega, by omega, by omega⟩
        (fun j σ H3 => ∃ y7 y8 xs ls, σ = [some (.ref a), some (.int k), some (.int m), some (.int n), some (.int dn), some (.ref o), some (.int i), y7, y8] ∧ H3 o = some (.lst xs) ∧ Same H (but H3 o) ∧ DpAll K (but H3 o) xs (ls.map lnkD) ∧ LsAt n i ((i : Int) + 1 + j) ls ∧ ls.length ≤ i * 40 + j)
        ⟨y7, y8, xs, ls, rfl, ho, sm, hx, hl.mono (.inr ⟨rfl, by omega⟩), hlen⟩ (fun j σ H3 hj hP => ?_) (fun σ H3 hP => ?_)
      · obtain ⟨y7, y8, xs, ls, rfl, ho, sm, hx, hl, hlen⟩ := hP
        have sH : Same H H3 := sm.trans but_same
        refine q_asgI (P := fun r => 0 ≤ r ∧ r ≤ 68000) ?_ (fun cell hc => ?_)
        · refine vi_I0 (P1 := fun r => 0 ≤ r ∧ r ≤ 67200) (P2 := fun r => r = 17 * ((i : Int) + 1 + j)) (vi_I0 (P1 := fun r => 0 ≤ r ∧ r < 65536) (P2 := fun r => r = 41 * (i : Int)) (vi_call (va_cons (vl_var rfl) (va_cons (x := .int (k + 2 + ((i : Int) * 5 + ((i : Int) + 1 + j) * 3) % 23)) ?_ (va_cons vl_c va_nil))) fun Q E q => ⟨a, ds, k + 2 + ((i : Int) * 5 + ((i : Int) + 1 + j) * 3) % 23, 65536, rfl, sH.seq hS, by omega, by decide, q⟩) (vi_of ?_) (fun p r hp hr => by omega)) (vi_of ?_) (fun p r hp hr => by omega)
          · exact vl_I0 (vl_I0 (vl_var rfl) vl_c) (vl_I (vl_int1 (vl_I0 (vl_I (vl_var rfl) vl_c (.inr ⟨by decide, by decide⟩)) (vl_I (vl_var rfl) vl_c (.inr ⟨by decide, by decide⟩)))) vl_c (by decide))
          · exact vl_I vl_c (vl_var rfl) (.inl ⟨by decide, by decide⟩)
          · exact vl_I vl_c (vl_var rfl) (.inl ⟨by decide, by decide⟩)
        refine g_if (b := decide (cell % 11 < dn)) (an_test (vl_I0 (vl_I (vl_int1 (vl_var rfl)) vl_c (by decide)) (vl_var rfl))) (fun _ => ?_) (fun _ => ?_)
        · refine ⟨.ref o, rfl, .inl ⟨rfl, _, .inl (.inl ho)⟩, .int i, rfl, .int ((i : Int) + 1 + j), rfl, ?_⟩
          refine ⟨.int cell, rfl, cell, 11, rfl, rfl, ⟨by decide, by decide⟩, .inl ⟨cell / 11, rfl, cell / 11, rfl, by omega, by omega, fun H5 t s5 ht => ?_⟩⟩
          refine ⟨.int cell, rfl, cell, 5, rfl, rfl, ⟨by decide, by decide⟩, .inl ⟨cell / 5, rfl, .int i, rfl, cell / 5, (i : Int), rfl, rfl, cell / 5 + (i : Int), rfl, by omega, by omega, fun H6 u s6 hu => ?_⟩⟩
          refine ⟨by show 4 ≤ sizeLine; decide, fun T nT => ?_⟩
          have s36 : Same H3 H6 := s5.trans s6
          have ho6 := s36 _ _ ho
          have nTo : o ≠ T := ne_of_none ho6 nT
          have s7 : Same H6 (upd H6 T (.tup [.int i, .int ((i : Int) + 1 + j), oV t, oV u])) := same_upd nT
          refine ⟨o, xs, .ref T, rfl, rfl, s7 _ _ ho6, ?_, ?_⟩
          · rw [DpAll.len hx, List.length_map]
            exact Nat.lt_of_le_of_lt (show ls.length ≤ 10000 by omega) (by decide)
          · have sb : Same (but H3 o) (but (upd (upd H6 T (.tup [.int i, .int ((i : Int) + 1 + j), oV t, oV u])) o (.lst (xs ++ [.ref T]))) o) := by
              rw [but_upd]
              exact but_mono (s36.trans s7)
            refine ⟨_, _, xs ++ [.ref T], ls ++ [⟨i, (i : Int) + 1 + j, t, u⟩], rfl, upd_same, sm.trans sb, ?_, ?_, ?_⟩
            · rw [List.map_append]
              refine DpAll.app (DpAll.to hx sb) (DpAll.one (Dp.lnk (l := ⟨i, (i : Int) + 1 + j, t, u⟩) (.of ?_)))
              rw [but_upd, but_ne nTo.symm, upd_same]
              rfl
            · rw [show (i : Int) + 1 + ((j + 1 : Nat) : Int) = (i : Int) + 1 + j + 1 by omega]
              exact hl.app (by omega) (by omega) (by omega) ht hu
            · rw [List.length_append]
              show ls.length + 1 ≤ i * 40 + (j + 1)
              omega
        · exact ⟨_, _, xs, ls, rfl, ho, sm, hx, hl.mono (.inr ⟨rfl, by omega⟩), by omega⟩
      · obtain ⟨y7, y8, xs, ls, rfl, ho, sm, hx, hl, hlen⟩ := hP
        exact ⟨_, _, _, xs, ls, rfl, ho, sm, hx, hl.mono (.inl (by omega)), by omega⟩
    · obtain ⟨y6, y7, y8, xs, ls, rfl, ho, sm, hx, hl, hlen⟩ := hP
      refine ⟨.int n, rfl, .ref o, rfl, by show 2 ≤ sizeLine; decide, fun T nT => ?_⟩
      have s3 : Same H3 (upd H3 T (.tup [.int n, .ref o])) := same_upd nT
      exact q _ _ ⟨n, ls⟩ ((sm.trans but_same).trans s3) ⟨T, o, xs, rfl, upd_same, s3 _ _ ho, DpAll.to hx (but_same.trans s3)⟩ ⟨by show 1 ≤ n; omega, by show n ≤ 40; omega, hl.ok, hl.lt, by show ls.length ≤ 1600; omega⟩ (by show n ≤ m; omega)
/-- the second of a tuple of two ints -/
def sndOf (H : Hp) : V → Int
  | .ref t => match H t with
    | some (.tup [_, .int k]) => k
    | _ => 0
  | _ => 0
theorem sndOf_eq {H : Hp} {t : Addr} {x : V} {k : Int} (h : H t = some (.tup [x, .int k])) : sndOf H (.ref t) = k := by
  show (match H t with
    | some (.tup [_, .int k]) => k
    | _ => 0) = k
  rw [h]
theorem ok_order2 {f : Addr} {fd : FuncData} (F : Fun K "_law_order" "_law_order" sOrder2 f fd) (c_law_at : Kal P w K mg base 1 "_law_at" ["draws", "k", "many"] (spAt K)) (mr : mg "range" = none) (mi : mg "int" = none) (mo : mg "sorted" = none) : FnOk P w K mg base CX0 2 f fd ["draws", "first", "count"] (spOrder K) := by
  refine F.ok scOrder2 (fun vs H Q E h => ?_) (fun cdv A outer s H vs Q E hr h => ?_)
  · obtain ⟨d, ds, k, n, rfl, _⟩ := h
    rfl
  · obtain ⟨d, ds, k, n, rfl, hS, hk, hn0, hn40, q⟩ := h
    refine ⟨_, pss_cons (ps_set (i := 3) scOrder2.nd rfl (.inl rfl) (pe_callB cr_sortedP (by rfl) mo (by decide +kernel) (pa_cons (pe_lc (own := [("k", 5)]) (g := gName 5) (tt := tYes) (te := (tTup (tCons (tOp (rI0 fun i j => .int (Builtin.bitAnd i j)) (tOp (rI (fun i j => (-18446744073709551616 < i ∧ i < 18446744073709551616) ∨ (-18446744073709551616 < j ∧ j < 18446744073709551616)) fun i j => .int (i * j)) (tCall (spAt K) [] E0 (tCons (tVar 0) (tCons (tOp (rI0 fun i j => .int (i + j)) (tVar 1) (tOp (rI (fun _ j => 0 < j) fun i j => .int (i % j)) (tCB (fun xs H Q => (∃ i, xs = [V.int i] ∧ Q (V.int i) H) ∨ ∃ k, xs = [V.bl k] ∧ Q (V.int (if k then 1 else 0)) H) (tCons (tVar 5) tNil)) (tC (.int 9)))) (tCons (tC (.int 65536)) tNil)))) (tOp (rI0 fun i j => .int (i + j)) (tVar 5) (tC (.int 1)))) (tC (.int 1023))) (tCons (tVar 5) tNil)))) (by rfl) scOrder2.nd (pi_range1 (by rfl) mr (pa_cons (pv 2) pa_nil)) (blkOk_by (own := [("k", 5)]) (N := ["draws", "first", "count", "rows", "key", "k"]) (sc := defScope sOrder2) (by decide +kernel)) (fun _ _ _ _ _ => pg_name (i := 5) scOrder2.nd rfl (Or.inl rfl)) (fun _ _ _ _ _ => by exact pts_nil) (fun _ _ _ _ _ => by exact (pe_tup (pa_cons (pe_op op_and (pe_op op_mul (pe_k c_law_at hr (by first | decide | omega) (by rfl) (pa_cons (pv 0) (pa_cons (pe_op op_add (pv 1) (pe_op op_mod (pe_callTy call_int1 (by rfl) mi (by decide +kernel) (pa_cons (pv 5) pa_nil)) pe_int)) (pa_cons pe_int pa_nil)))) (pe_op op_add (pv 5) pe_int)) pe_int) (pa_cons (pv 5) pa_nil))))) pa_nil)))
      (pss_one (ps_ret (pe_lc (own := [("key", 4), ("k", 5)]) (g := gTup K 2 (gCons (gName 4) (gCons (gName 5) (gNil)))) (tt := tYes) (te := (tVar 5)) (by rfl) scOrder2.nd (pi_list (pv 3)) (blkOk_by (own := [("key", 4), ("k", 5)]) (N := ["draws", "first", "count", "rows", "key", "k"]) (sc := defScope sOrder2) (by decide +kernel)) (fun _ _ _ _ _ => pg_tup rfl (pgs_cons (pg_name (i := 4) scOrder2.nd rfl (Or.inl rfl)) (pgs_cons (pg_name (i := 5) scOrder2.nd rfl (Or.inl rfl)) pgs_nil))) (fun _ _ _ _ _ => by exact pts_nil) (fun _ _ _ _ _ => by exact (pv 5))))), ?_⟩
    refine q_asgE ?_
    refine ⟨.int n, rfl, n, rfl, by omega, by omega, fun D nD => lc_range (lo := 0) (n := n.toNat) (fun i H' => ∃ zs : List V, H' D = some (.lst zs) ∧ Same H (but H' D) ∧ zs.length = i ∧ ∀ j x, zs[j]? = some x → ∃ t key, x = .ref t ∧ but H' D t = some (.tup [.int key, .int (j : Nat)])) ⟨[], upd_same, same_but (same_upd nD) nD, rfl, fun j x e => by simp at e⟩ (fun i H2 hi hP => ?_) (fun H2 hP => ?_)⟩
    · obtain ⟨zs, hD, s2, hz, hA⟩ := hP
      have sH := s2.trans but_same
      rw [Int.zero_add]
      refine ⟨rfl, iteT (B := ∃ zs : List V, H2 D = some (.lst zs) ∧ Same H (but H2 D) ∧ zs.length = i + 1 ∧ ∀ (j : Nat) x, zs[j]? = some x → ∃ t key, x = .ref t ∧ but H2 D t = some (.tup [.int key, .int (j : Nat)])) ?_⟩
      refine ⟨.ref d, rfl, ?_⟩
      refine (vl_I0 (vl_var rfl) (vl_I (vl_int1 (vl_var rfl)) vl_c (by decide))) _ ⟨d, ds, k + (i : Int) % 9, 65536, rfl, sH.seq hS, by omega, by decide, fun r hr => ?_⟩
      refine ⟨.int i, rfl, (i : Int), 1, rfl, rfl, r, (i : Int) + 1, rfl, rfl, .inl ⟨by omega, by omega⟩, _, _, rfl, rfl, .int i, rfl, by show 2 ≤ sizeLine; decide, fun T nT => ?_⟩
      dsimp only
      generalize Builtin.bitAnd (r * ((i : Int) + 1)) 1023 = key
      have DT : D ≠ T := ne_of_none hD nT
      have sT : Same H2 (upd H2 T (.tup [.int key, .int i])) := same_upd nT
      refine ⟨zs, sT _ _ hD, ?_, zs ++ [.ref T], upd_same, ?_, ?_, fun j x hj => ?_⟩
      · exact Nat.lt_of_le_of_lt (m := 10000) (by omega) (by decide)
      · rw [but_upd]
        exact s2.trans (but_mono sT)
      · rw [List.length_append, hz]
        rfl
      · rw [but_upd]
        by_cases hji : j < zs.length
        · rw [List.getElem?_append_left hji] at hj
          obtain ⟨t, key', h1, h2⟩ := hA j x hj
          exact ⟨t, key', h1, but_mono sT _ _ h2⟩
        · rw [List.getElem?_append_right (by omega)] at hj
          have e0 : j - zs.length = 0 := by
            have := (List.getElem?_eq_some_iff.mp hj).1
            simp at this
            omega
          rw [e0] at hj
          cases Option.some.inj hj
          refine ⟨T, key, rfl, ?_⟩
          rw [but_ne DT.symm, upd_same, show j = i by omega]
    · obtain ⟨zs, hD, s2, hz, hA⟩ := hP
      have sH := s2.trans but_same
      refine ⟨D, zs, rfl, .of hD, fun x hx => ?_, fun ys p hp np => ?_⟩
      · obtain ⟨j, hj, e⟩ := List.getElem_of_mem hx
        obtain ⟨t, key, h1, h2⟩ := hA j x (by rw [List.getElem?_eq_getElem hj, e])
        exact ⟨t, key, (j : Nat), h1, but_same _ _ h2⟩
      · have sp : Same H2 (upd H2 p (.lst ys)) := same_upd np
        have perm : OrdOk n (ys.map (sndOf H2)) := by
          unfold OrdOk
          refine (hp.map _).trans ?_
          have e : zs.map (sndOf H2) = rng n := by
            refine List.ext_getElem? fun j => ?_
            rw [List.getElem?_map]
            cases hj : zs[j]? with
            | none =>
              have := List.getElem?_eq_none_iff.mp hj
              rw [List.getElem?_eq_none (by rw [len_rng]; omega)]
              rfl
            | some x =>
              have hjl := (List.getElem?_eq_some_iff.mp hj).1
              obtain ⟨t, key, h1, h2⟩ := hA j x hj
              subst h1
              have e2 : sndOf H2 (.ref t) = (j : Int) := sndOf_eq (but_same _ _ h2)
              rw [List.getElem?_eq_getElem (by rw [len_rng]; omega), rng_get]
              show some (sndOf H2 (.ref t)) = _
              rw [e2]
          rw [e]
        have all : ∀ x ∈ ys, ∃ t key, x = .ref t ∧ H2 t = some (.tup [.int key, .int (sndOf H2 x)]) := fun x hx => by
          obtain ⟨j, hj, e⟩ := List.getElem_of_mem (hp.mem_iff.mp hx)
          obtain ⟨t, key, h1, h2⟩ := hA j x (by rw [List.getElem?_eq_getElem hj, e])
          subst h1
          have h3 := but_same _ _ h2
          refine ⟨t, key, rfl, ?_⟩
          rw [sndOf_eq h3]
          exact h3
        refine ⟨.ref p, rfl, p, rfl, ⟨_, .of upd_same⟩, fun D2 nD2 => lc_list (K := K) (a := p) (xs := ys) (fun i H' => H' D2 = some (.lst (((ys.take i).map (sndOf H2)).map V.int)) ∧ Same (upd H2 p (.lst ys)) H') ⟨upd_same, same_upd nD2⟩ (fun i H' _ hP => .of (hP.2 _ _ upd_same)) (fun i x H' hi hP => ?_) (fun H' hP => ?_)⟩
        · obtain ⟨hD2, s'⟩ := hP
          obtain ⟨t, key, h1, h2⟩ := all x (List.mem_of_getElem? hi)
          have hil := (List.getElem?_eq_some_iff.mp hi).1
          have yl : ys.length ≤ 40 := by
            rw [hp.length_eq]
            omega
          refine ⟨t, _, h1, .of ((sp.trans s') _ _ h2), rfl, _, _, rfl, _, _, rfl, rfl, rfl, iteT (B := H' D2 = some (.lst (((ys.take (i + 1)).map (sndOf H2)).map V.int)) ∧ Same (upd H2 p (.lst ys)) H') ⟨_, rfl, _, hD2, ?_, ?_, same_upd' s' nD2⟩⟩
          · rw [List.length_map, List.length_map, List.length_take]
            exact Nat.lt_of_le_of_lt (m := 10000) (by omega) (by decide)
          · rw [upd_same, take_snoc hi, List.map_append, List.map_append]
            rfl
        · obtain ⟨hD2, s'⟩ := hP
          rw [List.take_length] at hD2
          exact q H' D2 _ ((sH.trans sp).trans s') (Same.free (sH.trans sp) nD2) hD2 perm
end
/-! ### a list of lists that are changed -/
structure NearL (G H : Hp) (o : Addr) (n : Nat) (refs : List V) (near : Int → List Int) : Prop where
  ho : H o = some (.lst refs)
  len : refs.length = n
  row : ∀ k : Nat, k < n → ∃ a, refs[k]? = some (.ref a) ∧ G a = none ∧ a ≠ o ∧ H a = some (.lst ((near k).map V.int))
  inj : ∀ (i j : Nat) (a : Addr), refs[i]? = some (.ref a) → refs[j]? = some (.ref a) → i = j
section
variable {G H H' : Hp} {o : Addr} {n : Nat} {refs : List V} {near : Int → List Int}
theorem NearL.to (h : NearL G H o n refs near) (s : Same H H') : NearL G H' o n refs near := ⟨s _ _ h.ho, h.len, fun k hk => let ⟨a, h1, h2, h3, h4⟩ := h.row k hk; ⟨a, h1, h2, h3, s _ _ h4⟩, h.inj⟩
theorem NearL.app (h : NearL G H o n refs near) {k : Nat} {a : Addr} {b : Int} (ha : refs[k]? = some (.ref a)) (hk : k < n) (hH : H a = some (.lst ((near k).map V.int))) : NearL G (upd H a (.lst ((near k).map V.int ++ [.int b]))) o n refs (fun x => if x = (k : Int) then near k ++ [b] else near x) := by
  obtain ⟨a', h1, h2, h3, h4⟩ := h.row k hk
  cases Option.some.inj (ha.symm.trans h1)
  refine ⟨by rw [upd_ne h3.symm]; exact h.ho, h.len, fun j hj => ?_, h.inj⟩
  obtain ⟨c, c1, c2, c3, c4⟩ := h.row j hj
  refine ⟨c, c1, c2, c3, ?_⟩
  by_cases e : j = k
  · subst e
    cases Option.some.inj (c1.symm.trans ha)
    rw [upd_same, if_pos rfl, List.map_append]
    rfl
  · have ne : c ≠ a := fun z => by
      subst z
      exact e (h.inj _ _ _ c1 ha)
    rw [upd_ne ne, if_neg (fun z => e (by omega))]
    exact c4
theorem NearL.put (h : NearL G H o n refs near) {k : Nat} {b : Addr} {ns : List Int} (s : Same H H') (hk : k < n) (nb : H b = none) (eb : H' b = some (.lst (ns.map V.int))) (nG : G b = none) : NearL G (upd H' o (.lst (refs.set k (.ref b)))) o n (refs.set k (.ref b)) (fun x => if x = (k : Int) then ns else near x) := by
  have bo : b ≠ o := (ne_of_none h.ho nb).symm
  have old : ∀ (j : Nat) (a : Addr), refs[j]? = some (.ref a) → j < n → a ≠ b := fun j a e hj z => by
    obtain ⟨c, c1, _, _, c4⟩ := h.row j hj
    cases Option.some.inj (e.symm.trans c1)
    rw [z, nb] at c4
    cases c4
  refine ⟨upd_same, by rw [List.length_set]; exact h.len, fun j hj => ?_, fun i j a e1 e2 => ?_⟩
  · by_cases e : j = k
    · subst e
      refine ⟨b, List.getElem?_set_self (by rw [h.len]; exact hk), nG, bo, ?_⟩
      rw [upd_ne bo, if_pos rfl]
      exact eb
    · obtain ⟨c, c1, c2, c3, c4⟩ := h.row j hj
      refine ⟨c, by rw [List.getElem?_set_ne (fun z => e z.symm)]; exact c1, c2, c3, ?_⟩
      rw [upd_ne c3, if_neg (fun z => e (by omega))]
      exact s _ _ c4
  · have il : ∀ {m : Nat}, (refs.set k (.ref b))[m]? = some (.ref a) → m < n := fun {m} e => by
      have := (List.getElem?_eq_some_iff.mp e).1
      rw [List.length_set, h.len] at this
      exact this
    by_cases ei : i = k
    · subst ei
      rw [List.getElem?_set_self (by rw [h.len]; exact hk)] at e1
      cases Option.some.inj e1
      by_cases ej : j = i
      · exact ej.symm
      · have := il e2
        rw [List.getElem?_set_ne (fun z => ej z.symm)] at e2
        exact absurd rfl (old j b e2 this)
    · have hi := il e1
      rw [List.getElem?_set_ne (fun z => ei z.symm)] at e1
      by_cases ej : j = k
      · subst ej
        rw [List.getElem?_set_self (by rw [h.len]; exact hk)] at e2
        cases Option.some.inj e2
        exact absurd rfl (old i b e1 hi)
      · rw [List.getElem?_set_ne (fun z => ej z.symm)] at e2
        exact h.inj _ _ _ e1 e2
theorem NearL.congr {near' : Int → List Int} (h : NearL G H o n refs near) (e : ∀ k : Nat, k < n → near k = near' k) : NearL G H o n refs near' := ⟨h.ho, h.len, fun k hk => let ⟨a, h1, h2, h3, h4⟩ := h.row k hk; ⟨a, h1, h2, h3, by rw [← e k hk]; exact h4⟩, h.inj⟩
end
/-! ### pairs by taking places out -/
def NearI (N : Net) (os : List Int) (i : Nat) (near : Int → List Int) : Prop := ∀ x y, x ∈ os → y ∈ os → i ≤ posOf x os → i ≤ posOf y os → (y ∈ near x ↔ x ≠ y ∧ (adj0 N.ls x y = true ∨ ∃ w, posOf w os < i ∧ PairP N.ls os w x ∧ PairP N.ls os w y))
section
variable {N : Net} {os : List Int} {i : Nat} {near : Int → List Int} {u : Int}
theorem near_up (ok : NetOk N) (oo : OrdOk N.n os) (h : NearI N os i near) (hu : os[i]? = some u) {x : Int} (hx : x ∈ os) (lt : i < posOf x os) : x ∈ near u ↔ PairP N.ls os u x := by
  have hp := posOf_get oo.nodup hu
  rw [h u x (List.mem_of_getElem? hu) hx (by omega) (by omega), pair_rec ok oo]
  constructor
  · rintro ⟨_, h1 | ⟨w, _, h2, h3⟩⟩
    · exact ⟨by omega, .inl h1⟩
    · exact ⟨by omega, .inr ⟨w, h2, h3⟩⟩
  · rintro ⟨_, h1 | ⟨w, h2, h3⟩⟩
    · exact ⟨fun z => by rw [z] at hp; omega, .inl h1⟩
    · have := h2.1
      exact ⟨fun z => by rw [z] at hp; omega, .inr ⟨w, by omega, h2, h3⟩⟩
open Classical in
theorem ups_eq (ok : NetOk N) (oo : OrdOk N.n os) (h : NearI N os i near) (hu : os[i]? = some u) : (os.drop (i + 1)).filter (fun x => decide (x ∈ near u)) = upP N.ls os u := by
  have hp := posOf_get oo.nodup hu
  unfold upP
  have e := List.take_append_drop (i + 1) os
  have e2 : os.filter (fun v => decide (PairP N.ls os u v)) = (os.take (i + 1)).filter (fun v => decide (PairP N.ls os u v)) ++ (os.drop (i + 1)).filter (fun v => decide (PairP N.ls os u v)) := by
    rw [← List.filter_append, e]
  have e3 : (os.take (i + 1)).filter (fun v => decide (PairP N.ls os u v)) = [] := by
    rw [List.filter_eq_nil_iff]
    intro x hx
    rw [decide_eq_true_eq]
    intro p
    obtain ⟨j, hj, ej⟩ := List.getElem_of_mem hx
    rw [List.length_take] at hj
    have hg : os[j]? = some x := by
      rw [List.getElem?_eq_getElem (by omega), ← ej, List.getElem_take]
    have := posOf_get oo.nodup hg
    have := p.1
    omega
  rw [e2, e3, List.nil_append]
  refine List.filter_congr fun x hx => ?_
  rw [Bool.eq_iff_iff, decide_eq_true_eq, decide_eq_true_eq]
  obtain ⟨j, hj, ej⟩ := List.getElem_of_mem hx
  rw [List.length_drop] at hj
  have hg : os[i + 1 + j]? = some x := by
    rw [List.getElem?_eq_getElem (by omega), ← ej, List.getElem_drop]
  have := posOf_get oo.nodup hg
  exact near_up ok oo h hu (List.mem_of_getElem? hg) (by omega)
def nearUp (near : Int → List Int) (ups : List Int) (x : Int) : List Int := near x ++ ups.filter fun w => !decide (w = x) && !decide (w ∈ near x)
theorem near_step (ok : NetOk N) (oo : OrdOk N.n os) (h : NearI N os i near) (hu : os[i]? = some u) : NearI N os (i + 1) (fun x => if x ∈ upP N.ls os u then nearUp near (upP N.ls os u) x else near x) := fun x y hx hy h1 h2 => by
  have hp := posOf_get oo.nodup hu
  have hI := h x y hx hy (by omega) (by omega)
  have key : (∃ w, posOf w os < i + 1 ∧ PairP N.ls os w x ∧ PairP N.ls os w y) ↔ (∃ w, posOf w os < i ∧ PairP N.ls os w x ∧ PairP N.ls os w y) ∨ (PairP N.ls os u x ∧ PairP N.ls os u y) := by
    constructor
    · rintro ⟨w, hw, p1, p2⟩
      by_cases e : posOf w os = i
      · have : w = u := pos_inj (oo.mem.mpr (p1.ins ok).1) (List.mem_of_getElem? hu) (by omega)
        subst this
        exact .inr ⟨p1, p2⟩
      · exact .inl ⟨w, by omega, p1, p2⟩
    · rintro (⟨w, hw, p⟩ | p)
      · exact ⟨w, by omega, p⟩
      · exact ⟨u, by omega, p⟩
  rw [key]
  show y ∈ (if x ∈ upP N.ls os u then nearUp near (upP N.ls os u) x else near x) ↔ _
  by_cases c : x ∈ upP N.ls os u
  · rw [if_pos c]
    unfold nearUp
    rw [List.mem_append, List.mem_filter, Bool.and_eq_true, Bool.not_eq_true', Bool.not_eq_true', decide_eq_false_iff_not, decide_eq_false_iff_not, mem_upP ok oo, hI]
    have cx := (mem_upP ok oo).mp c
    constructor
    · rintro (⟨h1, h2 | h2⟩ | ⟨h1, h2, _⟩)
      · exact ⟨h1, .inl h2⟩
      · exact ⟨h1, .inr (.inl h2)⟩
      · exact ⟨fun z => h2 z.symm, .inr (.inr ⟨cx, h1⟩)⟩
    · rintro ⟨h1, h2 | h2 | h2⟩
      · exact .inl ⟨h1, .inl h2⟩
      · exact .inl ⟨h1, .inr h2⟩
      · by_cases d : adj0 N.ls x y = true ∨ ∃ w, posOf w os < i ∧ PairP N.ls os w x ∧ PairP N.ls os w y
        · exact .inl ⟨h1, d⟩
        · exact .inr ⟨h2.2, fun z => h1 z.symm, fun z => d z.2⟩
  · rw [if_neg c, hI]
    have cx : ¬ PairP N.ls os u x := fun p => c ((mem_upP ok oo).mpr p)
    constructor
    · rintro ⟨h1, h2 | h2⟩
      · exact ⟨h1, .inl h2⟩
      · exact ⟨h1, .inr (.inl h2)⟩
    · rintro ⟨h1, h2 | h2 | h2⟩
      · exact ⟨h1, .inl h2⟩
      · exact ⟨h1, .inr h2⟩
      · exact absurd h2.1 cx
end
/-! ### lists of pairs -/
noncomputable def pairsL (ls : List Lnk) (os : List Int) : List (Int × Int) := os.flatMap fun u => (upP ls os u).map fun v => (u, v)
theorem mem_pairsL {N : Net} {os : List Int} (ok : NetOk N) (oo : OrdOk N.n os) {u v : Int} : (u, v) ∈ pairsL N.ls os ↔ PairP N.ls os u v := by
  unfold pairsL
  rw [List.mem_flatMap]
  constructor
  · rintro ⟨x, hx, h⟩
    obtain ⟨y, hy, e⟩ := List.mem_map.mp h
    cases e
    exact (mem_up.mp hy).2
  · intro h
    exact ⟨u, oo.mem.mpr (h.ins ok).1, List.mem_map.mpr ⟨v, (mem_upP ok oo).mpr h, rfl⟩⟩
/-- a list of new tuples of two ints -/
structure TupsAt (H : Hp) (ts : List V) (L : List (Int × Int)) : Prop where
  len : ts.length = L.length
  at_ : ∀ (i : Nat) (u v : Int), L[i]? = some (u, v) → ∃ t, ts[i]? = some (.ref t) ∧ H t = some (.tup [.int u, .int v])
theorem TupsAt.to {H H' : Hp} {ts : List V} {L : List (Int × Int)} (h : TupsAt H ts L) (s : Same H H') : TupsAt H' ts L := ⟨h.len, fun i u v e => let ⟨t, h1, h2⟩ := h.at_ i u v e; ⟨t, h1, s _ _ h2⟩⟩
def pairD2 (x : Int × Int) : PyData := .tuple [.int x.1, .int x.2]
theorem TupsAt.dp {K : PySem.W.Frag} {H : Hp} : ∀ {ts : List V} {L : List (Int × Int)}, TupsAt H ts L → DpAll K H ts (L.map pairD2)
  | [], [], _ => .nil
  | [], _ :: _, h => absurd h.len (by simp)
  | _ :: _, [], h => absurd h.len (by simp)
  | x :: ts, (u, v) :: L, h => by
    obtain ⟨t, h1, h2⟩ := h.at_ 0 u v rfl
    cases Option.some.inj h1
    exact .cons (.tup (.of h2) (.cons (.int u) (.cons (.int v) .nil))) (TupsAt.dp ⟨Nat.succ.inj h.len, fun i a b e => h.at_ (i + 1) a b e⟩)
theorem pairsL_len {N : Net} {os : List Int} (ok : NetOk N) (oo : OrdOk N.n os) : (pairsL N.ls os).length ≤ 1600 := by
  unfold pairsL
  have h : ∀ xs : List Int, (xs.flatMap fun u => (upP N.ls os u).map fun v => (u, v)).length ≤ xs.length * 40 := by
    intro xs
    induction xs with
    | nil => exact Nat.zero_le _
    | cons x r ih =>
      rw [List.flatMap_cons, List.length_append, List.length_map, List.length_cons, Nat.succ_mul]
      have := up_len (u := x) ok oo
      omega
  have := h os
  have := oo.len
  have := ok.n40
  omega
theorem TupsAt.upd {H : Hp} {ts zs : List V} {L : List (Int × Int)} {D : Addr} {u : HO} (h : TupsAt H ts L) (hD : H D = some (.lst zs)) : TupsAt (L2.upd H D u) ts L := ⟨h.len, fun i a b e => by
  obtain ⟨t, h1, h2⟩ := h.at_ i a b e
  refine ⟨t, h1, ?_⟩
  rw [upd_ne (fun z => by
    rw [z, hD] at h2
    cases h2)]
  exact h2⟩
theorem TupsAt.but {H : Hp} {ts zs : List V} {L : List (Int × Int)} {D : Addr} (h : TupsAt H ts L) (hD : H D = some (.lst zs)) : TupsAt (Ovc.but H D) ts L := ⟨h.len, fun i a b e => by
  obtain ⟨t, h1, h2⟩ := h.at_ i a b e
  refine ⟨t, h1, ?_⟩
  rw [but_ne (fun z => by
    rw [z, hD] at h2
    cases h2)]
  exact h2⟩
theorem TupsAt.app {H : Hp} {ts zs : List V} {L M : List (Int × Int)} (h : TupsAt H ts L) (k : TupsAt H zs M) : TupsAt H (ts ++ zs) (L ++ M) := ⟨by
  rw [List.length_append, List.length_append, h.len, k.len], fun i u v e => by
  by_cases hi : i < L.length
  · rw [List.getElem?_append_left hi] at e
    rw [List.getElem?_append_left (by rw [h.len]; exact hi)]
    exact h.at_ i u v e
  · rw [List.getElem?_append_right (by omega)] at e
    rw [List.getElem?_append_right (by rw [h.len]; omega), h.len]
    exact k.at_ _ u v e⟩
theorem TupsAt.nil {H : Hp} : TupsAt H [] [] := ⟨rfl, fun i u v e => by simp at e⟩
theorem TupsAt.one {H : Hp} {t : Addr} {u v : Int} (h : H t = some (.tup [.int u, .int v])) : TupsAt H [.ref t] [(u, v)] := ⟨rfl, fun i a b e => by
  cases i with
  | zero =>
    cases Option.some.inj e
    exact ⟨t, rfl, h⟩
  | succ i => simp at e⟩
section
variable {K : PySem.W.Frag} {σ : L2.St} {H : Hp} {ta tb te tl : TE} {tr : TA} {D : Ends} {tw : TS} {tt : TT} {x y : V}
/-- [e for x in range(n)], e told by f -/
theorem vn_lcRV {j : Nat} {n : Int} {f : Int → V} (hl : Va tr σ H [.int n]) (h0 : 0 ≤ n) (hz : n ≤ 1000000) (he : ∀ x : Int, 0 ≤ x → x < n → ∀ H', Same H H' → Ve te ((σ.set j none).set j (some (.int x))) H' (f x)) :
    Vn (tLc (iRng1 tr) (gName j) tYes te [j]) σ H ((rng n).map f) := fun Q q => by
  refine hl _ ⟨n, rfl, by omega, by omega, fun D nD => lc_range (lo := 0) (n := n.toNat) (fun i H' => H' D = some (.lst (((List.range i).map fun (i : Nat) => (i : Int)).map f)) ∧ Same H H') ⟨upd_same, same_upd nD⟩ (fun i H2 hi hP => ?_) (fun H2 hP => ?_)⟩
  · obtain ⟨hD, s2⟩ := hP
    rw [Int.zero_add]
    refine ⟨?_, iteT (B := H2 D = some (.lst (((List.range (i + 1)).map fun (i : Nat) => (i : Int)).map f)) ∧ Same H H2) (he i (by omega) (by omega) H2 s2 _ fun H3 s3 => ⟨_, s3 _ _ hD, ?_, ?_, same_upd' (s2.trans s3) nD⟩)⟩
    · show ((σ.set j none).set j (some (V.int i))).set j none = σ.set j none
      rw [List.set_set, List.set_set]
    · rw [List.length_map, List.length_map, List.length_range]
      exact Nat.lt_of_le_of_lt (m := 1000000) (by omega) (by decide)
    · rw [upd_same, List.range_succ, List.map_append, List.map_append]
      rfl
  · obtain ⟨hD, s2⟩ := hP
    exact q D H2 s2 nD hD
theorem ax_neV2 (ha : Ve ta σ H x) (hb : ∀ H', Same H H' → Vl tb σ H' y) (hs : scal x y = true) : Ax (tTest (tOp rNe ta tb)) σ H (!decide (x = y)) := fun Q k => ha _ fun H' s' => hb H' s' _ ⟨hs, _, rfl, k H' s'⟩
theorem q_appT2 {l : Addr} {xs : List V} {i j : Int} (ho : Vl ta σ H (.ref l)) (hl : H l = some (.lst xs)) (hz : xs.length < sizeLine) (k : ∀ T H', Same H H' → H T = none → tw D σ (L2.upd H' l (.lst (xs ++ [.ref T])))) :
    tSeq (tDrop (tBM K "list" rAppend ta (tCons (tTup (tCons (tC (.int i)) (tCons (tC (.int j)) tNil))) tNil))) tw D σ H := ho _ ⟨.inl ⟨rfl, _, .inl (.inl hl)⟩, by show 2 ≤ sizeLine; decide, fun T nT => ⟨l, xs, .ref T, rfl, rfl, same_upd nT _ _ hl, hz, k T _ (same_upd nT) nT⟩⟩
/-- [(u, v) for v in xs] -/
theorem vt_lcG {j : Nat} {u : Int} {ns : List Int} {a : Addr} (hu : ∀ x H', Same H H' → Vl ta ((σ.set j none).set j (some x)) H' (.int u)) (hw : ∀ x, ((σ.set j none).set j (some x))[j]? = some (some x)) (hl : Vl tl σ H (.ref a)) (hx : SqL K H a (ns.map V.int)) (hz : ns.length ≤ 10000) (Q : VK)
    (q : ∀ D H' zs, Same H H' → H D = none → H' D = some (.lst zs) → TupsAt H' zs (ns.map fun v => (u, v)) → Q (.ref D) H') : tLc (iList K tl) (gName j) tYes (tTup (tCons ta (tCons (tVar j) tNil))) [j] σ H Q := by
  refine hl _ ⟨a, rfl, ⟨_, hx⟩, fun D nD => lc_list (K := K) (a := a) (xs := ns.map V.int) (fun k H' => ∃ zs, H' D = some (.lst zs) ∧ Same H H' ∧ TupsAt H' zs ((ns.take k).map fun v => (u, v))) ⟨[], upd_same, same_upd nD, TupsAt.nil⟩ (fun k H' _ hP => hP.choose_spec.2.1.seq hx) (fun k x H' hk hP => ?_) (fun H' hP => ?_)⟩
  · obtain ⟨zs, hD, s', hT⟩ := hP
    rw [List.getElem?_map] at hk
    cases hg : ns[k]? with
    | none =>
      rw [hg] at hk
      cases hk
    | some v =>
      rw [hg] at hk
      cases hk
      refine ⟨?_, iteT (B := ∃ zs, H' D = some (.lst zs) ∧ Same H H' ∧ TupsAt H' zs ((ns.take (k + 1)).map fun v => (u, v))) ((hu _ H' s') _ ⟨_, hw _, by show 2 ≤ sizeLine; decide, fun T nT => ⟨zs, same_upd nT _ _ hD, ?_, zs ++ [.ref T], upd_same, same_upd' (s'.trans (same_upd nT)) nD, ?_⟩⟩)⟩
      · show ((σ.set j none).set j (some (V.int v))).set j none = σ.set j none
        rw [List.set_set, List.set_set]
      · rw [hT.len, List.length_map, List.length_take]
        exact Nat.lt_of_le_of_lt (m := 10000) (by omega) (by decide)
      · rw [take_snoc hg, List.map_append]
        exact ((hT.to (same_upd nT)).app (TupsAt.one upd_same)).upd (same_upd nT _ _ hD)
  · obtain ⟨zs, hD, s', hT⟩ := hP
    rw [List.length_map, List.take_length] at hT
    exact q D H' zs s' nD hD hT
/-- [order[j] for j in range(lo, len(order)) if ..] -/
theorem vn_lcIx {j lo : Nat} {os : List Int} {pb : Int → Bool} (hl : Va tr σ H [.int (lo : Nat), .int (os.length : Nat)]) (hlo : lo ≤ os.length) (hz : os.length ≤ 1000) (ht : ∀ (k : Nat) x, os[k]? = some x → ∀ H', Same H H' → An tt ((σ.set j none).set j (some (.int (k : Nat)))) H' (pb x))
    (he : ∀ (k : Nat) x, os[k]? = some x → ∀ H', Same H H' → Vl te ((σ.set j none).set j (some (.int (k : Nat)))) H' (.int x)) : Vn (tLc (iRng2 tr) (gName j) tt te [j]) σ H (((os.drop lo).filter pb).map V.int) := fun Q q => by
  refine hl _ ⟨(lo : Nat), (os.length : Nat), rfl, ⟨by omega, by omega, by omega, by omega⟩, fun D nD => lc_range (lo := (lo : Nat)) (n := ((os.length : Int) - (lo : Int)).toNat) (fun i H' => H' D = some (.lst ((((os.drop lo).take i).filter pb).map V.int)) ∧ Same H H') ⟨upd_same, same_upd nD⟩ (fun i H2 hi hP => ?_) (fun H2 hP => ?_)⟩
  · obtain ⟨hD, s2⟩ := hP
    have hil : lo + i < os.length := by omega
    have hg : os[lo + i]? = some os[lo + i] := List.getElem?_eq_getElem hil
    have hg2 : (os.drop lo)[i]? = some os[lo + i] := by
      rw [List.getElem?_drop]
      exact hg
    generalize os[lo + i] = n at hg hg2
    have e : ((os.drop lo).take (i + 1)).filter pb = ((os.drop lo).take i).filter pb ++ [n].filter pb := by
      rw [take_snoc hg2]
      exact List.filter_append ..
    have ek : ((lo : Nat) : Int) + (i : Int) = ((lo + i : Nat) : Int) := by omega
    rw [ek]
    refine ⟨?_, ht _ n hg H2 s2 _ ?_⟩
    · show ((σ.set j none).set j (some (V.int ((lo + i : Nat) : Int)))).set j none = σ.set j none
      rw [List.set_set, List.set_set]
    · cases hp : pb n with
      | true =>
        have e2 : [n].filter pb = [n] := by
          rw [List.filter_cons, hp]
          rfl
        refine iteT (B := H2 D = some (.lst ((((os.drop lo).take (i + 1)).filter pb).map V.int)) ∧ Same H H2) (he _ n hg H2 s2 _ ⟨_, hD, ?_, ?_, same_upd' s2 nD⟩)
        · rw [List.length_map]
          have h1 : (((os.drop lo).take i).filter pb).length ≤ os.length := Nat.le_trans (List.length_filter_le _ _) (by rw [List.length_take, List.length_drop]; omega)
          exact Nat.lt_of_le_of_lt (m := 10000) (by omega) (by decide)
        · rw [upd_same, e, e2, List.map_append]
          rfl
      | false =>
        have e2 : [n].filter pb = [] := by
          rw [List.filter_cons, hp]
          rfl
        refine iteF ⟨?_, s2⟩
        rw [e, e2, List.append_nil]
        exact hD
  · obtain ⟨hD, s2⟩ := hP
    rw [List.take_of_length_le (by rw [List.length_drop]; omega)] at hD
    exact q D H2 s2 nD hD
end
def spLPairs (K : PySem.W.Frag) : Sp := fun vs H Q _ => ∃ (v : V) (N : Net) (p : Addr) (os : List Int), vs = [v, .ref p] ∧ Dp K H v (netD N) ∧ NetOk N ∧ SqL K H p (os.map V.int) ∧ OrdOk N.n os ∧ ∀ H' q ts, Same H H' → H q = none → H' q = some (.lst ts) → TupsAt H' ts (pairsL N.ls os) → Q (.ref q) H'
theorem adj_take2 {ls : List Lnk} {i : Nat} {l : Lnk} (h : ls[i]? = some l) {x y : Int} : adj0 (ls.take (i + 1)) x y = true ↔ adj0 (ls.take i) x y = true ∨ (l.a = x ∧ l.b = y) ∨ (l.a = y ∧ l.b = x) := by
  rw [take_snoc h, adj0_iff, adj0_iff]
  constructor
  · rintro ⟨m, hm, e⟩
    rcases List.mem_append.mp hm with hm | hm
    · exact .inl ⟨m, hm, e⟩
    · rw [List.mem_singleton.mp hm] at e
      exact .inr e
  · rintro (⟨m, hm, e⟩ | e)
    · exact ⟨m, List.mem_append.mpr (.inl hm), e⟩
    · exact ⟨l, List.mem_append.mpr (.inr (List.mem_singleton.mpr rfl)), e⟩
section
variable {P : Program} {w : World} {K : PySem.W.Frag} {mg : Str → Option Value} {base : Heap}
end
theorem room65 {k : Nat} {A : Around} (r : Room k A) : A.units + 65 < cLine := by
  have := r.un
  omega
/-! ### the price of a link, the places lower than both -/
def linkW : List Lnk → Int → Int → Option Int
  | [], _, _ => none
  | l :: r, x, y => if l.a = x ∧ l.b = y then l.t else if l.b = x ∧ l.a = y then l.k else linkW r x y
def spLLink (K : PySem.W.Frag) : Sp := fun vs H Q _ => ∃ (v : V) (N : Net) (x y : Int), vs = [v, .int x, .int y] ∧ Dp K H v (netD N) ∧ ∀ H', Same H H' → Q (oV (linkW N.ls x y)) H'
section
variable {P : Program} {w : World} {K : PySem.W.Frag} {mg : Str → Option Value} {base : Heap}
end
section
variable {K : PySem.W.Frag} {σ : L2.St} {H : Hp} {ta tb te tl : TE} {tt : TT} {v : V}
/-- [f x for x in xs if ..], the test makes objects on its way -/
theorem vn_lcIX {j : Nat} {ns : List Int} {pb : Int → Bool} {f : Int → V} (hl : ∀ Q : VK, (∀ a H1, Same H H1 → SqL K H1 a (ns.map V.int) → Q (.ref a) H1) → tl σ H Q) (hz : ns.length ≤ 1000000)
    (ht : ∀ x ∈ ns, ∀ H', Same H H' → Ax tt ((σ.set j none).set j (some (.int x))) H' (pb x)) (he : ∀ x ∈ ns, ∀ H', Same H H' → Vl te ((σ.set j none).set j (some (.int x))) H' (f x)) :
    Vn (tLc (iList K tl) (gName j) tt te [j]) σ H ((ns.filter pb).map f) := fun Q q => by
  refine hl _ fun a H1 s1 hx => ⟨a, rfl, ⟨_, hx⟩, fun D nD => lc_list (xs := ns.map V.int) (fun i H' => H' D = some (.lst (((ns.take i).filter pb).map f)) ∧ Same H1 H') ⟨upd_same, same_upd nD⟩ (fun i H' _ hP => hP.2.seq hx) (fun i x H2 hi hP => ?_) (fun H2 hP => ?_)⟩
  · obtain ⟨hD, s2⟩ := hP
    rw [List.getElem?_map] at hi
    cases hg : ns[i]? with
    | none =>
      rw [hg] at hi
      cases hi
    | some n =>
      rw [hg] at hi
      cases hi
      have hm := List.mem_of_getElem? hg
      have e : (ns.take (i + 1)).filter pb = (ns.take i).filter pb ++ [n].filter pb := by
        rw [take_snoc hg]
        exact List.filter_append ..
      refine ⟨?_, ht n hm H2 (s1.trans s2) _ fun H3 s3 => ?_⟩
      · show ((σ.set j none).set j (some (V.int n))).set j none = σ.set j none
        rw [List.set_set, List.set_set]
      · cases hp : pb n with
        | true =>
          have e2 : [n].filter pb = [n] := by
            rw [List.filter_cons, hp]
            rfl
          refine iteT (B := H3 D = some (.lst (((ns.take (i + 1)).filter pb).map f)) ∧ Same H1 H3) (he n hm H3 ((s1.trans s2).trans s3) _ ⟨_, s3 _ _ hD, ?_, ?_, same_upd' (s2.trans s3) nD⟩)
          · rw [List.length_map]
            have h1 : ((ns.take i).filter pb).length ≤ ns.length := Nat.le_trans (List.length_filter_le _ _) (by rw [List.length_take]; exact Nat.min_le_right _ _)
            exact Nat.lt_of_le_of_lt (m := 1000000) (by omega) (by decide)
          · rw [upd_same, e, e2, List.map_append]
            rfl
        | false =>
          have e2 : [n].filter pb = [] := by
            rw [List.filter_cons, hp]
            rfl
          refine iteF ⟨?_, s2.trans s3⟩
          rw [e, e2, List.append_nil]
          exact s3 _ _ hD
  · obtain ⟨hD, s2⟩ := hP
    rw [show ns.take (ns.map V.int).length = ns by rw [List.length_map, List.take_length]] at hD
    exact q D H2 (s1.trans s2) (Same.free s1 nD) hD
theorem lay_pairs : ∀ L : List (Int × Int), PyData.canLayAll0 (L.map pairD2) = true ∧ PyData.depthAll (L.map pairD2) ≤ 1
  | [] => ⟨rfl, Nat.zero_le _⟩
  | x :: L => by
    have ih := lay_pairs L
    constructor
    · show ((true && (true && true)) && PyData.canLayAll0 (L.map pairD2)) = true
      rw [ih.1]
      rfl
    · show max (max 0 (max 0 0) + 1) (PyData.depthAll (L.map pairD2)) ≤ 1
      have := ih.2
      simp only [Nat.max_self, Nat.zero_add]
      omega
theorem shaped_pairs (L : List (Int × Int)) : SeqAt.shaped (.list (L.map pairD2)) = true := by
  have h := lay_pairs L
  show (PyData.canLayAll0 (L.map pairD2) && decide (PyData.depthAll (L.map pairD2) + 1 ≤ 64)) = true
  rw [h.1, decide_eq_true (show PyData.depthAll (L.map pairD2) + 1 ≤ 64 by
    have := h.2
    omega)]
  rfl
theorem any_pairs (L : List (Int × Int)) (p q : Int) : ((L.map pairD2).any fun z => PyData.eqv z (.tuple [.int p, .int q])) = decide ((p, q) ∈ L) := by
  rw [Bool.eq_iff_iff, List.any_eq_true, decide_eq_true_eq]
  have e : ∀ x : Int × Int, PyData.eqv (pairD2 x) (.tuple [.int p, .int q]) = decide (x = (p, q)) := fun x => by
    obtain ⟨a, b⟩ := x
    show (a == p && (b == q && true)) = _
    rw [Bool.and_true, Bool.eq_iff_iff]
    simp
  constructor
  · rintro ⟨z, hz, hq⟩
    obtain ⟨x, hx, rfl⟩ := List.mem_map.mp hz
    rw [e, decide_eq_true_eq] at hq
    rw [← hq]
    exact hx
  · intro h
    refine ⟨_, List.mem_map_of_mem h, ?_⟩
    rw [e, decide_eq_true rfl]
theorem ax_inP {p q : Int} {f : V} {L : List (Int × Int)} {tf : TE} (ha : ∀ H', Same H H' → Vl ta σ H' (.int p)) (hb : ∀ H', Same H H' → Vl tb σ H' (.int q)) (hf : ∀ H', Same H H' → Vl tf σ H' f) (hd : Dp K H f (.list (L.map pairD2))) :
    Ax (tTest (tOp (rInD K) (tTup (tCons ta (tCons tb tNil))) tf)) σ H (decide ((p, q) ∈ L)) := fun Q k =>
  ha H (Same.refl H) _ (hb H (Same.refl H) _ ⟨by show 2 ≤ sizeLine; decide, fun T nT => by
    have s1 : Same H (upd H T (.tup [.int p, .int q])) := same_upd nT
    refine hf _ s1 _ ⟨.tuple [.int p, .int q], L.map pairD2, .tup (.of upd_same) (.cons (.int _) (.cons (.int _) .nil)), Dp.to hd s1, by rfl, shaped_pairs L, _, rfl, ?_⟩
    rw [any_pairs]
    exact k _ s1⟩)
end
def lowerL (L : List (Int × Int)) (os : List Int) (u v : Int) : List Int := os.filter fun w => decide ((w, u) ∈ L) && decide ((w, v) ∈ L)
def spLower (K : PySem.W.Frag) : Sp := fun vs H Q _ => ∃ (f : V) (L : List (Int × Int)) (o : Addr) (os : List Int) (u v : Int), vs = [f, .ref o, .int u, .int v] ∧ Dp K H f (.list (L.map pairD2)) ∧ SqL K H o (os.map V.int) ∧ os.length ≤ 1000 ∧
  ∀ p H', Same H H' → H p = none → H' p = some (.lst ((lowerL L os u v).map V.int)) → Q (.ref p) H'
section
variable {P : Program} {w : World} {K : PySem.W.Frag} {mg : Str → Option Value} {base : Heap}
end
/-! ### the dict of the ways of links -/
def lkS (x y : Int) (f : Option V) (l : Lnk) : Option V := if x = l.b ∧ y = l.a then some (oV l.k) else if x = l.a ∧ y = l.b then some (oV l.t) else f
def lkv (ls : List Lnk) (x y : Int) : Option V := ls.foldl (lkS x y) none
theorem lkv_snoc {ls : List Lnk} {l : Lnk} {x y : Int} : lkv (ls ++ [l]) x y = lkS x y (lkv ls x y) l := by
  unfold lkv
  rw [List.foldl_append]
  rfl
theorem key2 {x y a b : Int} : (([Sum.inl x, Sum.inl y] : List L2.Key) = [Sum.inl a, Sum.inl b]) ↔ (x = a ∧ y = b) := by
  constructor
  · intro e
    injection e with e1 e2
    injection e2 with e2 _
    exact ⟨Sum.inl.inj e1, Sum.inl.inj e2⟩
  · rintro ⟨rfl, rfl⟩
    rfl
structure LinksAt (H : Hp) (d : Addr) (ls : List Lnk) : Prop where
  ex : ∃ kvs : List (List L2.Key × V), H d = some (.dT kvs) ∧ kvs.length ≤ 2 * ls.length ∧ ∀ x y : Int, valV kvs [Sum.inl x, Sum.inl y] = lkv ls x y
theorem LinksAt.to {H H' : Hp} {d : Addr} {ls : List Lnk} (h : LinksAt H d ls) (s : Same H H') : LinksAt H' d ls := by
  obtain ⟨kvs, e, l, v⟩ := h.ex
  exact ⟨kvs, s _ _ e, l, v⟩
theorem put_len {kvs : List (List L2.Key × V)} {k : List L2.Key} {v : V} : (putK kvs k v).length ≤ kvs.length + 1 := by
  unfold putK
  split
  · rw [List.length_map]
    omega
  · rw [List.length_append]
    exact Nat.le_refl _
def spLinkWays (K : PySem.W.Frag) : Sp := fun vs H Q _ => ∃ (v : V) (N : Net), vs = [v] ∧ Dp K H v (netD N) ∧ N.ls.length ≤ 1700 ∧ ∀ H' d, Same H H' → H d = none → LinksAt H' d N.ls → Q (.ref d) H'
theorem q_dputK {σ : L2.St} {H : Hp} {td ta tb te : TE} {D : Ends} {tw : TS} {v : V} {o : Addr} {kvs : List (List L2.Key × V)} {y1 y2 : Int} (hv : Vl te σ H v) (ho : Vl td σ H (.ref o)) (h1 : Vl ta σ H (.int y1)) (h2 : Vl tb σ H (.int y2)) (hd : H o = some (.dT kvs)) (hl : kvs.length < sizeLine)
    (k : ∀ T, H T = none → o ≠ T → tw D σ (upd (upd H T (.tup [.int y1, .int y2])) o (.dT (putK kvs [.inl y1, .inl y2] v)))) : tSeq (sDPut td (tTup (tCons ta (tCons tb tNil))) te) tw D σ H := q_dput (ty := td) hv ho h1 h2 hd hl k
theorem g_dputK {σ : L2.St} {H : Hp} {td ta tb te : TE} {D : Ends} {v : V} {o : Addr} {kvs : List (List L2.Key × V)} {y1 y2 : Int} (hv : Vl te σ H v) (ho : Vl td σ H (.ref o)) (h1 : Vl ta σ H (.int y1)) (h2 : Vl tb σ H (.int y2)) (hd : H o = some (.dT kvs)) (hl : kvs.length < sizeLine)
    (k : ∀ T, H T = none → o ≠ T → D.nx σ (upd (upd H T (.tup [.int y1, .int y2])) o (.dT (putK kvs [.inl y1, .inl y2] v)))) : sDPut td (tTup (tCons ta (tCons tb tNil))) te D σ H := q_dputK (tw := fun D σ H => D.nx σ H) hv ho h1 h2 hd hl k
abbrev sLinkWays : Stmt := topS 1
theorem scLinkWays : FnScope ["net", "prices", "a", "b", "there", "back"] ["net"] (defScope sLinkWays) := ⟨rfl, rfl, rfl, by decide +kernel, rfl, by decide +kernel, by decide +kernel⟩
section
variable {P : Program} {w : World} {K : PySem.W.Frag} {mg : Str → Option Value} {base : Heap}
theorem ok_linkWays {f : Addr} {fd : FuncData} {k : Nat} (F : Fun K "link_ways" "link_ways" sLinkWays f fd) : FnOk P w K mg base CX0 (k + 1) f fd ["net"] (spLinkWays K) := by
  refine F.ok scLinkWays (fun vs H Q E h => ?_) (fun cdv A outer s H vs Q E hr h => ?_)
  · obtain ⟨v, N, rfl, _⟩ := h
    rfl
  · obtain ⟨v, N, rfl, hN, hl, q⟩ := h
    have hu := hu_of hr
    refine ⟨_, pss_cons (ps_set (i := 1) scLinkWays.nd rfl (.inl rfl) pe_dnewT)
      (pss_cons (ps_for PassesOwn.never rfl (pi_list (pe_ix ix_tup (pv 0) pe_int (fun _ _ => rfl))) (pg_tup rfl (pgs_cons (pg_name (i := 2) scLinkWays.nd rfl (.inl rfl)) (pgs_cons (pg_name (i := 3) scLinkWays.nd rfl (.inl rfl)) (pgs_cons (pg_name (i := 4) scLinkWays.nd rfl (.inl rfl)) (pgs_cons (pg_name (i := 5) scLinkWays.nd rfl (.inl rfl)) pgs_nil)))))
      (pss_cons (ps_dput hu (pv 1) (pe_tup (pa_cons (pv 2) (pa_cons (pv 3) pa_nil))) (pv 4) rfl)
        (pss_one (ps_dput hu (pv 1) (pe_tup (pa_cons (pv 3) (pa_cons (pv 2) pa_nil))) (pv 5) rfl))))
      (pss_one (ps_ret (pv 1)))), ?_⟩
    obtain ⟨p, c, xs, rfl, hp, hc, hx⟩ := Dp.net_inv hN
    refine q_dnewT fun o no => ?_
    refine q_forLnk (Hb := H) (vl_ixT (K := K) (vl_var rfl) vl_c (seqT (same_upd no) hp) (atI_nat (j := 1) rfl)) hc hx (same_upd no)
      (fun i σ H3 => ∃ y2 y3 y4 y5 kvs, σ = [some (.ref p), some (.ref o), y2, y3, y4, y5] ∧ Same H H3 ∧ H3 o = some (.dT kvs) ∧ kvs.length ≤ 2 * i ∧ ∀ x y : Int, valV kvs [Sum.inl x, Sum.inl y] = lkv (N.ls.take i) x y)
      ⟨none, none, none, none, [], rfl, same_upd no, upd_same, Nat.zero_le _, fun x y => rfl⟩ (fun i σ H3 hP => ?_) (fun i l σ H3 hi hP => ?_) (fun σ H3 hP => ?_)
    · obtain ⟨_, _, _, _, _, _, s3, _⟩ := hP
      exact s3
    · obtain ⟨y2, y3, y4, y5, kvs, rfl, s3, ho, hlen, hv⟩ := hP
      have hil := (List.getElem?_eq_some_iff.mp hi).1
      refine q_dputK (vl_var rfl) (vl_var rfl) (vl_var rfl) (vl_var rfl) ho (Nat.lt_of_le_of_lt (m := 10000) (by omega) (by decide)) fun T nT oT => ?_
      have hl1 := put_len (kvs := kvs) (k := [Sum.inl l.a, Sum.inl l.b]) (v := oV l.t)
      refine g_dputK (vl_var rfl) (vl_var rfl) (vl_var rfl) (vl_var rfl) upd_same (Nat.lt_of_le_of_lt (m := 10000) (by omega) (by decide)) fun T2 nT2 oT2 => ?_
      have hl2 := put_len (kvs := putK kvs [Sum.inl l.a, Sum.inl l.b] (oV l.t)) (k := [Sum.inl l.b, Sum.inl l.a]) (v := oV l.k)
      have s4 : Same H (upd (upd H3 T (.tup [.int l.a, .int l.b])) o (.dT (putK kvs [Sum.inl l.a, Sum.inl l.b] (oV l.t)))) := same_upd' (s3.trans (same_upd nT)) no
      refine ⟨_, _, _, _, _, rfl, same_upd' (s4.trans (same_upd nT2)) no, upd_same, by omega, fun x y => ?_⟩
      rw [valV_put, valV_put, hv, take_snoc hi, lkv_snoc]
      unfold lkS
      by_cases c1 : x = l.b ∧ y = l.a
      · rw [if_pos (key2.mpr c1), if_pos c1]
      · rw [if_neg (fun z => c1 (key2.mp z)), if_neg c1]
        by_cases c2 : x = l.a ∧ y = l.b
        · rw [if_pos (key2.mpr c2), if_pos c2]
        · rw [if_neg (fun z => c2 (key2.mp z)), if_neg c2]
    · obtain ⟨y2, y3, y4, y5, kvs, rfl, s3, ho, hlen, hv⟩ := hP
      rw [List.take_length] at hv
      exact g_ret (vl_var rfl) (q H3 o s3 no ⟨kvs, ho, hlen, hv⟩)
end
end Ovc
namespace PySem
open Sem (wp)
open PySem.W (kdx_alive)
abbrev IsZG (h : Heap) (z TI TO : Addr) (F0 F1 : Value) : Prop := h.get? z = some { cls := .type "zip", dict := none, data := .fields #[F0, F1, .bool false, .ref TI, .ref TO], slots := #[] }
abbrev IsTri (h : Heap) (T : Addr) (a b c : Value) : Prop := h.get? T = some { cls := .type "tuple", data := .seq #[a, b, c] }
/-- what a zip keeps of the tuple it gave out -/
def ZgOk (F0 F1 : Value) : Prop := (F0 = .none ∧ F1 = .bool false) ∨ ∃ (T : Addr) (f : Bool), F0 = rawInt T ∧ F1 = .bool f
structure ZApart3 (z TI TO i1 i2 i3 l1 l2 l3 : Addr) : Prop where
  TIz : TI ≠ z
  TOz : TO ≠ z
  i1z : i1 ≠ z
  i2z : i2 ≠ z
  i3z : i3 ≠ z
  TITO : TI ≠ TO
  TIi1 : TI ≠ i1
  TIi2 : TI ≠ i2
  TIi3 : TI ≠ i3
  TOi1 : TO ≠ i1
  TOi2 : TO ≠ i2
  TOi3 : TO ≠ i3
  i12 : i1 ≠ i2
  i13 : i1 ≠ i3
  i23 : i2 ≠ i3
  l1z : l1 ≠ z
  l1TO : l1 ≠ TO
  l1i1 : l1 ≠ i1
  l1i2 : l1 ≠ i2
  l1i3 : l1 ≠ i3
  l2z : l2 ≠ z
  l2TO : l2 ≠ TO
  l2i1 : l2 ≠ i1
  l2i2 : l2 ≠ i2
  l2i3 : l2 ≠ i3
  l3z : l3 ≠ z
  l3TO : l3 ≠ TO
  l3i1 : l3 ≠ i1
  l3i2 : l3 ≠ i2
  l3i3 : l3 ≠ i3
theorem zapart3 (n a b c : Nat) (la : a < n) (lb : b < n) (lc : c < n) : ZApart3 (n + 5) (n + 3) (n + 4) n (n + 1) (n + 2) a b c := by
  constructor <;> (refine PySem.W.neN ?_; omega)
section
variable {prog : Program} {w : World} {A : Around} {E : Value → Shared → Prop} {s : Shared}
theorem zg_dead {a : Addr} {Q : Option Obj → Shared → Prop} (ho : s.heap.get? a = none) (h : Q none s) : wpAny (model prog w) A (loadIfAlive a) Q E s := by
  have h' : Q (s.heap.get? a) s := by rw [ho]; exact h
  exact fun _ _ _ => h'
/-- nothing is out -/
def ZFree (prog : Program) (w : World) (s : Shared) (z : Addr) : Prop := ∀ (A : Around) (E : Value → Shared → Prop) (Q : Bool → Shared → Prop), Q true s → wpAny (model prog w) A (Builtin.SmallTypes.ownedTupleIsFree (.ref z)) Q E s
/-- free, or out -/
theorem zg_free {z TI TO : Addr} {F0 F1 : Value} (hz : IsZG s.heap z TI TO F0 F1) (ok : ZgOk F0 F1) : ZFree prog w s z ∨
    (∃ T f oT, IsZipHeld s.heap z TI TO T f ∧ s.heap.get? T = some oT) := by
  rcases ok with ⟨rfl, rfl⟩ | ⟨T, f, rfl, rfl⟩
  · refine .inl fun A E Q q => ?_
    unfold Builtin.SmallTypes.ownedTupleIsFree
    exact wpAny_bind (wpAny_field hz rfl (x := .none) rfl (wpAny_pure q))
  · cases e : s.heap.get? T with
    | some oT => exact .inr ⟨T, f, oT, hz, e⟩
    | none =>
      refine .inl fun A E Q q => ?_
      unfold Builtin.SmallTypes.ownedTupleIsFree
      refine wpAny_bind (wpAny_field hz rfl (x := rawInt T) rfl ?_)
      show wpAny _ _ (loadIfAlive ((T : Int).toNat) >>= _) _ _ _
      rw [Int.toNat_natCast]
      refine wpAny_bind (zg_dead e ?_)
      simp only [Option.isNone_none, if_true]
      exact wpAny_pure q
theorem zg_upd3 {T : Addr} {a b c x : Value} {k : Nat} {Q : Unit → Shared → Prop} (hT : IsTri s.heap T a b c)
    (h : ∀ h', h'.get? T = some { cls := .type "tuple", data := .seq ((#[a, b, c] : Array Value).setIfInBounds k x) } → Heap.SameBut T s.heap h' → Q () { s with heap := h' }) :
    wpAny (model prog w) A (updateSeq T (·.setIfInBounds k x)) Q E s := by
  refine wpAny_updateSeq hT rfl (h _ ?_ (Heap.SameBut.update ..))
  rw [Heap.get?_update_self _ hT rfl]
  simp [Obj.mapSeq]
/-! the step of a free zip of two -/
theorem zg2_item {z TI TO i1 i2 l1 l2 : Addr} {F0 F1 : Value} {k1 k2 : Nat} {xs ys : Array Value} {x y a b : Value} {Q : Value → Shared → Prop} (D : ZipApart z TI TO i1 i2 l1 l2)
    (hz : IsZG s.heap z TI TO F0 F1) (hf : ZFree prog w s z) (hTI : IsPair s.heap TI (.ref i1) (.ref i2)) (hTO : IsPair s.heap TO a b)
    (h1 : s.heap.IsListIter i1 l1 k1) (h2 : s.heap.IsListIter i2 l2 k2) (hl1 : s.heap.IsList l1 xs) (hl2 : s.heap.IsList l2 ys) (hx : xs[k1]? = some x) (hy : ys[k2]? = some y)
    (hQ : ∀ h', IsZG h' z TI TO (rawInt s.heap.objs.size) (.bool false) → IsPair h' TO x y → h'.IsListIter i1 l1 (k1 + 1) → h'.IsListIter i2 l2 (k2 + 1) → IsPair h' s.heap.objs.size x y → h'.objs.size = s.heap.objs.size + 1 →
      (∀ c o, c ≠ z → c ≠ TO → c ≠ i1 → c ≠ i2 → s.heap.get? c = some o → h'.get? c = some o) → Q (.ref s.heap.objs.size) { s with heap := h' }) :
    wpAny (model prog w) A (Builtin.«zip.__next__» ⟨[.ref z], []⟩) (fun fin s' => ∃ v, fin = .done (.ret v) ∧ Q v s') E s := by
  show wpAny _ _ (field (.ref z) 2 >>= _) _ _ _
  refine wpAny_bind (wpAny_field hz rfl (x := .bool false) rfl ?_)
  show wpAny _ _ (field (.ref z) 3 >>= _) _ _ _
  refine wpAny_bind (wpAny_field hz rfl (x := .ref TI) rfl ?_)
  refine wpAny_bind (wpAny_seqItems hTI rfl ?_)
  show wpAny _ _ (Builtin.SmallTypes.ownedTupleIsFree (.ref z) >>= _) _ _ _
  refine wpAny_bind (hf _ _ _ ?_)
  simp only [if_true]
  refine wpAny_bind (wpAny_rule ?_)
  refine wpAny_bind (wpAny_field hz rfl (x := .ref TO) rfl ?_)
  refine wpAny_bind (wpAny_setField_rec hz (by simp) fun h₁ hz₁ hs₁ => ?_)
  replace hz₁ : IsZG h₁ z TI TO .ellipsis F1 := hz₁
  refine wpAny_bind ?_
  simp only [List.zipIdx_cons, List.zipIdx_nil, List.forIn_cons, List.forIn_nil]
  refine wpAny_bind (wpAny_bind (wpAny_onRaise ?_))
  show wpAny _ _ (Builtin.SmallTypes.nextOf (.ref i1) >>= _) _ _ _
  refine wpAny_bind (wpAny_nextOf_list_item (h1.extBut hs₁.extBut D.i1z) (hl1.extBut hs₁.extBut D.l1z) hx fun h₂ h1₂ hs₂ => wpAny_pure ?_)
  have hTO₂ : IsPair h₂ TO a b := hs₂.extBut _ _ D.TOi1 (hs₁.extBut _ _ D.TOz hTO)
  refine wpAny_bind (wpAny_seqItems hTO₂ rfl ?_)
  refine wpAny_bind (wpAny_updateSeq_pair hTO₂ fun h₃ hTO₃ hs₃ => ?_)
  replace hTO₃ : IsPair h₃ TO x b := hTO₃
  refine wpAny_bind (wpAny_letGo (wpAny_pure ?_))
  refine wpAny_bind (wpAny_bind (wpAny_onRaise ?_))
  show wpAny _ _ (Builtin.SmallTypes.nextOf (.ref i2) >>= _) _ _ _
  refine wpAny_bind (wpAny_nextOf_list_item (((h2.extBut hs₁.extBut D.i2z).extBut hs₂.extBut D.i12.symm).extBut hs₃.extBut D.TOi2.symm)
    (((hl2.extBut hs₁.extBut D.l2z).extBut hs₂.extBut D.l2i1).extBut hs₃.extBut D.l2TO) hy fun h₄ h2₄ hs₄ => wpAny_pure ?_)
  have hTO₄ : IsPair h₄ TO x b := hs₄.extBut _ _ D.TOi2 hTO₃
  refine wpAny_bind (wpAny_seqItems hTO₄ rfl ?_)
  refine wpAny_bind (wpAny_updateSeq_pair hTO₄ fun h₅ hTO₅ hs₅ => ?_)
  replace hTO₅ : IsPair h₅ TO x y := hTO₅
  refine wpAny_bind (wpAny_letGo (wpAny_pure (wpAny_pure ?_)))
  refine wpAny_bind (wpAny_seqItems hTO₅ rfl ?_)
  refine wpAny_bind (wpAny_newTuple ?_)
  have hsz : h₅.objs.size = s.heap.objs.size := by rw [hs₅.1, hs₄.1, hs₃.1, hs₂.1, hs₁.1]
  have hz₅ : IsZG h₅ z TI TO .ellipsis F1 := hs₅.extBut _ _ D.TOz.symm (hs₄.extBut _ _ D.i2z.symm (hs₃.extBut _ _ D.TOz.symm (hs₂.extBut _ _ D.i1z.symm hz₁)))
  have hk₅ : ∀ c o, c ≠ z → c ≠ TO → c ≠ i1 → c ≠ i2 → s.heap.get? c = some o → h₅.get? c = some o := fun c o c1 c2 c3 c4 e =>
    hs₅.extBut _ _ c2 (hs₄.extBut _ _ c4 (hs₃.extBut _ _ c2 (hs₂.extBut _ _ c3 (hs₁.extBut _ _ c1 e))))
  have h1₅ : h₅.IsListIter i1 l1 (k1 + 1) := ((h1₂.extBut hs₃.extBut D.TOi1.symm).extBut hs₄.extBut D.i12).extBut hs₅.extBut D.TOi1.symm
  have h2₅ : h₅.IsListIter i2 l2 (k2 + 1) := h2₄.extBut hs₅.extBut D.TOi2.symm
  have hzlt : z < h₅.objs.size := Heap.lt_size hz₅
  show wpAny _ _ (Builtin.SmallTypes.ownedTupleHandOut (.ref z) (.ref h₅.objs.size) >>= _) _ _ _
  refine wpAny_bind ?_
  unfold Builtin.SmallTypes.ownedTupleHandOut
  have hz₆ : IsZG (h₅.push { cls := .type "tuple", data := .seq #[x, y] }) z TI TO .ellipsis F1 := Heap.get?_push_of_some _ hz₅
  refine wpAny_bind (wpAny_setField_rec hz₆ (by simp) fun h₇ hz₇ hs₇ => ?_)
  replace hz₇ : IsZG h₇ z TI TO (rawInt h₅.objs.size) F1 := hz₇
  refine wpAny_setField_rec hz₇ (by simp) fun h₈ hz₈ hs₈ => ?_
  replace hz₈ : IsZG h₈ z TI TO (rawInt h₅.objs.size) (.bool false) := hz₈
  have up : ∀ c o, c ≠ z → h₅.get? c = some o → h₈.get? c = some o := fun c o c1 e => hs₈.extBut _ _ c1 (hs₇.extBut _ _ c1 (Heap.get?_push_of_some _ e))
  have hT₈ : IsPair h₈ h₅.objs.size x y := hs₈.extBut _ _ (Nat.ne_of_gt hzlt) (hs₇.extBut _ _ (Nat.ne_of_gt hzlt) (Heap.get?_push_size _ rfl))
  have hz8 : h₈.objs.size = h₅.objs.size + 1 := by rw [hs₈.1, hs₇.1, Heap.size_push]
  rw [hsz] at hz₈ hT₈ hz8
  refine wpAny_pure ⟨_, rfl, ?_⟩
  show Q (.ref h₅.objs.size) _
  rw [hsz]
  exact hQ h₈ hz₈ (up _ _ D.TOz hTO₅) (h1₅.at fun o e => up _ o D.i1z e) (h2₅.at fun o e => up _ o D.i2z e) hT₈ hz8 fun c o c1 c2 c3 c4 e => up c o c1 (hk₅ c o c1 c2 c3 c4 e)
theorem zg2_end {z TI TO i1 i2 l1 l2 : Addr} {F0 F1 : Value} {k1 k2 : Nat} {xs ys : Array Value} {a b : Value} {Q : Fin → Shared → Prop} (hh : A.handled = none) (D : ZipApart z TI TO i1 i2 l1 l2)
    (hz : IsZG s.heap z TI TO F0 F1) (hf : ZFree prog w s z) (hTI : IsPair s.heap TI (.ref i1) (.ref i2)) (hTO : IsPair s.heap TO a b)
    (h1 : s.heap.IsListIter i1 l1 k1) (h2 : s.heap.IsListIter i2 l2 k2) (hl1 : s.heap.IsList l1 xs) (hl2 : s.heap.IsList l2 ys) (hend : xs[k1]? = none ∨ ys[k2]? = none)
    (hE : ∀ h' e, (∀ c o, c ≠ z → c ≠ TO → c ≠ i1 → c ≠ i2 → s.heap.get? c = some o → h'.get? c = some o) → (∃ o, h'.get? e = some o ∧ o.cls = .type "StopIteration") → E (.ref e) { s with heap := h' }) :
    wpAny (model prog w) A (Builtin.«zip.__next__» ⟨[.ref z], []⟩) Q E s := by
  show wpAny _ _ (field (.ref z) 2 >>= _) _ _ _
  refine wpAny_bind (wpAny_field hz rfl (x := .bool false) rfl ?_)
  show wpAny _ _ (field (.ref z) 3 >>= _) _ _ _
  refine wpAny_bind (wpAny_field hz rfl (x := .ref TI) rfl ?_)
  refine wpAny_bind (wpAny_seqItems hTI rfl ?_)
  show wpAny _ _ (Builtin.SmallTypes.ownedTupleIsFree (.ref z) >>= _) _ _ _
  refine wpAny_bind (hf _ _ _ ?_)
  simp only [if_true]
  refine wpAny_bind (wpAny_rule ?_)
  refine wpAny_bind (wpAny_field hz rfl (x := .ref TO) rfl ?_)
  refine wpAny_bind (wpAny_setField_rec hz (by simp) fun h₁ hz₁ hs₁ => ?_)
  replace hz₁ : IsZG h₁ z TI TO .ellipsis F1 := hz₁
  refine wpAny_bind ?_
  simp only [List.zipIdx_cons, List.zipIdx_nil, List.forIn_cons, List.forIn_nil]
  refine wpAny_bind (wpAny_bind (wpAny_onRaise ?_))
  show wpAny _ _ (Builtin.SmallTypes.nextOf (.ref i1) >>= _) _ _ _
  cases hx : xs[k1]? with
  | none =>
    refine wpAny_bind (wpAny_nextOf_list_end hh (h1.extBut hs₁.extBut D.i1z) (hl1.extBut hs₁.extBut D.l1z) hx fun h₂ e hs₂ he => ?_)
    obtain ⟨oe, hoe, hce⟩ := he
    have hz₂ : IsZG h₂ z TI TO .ellipsis F1 := hs₂ _ _ D.i1z.symm hz₁
    have hez : e ≠ z := fun x => by subst x; rw [hz₂] at hoe; cases hoe; simp at hce
    refine wpAny_setField_rec hz₂ (by simp) fun h₃ _ hs₃ => hE h₃ e (fun c o c1 _ c3 _ x => hs₃.extBut _ _ c1 (hs₂ _ _ c3 (hs₁.extBut _ _ c1 x))) ⟨oe, hs₃.extBut _ _ hez hoe, hce⟩
  | some x =>
    have hy : ys[k2]? = none := by rcases hend with h | h; rw [hx] at h; cases h; exact h
    refine wpAny_bind (wpAny_nextOf_list_item (h1.extBut hs₁.extBut D.i1z) (hl1.extBut hs₁.extBut D.l1z) hx fun h₂ h1₂ hs₂ => wpAny_pure ?_)
    have hTO₂ : IsPair h₂ TO a b := hs₂.extBut _ _ D.TOi1 (hs₁.extBut _ _ D.TOz hTO)
    refine wpAny_bind (wpAny_seqItems hTO₂ rfl ?_)
    refine wpAny_bind (wpAny_updateSeq_pair hTO₂ fun h₃ hTO₃ hs₃ => ?_)
    refine wpAny_bind (wpAny_letGo (wpAny_pure ?_))
    refine wpAny_bind (wpAny_bind (wpAny_onRaise ?_))
    show wpAny _ _ (Builtin.SmallTypes.nextOf (.ref i2) >>= _) _ _ _
    refine wpAny_bind (wpAny_nextOf_list_end hh (((h2.extBut hs₁.extBut D.i2z).extBut hs₂.extBut D.i12.symm).extBut hs₃.extBut D.TOi2.symm)
      (((hl2.extBut hs₁.extBut D.l2z).extBut hs₂.extBut D.l2i1).extBut hs₃.extBut D.l2TO) hy fun h₄ e hs₄ he => ?_)
    obtain ⟨oe, hoe, hce⟩ := he
    have hz₄ : IsZG h₄ z TI TO .ellipsis F1 := hs₄ _ _ D.i2z.symm (hs₃.extBut _ _ D.TOz.symm (hs₂.extBut _ _ D.i1z.symm hz₁))
    have hez : e ≠ z := fun x => by subst x; rw [hz₄] at hoe; cases hoe; simp at hce
    refine wpAny_setField_rec hz₄ (by simp) fun h₅ _ hs₅ => hE h₅ e (fun c o c1 c2 c3 c4 x => hs₅.extBut _ _ c1 (hs₄ _ _ c4 (hs₃.extBut _ _ c2 (hs₂.extBut _ _ c3 (hs₁.extBut _ _ c1 x))))) ⟨oe, hs₅.extBut _ _ hez hoe, hce⟩
/-! any step of a zip of two -/
theorem zg2_next {z TI TO i1 i2 l1 l2 : Addr} {F0 F1 : Value} {k1 k2 : Nat} {xs ys : Array Value} {x y a b : Value} {Q : Option Value → Shared → Prop} (D : ZipApart z TI TO i1 i2 l1 l2)
    (hz : IsZG s.heap z TI TO F0 F1) (ok : ZgOk F0 F1) (hTI : IsPair s.heap TI (.ref i1) (.ref i2)) (hTO : IsPair s.heap TO a b)
    (h1 : s.heap.IsListIter i1 l1 k1) (h2 : s.heap.IsListIter i2 l2 k2) (hl1 : s.heap.IsList l1 xs) (hl2 : s.heap.IsList l2 ys) (hx : xs[k1]? = some x) (hy : ys[k2]? = some y)
    (hQ : ∀ h' G0 G1 c d, IsZG h' z TI TO G0 G1 → ZgOk G0 G1 → IsPair h' TO c d → h'.IsListIter i1 l1 (k1 + 1) → h'.IsListIter i2 l2 (k2 + 1) → IsPair h' s.heap.objs.size x y → h'.objs.size = s.heap.objs.size + 1 →
      (∀ c o, c ≠ z → c ≠ TO → c ≠ i1 → c ≠ i2 → s.heap.get? c = some o → h'.get? c = some o) → Q (some (.ref s.heap.objs.size)) { s with heap := h' }) :
    wpAny (model prog w) A (pyNext (.ref z)) Q E s := by
  have hT : s.TypeIs (.ref z) "zip" := ⟨_, hz, rfl⟩
  rcases zg_free (prog := prog) (w := w) hz ok with hf | ⟨T, f, oT, hh, ht⟩
  · unfold pyNext
    exact wpAny_bind (wpAny_attempt (wpAny_callSpecial?_slot (name := Str.ofString "__next__") hT F.slot_zip_next
      (wpAny_call_entry F.slot_zip_next hT F.entry_zip_next
        (zg2_item D hz hf hTI hTO h1 h2 hl1 hl2 hx hy fun h' a1 a2 a3 a4 a5 a6 a7 => wpAny_pure (hQ h' _ _ _ _ a1 (.inr ⟨_, _, rfl, rfl⟩) a2 a3 a4 a5 a6 a7)) (F.args_zip_next_1 _))))
  · exact wpAny_pyNext_zip_item_held D hh ht hTI h1 h2 hl1 hl2 hx hy fun h' a1 a2 a3 a4 a5 a6 => hQ h' _ _ _ _ a1 (.inr ⟨_, _, rfl, rfl⟩) (a6 _ _ D.TOz D.TOi1 D.TOi2 hTO) a2 a3 a4 a5 fun c o c1 _ c3 c4 e => a6 c o c1 c3 c4 e
theorem zg2_stop {z TI TO i1 i2 l1 l2 : Addr} {F0 F1 : Value} {k1 k2 : Nat} {xs ys : Array Value} {a b : Value} {Q : Option Value → Shared → Prop} (hh : A.handled = none) (D : ZipApart z TI TO i1 i2 l1 l2)
    (hz : IsZG s.heap z TI TO F0 F1) (ok : ZgOk F0 F1) (hTI : IsPair s.heap TI (.ref i1) (.ref i2)) (hTO : IsPair s.heap TO a b)
    (h1 : s.heap.IsListIter i1 l1 k1) (h2 : s.heap.IsListIter i2 l2 k2) (hl1 : s.heap.IsList l1 xs) (hl2 : s.heap.IsList l2 ys) (hend : xs[k1]? = none ∨ ys[k2]? = none)
    (hQ : ∀ h', (∀ c o, c ≠ z → c ≠ TO → c ≠ i1 → c ≠ i2 → s.heap.get? c = some o → h'.get? c = some o) → Q none { s with heap := h' }) : wpAny (model prog w) A (pyNext (.ref z)) Q E s := by
  have hT : s.TypeIs (.ref z) "zip" := ⟨_, hz, rfl⟩
  rcases zg_free (prog := prog) (w := w) hz ok with hf | ⟨T, f, oT, hd, ht⟩
  · unfold pyNext
    refine wpAny_bind (wpAny_attempt (wpAny_callSpecial?_slot (name := Str.ofString "__next__") hT F.slot_zip_next
      (wpAny_call_entry F.slot_zip_next hT F.entry_zip_next (zg2_end hh D hz hf hTI hTO h1 h2 hl1 hl2 hend fun h' e hk he => ?_) (F.args_zip_next_1 _))))
    obtain ⟨o, ho, hc⟩ := he
    refine wpAny_bind (wpAny_isInstance (T := "StopIteration") (b := true) ⟨o, ho, hc⟩ isSubtype_stop ?_)
    exact wpAny_pure (hQ _ hk)
  · exact wpAny_pyNext_zip_end_held hh D hd ht hTI h1 h2 hl1 hl2 hend fun h' hk => hQ h' fun c o c1 _ c3 c4 e => hk c o c1 c3 c4 e
end
end PySem
namespace Ovc
open PySem PySem.Spec PyProof.Rows L2
end Ovc
namespace PySem
open Sem (wp)
section
variable {prog : Program} {w : World} {A : Around} {E : Value → Shared → Prop} {s : Shared}
theorem zg3_item {z TI TO i1 i2 i3 l1 l2 l3 : Addr} {F0 F1 : Value} {k : Nat} {xs ys zs : Array Value} {x y v a b c : Value} {Q : Value → Shared → Prop} (D : ZApart3 z TI TO i1 i2 i3 l1 l2 l3)
    (hz : IsZG s.heap z TI TO F0 F1) (hf : ZFree prog w s z) (hTI : IsTri s.heap TI (.ref i1) (.ref i2) (.ref i3)) (hTO : IsTri s.heap TO a b c)
    (h1 : s.heap.IsListIter i1 l1 k) (h2 : s.heap.IsListIter i2 l2 k) (h3 : s.heap.IsListIter i3 l3 k) (hl1 : s.heap.IsList l1 xs) (hl2 : s.heap.IsList l2 ys) (hl3 : s.heap.IsList l3 zs) (hx : xs[k]? = some x) (hy : ys[k]? = some y) (hv : zs[k]? = some v)
    (hQ : ∀ h', IsZG h' z TI TO (rawInt s.heap.objs.size) (.bool false) → IsTri h' TO x y v → h'.IsListIter i1 l1 (k + 1) → h'.IsListIter i2 l2 (k + 1) → h'.IsListIter i3 l3 (k + 1) → IsTri h' s.heap.objs.size x y v → h'.objs.size = s.heap.objs.size + 1 →
      (∀ c o, c ≠ z → c ≠ TO → c ≠ i1 → c ≠ i2 → c ≠ i3 → s.heap.get? c = some o → h'.get? c = some o) → Q (.ref s.heap.objs.size) { s with heap := h' }) :
    wpAny (model prog w) A (Builtin.«zip.__next__» ⟨[.ref z], []⟩) (fun fin s' => ∃ v, fin = .done (.ret v) ∧ Q v s') E s := by
  show wpAny _ _ (field (.ref z) 2 >>= _) _ _ _
  refine wpAny_bind (wpAny_field hz rfl (x := .bool false) rfl ?_)
  show wpAny _ _ (field (.ref z) 3 >>= _) _ _ _
  refine wpAny_bind (wpAny_field hz rfl (x := .ref TI) rfl ?_)
  refine wpAny_bind (wpAny_seqItems hTI rfl ?_)
  show wpAny _ _ (Builtin.SmallTypes.ownedTupleIsFree (.ref z) >>= _) _ _ _
  refine wpAny_bind (hf _ _ _ ?_)
  simp only [if_true]
  refine wpAny_bind (wpAny_rule ?_)
  refine wpAny_bind (wpAny_field hz rfl (x := .ref TO) rfl ?_)
  refine wpAny_bind (wpAny_setField_rec hz (by simp) fun h₁ hz₁ hs₁ => ?_)
  replace hz₁ : IsZG h₁ z TI TO .ellipsis F1 := hz₁
  refine wpAny_bind ?_
  simp only [List.zipIdx_cons, List.zipIdx_nil, List.forIn_cons, List.forIn_nil]
  refine wpAny_bind (wpAny_bind (wpAny_onRaise ?_))
  show wpAny _ _ (Builtin.SmallTypes.nextOf (.ref i1) >>= _) _ _ _
  refine wpAny_bind (wpAny_nextOf_list_item (h1.extBut hs₁.extBut D.i1z) (hl1.extBut hs₁.extBut D.l1z) hx fun h₂ h1₂ hs₂ => wpAny_pure ?_)
  have hTO₂ : IsTri h₂ TO a b c := hs₂.extBut _ _ D.TOi1 (hs₁.extBut _ _ D.TOz hTO)
  refine wpAny_bind (wpAny_seqItems hTO₂ rfl ?_)
  refine wpAny_bind (zg_upd3 hTO₂ fun h₃ hTO₃ hs₃ => ?_)
  replace hTO₃ : IsTri h₃ TO x b c := hTO₃
  refine wpAny_bind (wpAny_letGo (wpAny_pure ?_))
  refine wpAny_bind (wpAny_bind (wpAny_onRaise ?_))
  show wpAny _ _ (Builtin.SmallTypes.nextOf (.ref i2) >>= _) _ _ _
  refine wpAny_bind (wpAny_nextOf_list_item (((h2.extBut hs₁.extBut D.i2z).extBut hs₂.extBut D.i12.symm).extBut hs₃.extBut D.TOi2.symm)
    (((hl2.extBut hs₁.extBut D.l2z).extBut hs₂.extBut D.l2i1).extBut hs₃.extBut D.l2TO) hy fun h₄ h2₄ hs₄ => wpAny_pure ?_)
  have hTO₄ : IsTri h₄ TO x b c := hs₄.extBut _ _ D.TOi2 hTO₃
  refine wpAny_bind (wpAny_seqItems hTO₄ rfl ?_)
  refine wpAny_bind (zg_upd3 hTO₄ fun h₅ hTO₅ hs₅ => ?_)
  replace hTO₅ : IsTri h₅ TO x y c := hTO₅
  refine wpAny_bind (wpAny_letGo (wpAny_pure ?_))
  refine wpAny_bind (wpAny_bind (wpAny_onRaise ?_))
  show wpAny _ _ (Builtin.SmallTypes.nextOf (.ref i3) >>= _) _ _ _
  refine wpAny_bind (wpAny_nextOf_list_item (((((h3.extBut hs₁.extBut D.i3z).extBut hs₂.extBut D.i13.symm).extBut hs₃.extBut D.TOi3.symm).extBut hs₄.extBut D.i23.symm).extBut hs₅.extBut D.TOi3.symm)
    (((((hl3.extBut hs₁.extBut D.l3z).extBut hs₂.extBut D.l3i1).extBut hs₃.extBut D.l3TO).extBut hs₄.extBut D.l3i2).extBut hs₅.extBut D.l3TO) hv fun h₆ h3₆ hs₆ => wpAny_pure ?_)
  have hTO₆ : IsTri h₆ TO x y c := hs₆.extBut _ _ D.TOi3 hTO₅
  refine wpAny_bind (wpAny_seqItems hTO₆ rfl ?_)
  refine wpAny_bind (zg_upd3 hTO₆ fun h₇ hTO₇ hs₇ => ?_)
  replace hTO₇ : IsTri h₇ TO x y v := hTO₇
  refine wpAny_bind (wpAny_letGo (wpAny_pure (wpAny_pure ?_)))
  refine wpAny_bind (wpAny_seqItems hTO₇ rfl ?_)
  refine wpAny_bind (wpAny_newTuple ?_)
  have hsz : h₇.objs.size = s.heap.objs.size := by rw [hs₇.1, hs₆.1, hs₅.1, hs₄.1, hs₃.1, hs₂.1, hs₁.1]
  have hz₇ : IsZG h₇ z TI TO .ellipsis F1 := hs₇.extBut _ _ D.TOz.symm (hs₆.extBut _ _ D.i3z.symm (hs₅.extBut _ _ D.TOz.symm (hs₄.extBut _ _ D.i2z.symm (hs₃.extBut _ _ D.TOz.symm (hs₂.extBut _ _ D.i1z.symm hz₁)))))
  have hk₇ : ∀ c o, c ≠ z → c ≠ TO → c ≠ i1 → c ≠ i2 → c ≠ i3 → s.heap.get? c = some o → h₇.get? c = some o := fun c o c1 c2 c3 c4 c5 e =>
    hs₇.extBut _ _ c2 (hs₆.extBut _ _ c5 (hs₅.extBut _ _ c2 (hs₄.extBut _ _ c4 (hs₃.extBut _ _ c2 (hs₂.extBut _ _ c3 (hs₁.extBut _ _ c1 e))))))
  have h1₇ : h₇.IsListIter i1 l1 (k + 1) := ((((h1₂.extBut hs₃.extBut D.TOi1.symm).extBut hs₄.extBut D.i12).extBut hs₅.extBut D.TOi1.symm).extBut hs₆.extBut D.i13).extBut hs₇.extBut D.TOi1.symm
  have h2₇ : h₇.IsListIter i2 l2 (k + 1) := ((h2₄.extBut hs₅.extBut D.TOi2.symm).extBut hs₆.extBut D.i23).extBut hs₇.extBut D.TOi2.symm
  have h3₇ : h₇.IsListIter i3 l3 (k + 1) := h3₆.extBut hs₇.extBut D.TOi3.symm
  have hzlt : z < h₇.objs.size := Heap.lt_size hz₇
  show wpAny _ _ (Builtin.SmallTypes.ownedTupleHandOut (.ref z) (.ref h₇.objs.size) >>= _) _ _ _
  refine wpAny_bind ?_
  unfold Builtin.SmallTypes.ownedTupleHandOut
  have hz₈ : IsZG (h₇.push { cls := .type "tuple", data := .seq #[x, y, v] }) z TI TO .ellipsis F1 := Heap.get?_push_of_some _ hz₇
  refine wpAny_bind (wpAny_setField_rec hz₈ (by simp) fun h₉ hz₉ hs₉ => ?_)
  replace hz₉ : IsZG h₉ z TI TO (rawInt h₇.objs.size) F1 := hz₉
  refine wpAny_setField_rec hz₉ (by simp) fun hL hzL hsL => ?_
  replace hzL : IsZG hL z TI TO (rawInt h₇.objs.size) (.bool false) := hzL
  have up : ∀ c o, c ≠ z → h₇.get? c = some o → hL.get? c = some o := fun c o c1 e => hsL.extBut _ _ c1 (hs₉.extBut _ _ c1 (Heap.get?_push_of_some _ e))
  have hTL : IsTri hL h₇.objs.size x y v := hsL.extBut _ _ (Nat.ne_of_gt hzlt) (hs₉.extBut _ _ (Nat.ne_of_gt hzlt) (Heap.get?_push_size _ rfl))
  have hzz : hL.objs.size = h₇.objs.size + 1 := by rw [hsL.1, hs₉.1, Heap.size_push]
  rw [hsz] at hzL hTL hzz
  refine wpAny_pure ⟨_, rfl, ?_⟩
  show Q (.ref h₇.objs.size) _
  rw [hsz]
  exact hQ hL hzL (up _ _ D.TOz hTO₇) (h1₇.at fun o e => up _ o D.i1z e) (h2₇.at fun o e => up _ o D.i2z e) (h3₇.at fun o e => up _ o D.i3z e) hTL hzz fun c o c1 c2 c3 c4 c5 e => up c o c1 (hk₇ c o c1 c2 c3 c4 c5 e)
theorem zg3_end {z TI TO i1 i2 i3 l1 l2 l3 : Addr} {F0 F1 : Value} {k : Nat} {xs ys zs : Array Value} {a b c : Value} {Q : Fin → Shared → Prop} (hh : A.handled = none) (D : ZApart3 z TI TO i1 i2 i3 l1 l2 l3)
    (hz : IsZG s.heap z TI TO F0 F1) (hf : ZFree prog w s z) (hTI : IsTri s.heap TI (.ref i1) (.ref i2) (.ref i3)) (hTO : IsTri s.heap TO a b c)
    (h1 : s.heap.IsListIter i1 l1 k) (h2 : s.heap.IsListIter i2 l2 k) (h3 : s.heap.IsListIter i3 l3 k) (hl1 : s.heap.IsList l1 xs) (hl2 : s.heap.IsList l2 ys) (hl3 : s.heap.IsList l3 zs) (hend : xs[k]? = none ∨ ys[k]? = none ∨ zs[k]? = none)
    (hE : ∀ h' e, (∀ c o, c ≠ z → c ≠ TO → c ≠ i1 → c ≠ i2 → c ≠ i3 → s.heap.get? c = some o → h'.get? c = some o) → (∃ o, h'.get? e = some o ∧ o.cls = .type "StopIteration") → E (.ref e) { s with heap := h' }) :
    wpAny (model prog w) A (Builtin.«zip.__next__» ⟨[.ref z], []⟩) Q E s := by
  show wpAny _ _ (field (.ref z) 2 >>= _) _ _ _
  refine wpAny_bind (wpAny_field hz rfl (x := .bool false) rfl ?_)
  show wpAny _ _ (field (.ref z) 3 >>= _) _ _ _
  refine wpAny_bind (wpAny_field hz rfl (x := .ref TI) rfl ?_)
  refine wpAny_bind (wpAny_seqItems hTI rfl ?_)
  show wpAny _ _ (Builtin.SmallTypes.ownedTupleIsFree (.ref z) >>= _) _ _ _
  refine wpAny_bind (hf _ _ _ ?_)
  simp only [if_true]
  refine wpAny_bind (wpAny_rule ?_)
  refine wpAny_bind (wpAny_field hz rfl (x := .ref TO) rfl ?_)
  refine wpAny_bind (wpAny_setField_rec hz (by simp) fun h₁ hz₁ hs₁ => ?_)
  replace hz₁ : IsZG h₁ z TI TO .ellipsis F1 := hz₁
  refine wpAny_bind ?_
  simp only [List.zipIdx_cons, List.zipIdx_nil, List.forIn_cons, List.forIn_nil]
  refine wpAny_bind (wpAny_bind (wpAny_onRaise ?_))
  show wpAny _ _ (Builtin.SmallTypes.nextOf (.ref i1) >>= _) _ _ _
  cases hx : xs[k]? with
  | none =>
    refine wpAny_bind (wpAny_nextOf_list_end hh (h1.extBut hs₁.extBut D.i1z) (hl1.extBut hs₁.extBut D.l1z) hx fun h₂ e hs₂ he => ?_)
    obtain ⟨oe, hoe, hce⟩ := he
    have hz₂ : IsZG h₂ z TI TO .ellipsis F1 := hs₂ _ _ D.i1z.symm hz₁
    have hez : e ≠ z := fun x => by subst x; rw [hz₂] at hoe; cases hoe; simp at hce
    refine wpAny_setField_rec hz₂ (by simp) fun h₃ _ hs₃ => hE h₃ e (fun c o c1 _ c3 _ _ x => hs₃.extBut _ _ c1 (hs₂ _ _ c3 (hs₁.extBut _ _ c1 x))) ⟨oe, hs₃.extBut _ _ hez hoe, hce⟩
  | some x =>
    refine wpAny_bind (wpAny_nextOf_list_item (h1.extBut hs₁.extBut D.i1z) (hl1.extBut hs₁.extBut D.l1z) hx fun h₂ h1₂ hs₂ => wpAny_pure ?_)
    have hTO₂ : IsTri h₂ TO a b c := hs₂.extBut _ _ D.TOi1 (hs₁.extBut _ _ D.TOz hTO)
    refine wpAny_bind (wpAny_seqItems hTO₂ rfl ?_)
    refine wpAny_bind (zg_upd3 hTO₂ fun h₃ hTO₃ hs₃ => ?_)
    replace hTO₃ : IsTri h₃ TO x b c := hTO₃
    refine wpAny_bind (wpAny_letGo (wpAny_pure ?_))
    refine wpAny_bind (wpAny_bind (wpAny_onRaise ?_))
    show wpAny _ _ (Builtin.SmallTypes.nextOf (.ref i2) >>= _) _ _ _
    have i2₃ := ((h2.extBut hs₁.extBut D.i2z).extBut hs₂.extBut D.i12.symm).extBut hs₃.extBut D.TOi2.symm
    have l2₃ := ((hl2.extBut hs₁.extBut D.l2z).extBut hs₂.extBut D.l2i1).extBut hs₃.extBut D.l2TO
    cases hy : ys[k]? with
    | none =>
      refine wpAny_bind (wpAny_nextOf_list_end hh i2₃ l2₃ hy fun h₄ e hs₄ he => ?_)
      obtain ⟨oe, hoe, hce⟩ := he
      have hz₄ : IsZG h₄ z TI TO .ellipsis F1 := hs₄ _ _ D.i2z.symm (hs₃.extBut _ _ D.TOz.symm (hs₂.extBut _ _ D.i1z.symm hz₁))
      have hez : e ≠ z := fun x => by subst x; rw [hz₄] at hoe; cases hoe; simp at hce
      refine wpAny_setField_rec hz₄ (by simp) fun h₅ _ hs₅ => hE h₅ e (fun c o c1 c2 c3 c4 _ x => hs₅.extBut _ _ c1 (hs₄ _ _ c4 (hs₃.extBut _ _ c2 (hs₂.extBut _ _ c3 (hs₁.extBut _ _ c1 x))))) ⟨oe, hs₅.extBut _ _ hez hoe, hce⟩
    | some y =>
      have hv : zs[k]? = none := by
        rcases hend with h | h | h
        · rw [hx] at h; cases h
        · rw [hy] at h; cases h
        · exact h
      refine wpAny_bind (wpAny_nextOf_list_item i2₃ l2₃ hy fun h₄ h2₄ hs₄ => wpAny_pure ?_)
      have hTO₄ : IsTri h₄ TO x b c := hs₄.extBut _ _ D.TOi2 hTO₃
      refine wpAny_bind (wpAny_seqItems hTO₄ rfl ?_)
      refine wpAny_bind (zg_upd3 hTO₄ fun h₅ hTO₅ hs₅ => ?_)
      refine wpAny_bind (wpAny_letGo (wpAny_pure ?_))
      refine wpAny_bind (wpAny_bind (wpAny_onRaise ?_))
      show wpAny _ _ (Builtin.SmallTypes.nextOf (.ref i3) >>= _) _ _ _
      refine wpAny_bind (wpAny_nextOf_list_end hh (((((h3.extBut hs₁.extBut D.i3z).extBut hs₂.extBut D.i13.symm).extBut hs₃.extBut D.TOi3.symm).extBut hs₄.extBut D.i23.symm).extBut hs₅.extBut D.TOi3.symm)
        (((((hl3.extBut hs₁.extBut D.l3z).extBut hs₂.extBut D.l3i1).extBut hs₃.extBut D.l3TO).extBut hs₄.extBut D.l3i2).extBut hs₅.extBut D.l3TO) hv fun h₆ e hs₆ he => ?_)
      obtain ⟨oe, hoe, hce⟩ := he
      have hz₆ : IsZG h₆ z TI TO .ellipsis F1 := hs₆ _ _ D.i3z.symm (hs₅.extBut _ _ D.TOz.symm (hs₄.extBut _ _ D.i2z.symm (hs₃.extBut _ _ D.TOz.symm (hs₂.extBut _ _ D.i1z.symm hz₁))))
      have hez : e ≠ z := fun x => by subst x; rw [hz₆] at hoe; cases hoe; simp at hce
      refine wpAny_setField_rec hz₆ (by simp) fun h₇ _ hs₇ => hE h₇ e (fun c o c1 c2 c3 c4 c5 x => hs₇.extBut _ _ c1 (hs₆ _ _ c5 (hs₅.extBut _ _ c2 (hs₄.extBut _ _ c4 (hs₃.extBut _ _ c2 (hs₂.extBut _ _ c3 (hs₁.extBut _ _ c1 x))))))) ⟨oe, hs₇.extBut _ _ hez hoe, hce⟩
theorem zg3_item_held {z TI TO T i1 i2 i3 l1 l2 l3 : Addr} {f : Bool} {oT : Obj} {k : Nat} {xs ys zs : Array Value} {x y v : Value} {Q : Value → Shared → Prop} (D : ZApart3 z TI TO i1 i2 i3 l1 l2 l3)
    (hz : IsZipHeld s.heap z TI TO T f) (hT : s.heap.get? T = some oT) (hTI : IsTri s.heap TI (.ref i1) (.ref i2) (.ref i3))
    (h1 : s.heap.IsListIter i1 l1 k) (h2 : s.heap.IsListIter i2 l2 k) (h3 : s.heap.IsListIter i3 l3 k) (hl1 : s.heap.IsList l1 xs) (hl2 : s.heap.IsList l2 ys) (hl3 : s.heap.IsList l3 zs) (hx : xs[k]? = some x) (hy : ys[k]? = some y) (hv : zs[k]? = some v)
    (hQ : ∀ h', IsZipHeld h' z TI TO T true → h'.IsListIter i1 l1 (k + 1) → h'.IsListIter i2 l2 (k + 1) → h'.IsListIter i3 l3 (k + 1) → IsTri h' s.heap.objs.size x y v → h'.objs.size = s.heap.objs.size + 1 →
      (∀ c o, c ≠ z → c ≠ i1 → c ≠ i2 → c ≠ i3 → s.heap.get? c = some o → h'.get? c = some o) → Q (.ref s.heap.objs.size) { s with heap := h' }) :
    wpAny (model prog w) A (Builtin.«zip.__next__» ⟨[.ref z], []⟩) (fun fin s' => ∃ v, fin = .done (.ret v) ∧ Q v s') E s := by
  show wpAny _ _ (field (.ref z) 2 >>= _) _ _ _
  refine wpAny_bind (wpAny_field hz rfl (x := .bool false) rfl ?_)
  show wpAny _ _ (field (.ref z) 3 >>= _) _ _ _
  refine wpAny_bind (wpAny_field hz rfl (x := .ref TI) rfl ?_)
  refine wpAny_bind (wpAny_seqItems hTI rfl ?_)
  show wpAny _ _ (Builtin.SmallTypes.ownedTupleIsFree (.ref z) >>= _) _ _ _
  refine wpAny_bind (wpAny_tupleHeld_zip hz hT fun h₁ hz₁ hs₁ => ?_)
  simp only [Bool.false_eq_true, if_false]
  refine wpAny_bind ?_
  rw [← Array.forIn_toList]
  simp only [List.forIn_cons, List.forIn_nil]
  refine wpAny_bind (wpAny_bind (wpAny_holding ?_))
  show wpAny _ _ (Builtin.SmallTypes.nextOf (.ref i1) >>= _) _ _ _
  refine wpAny_bind (wpAny_nextOf_list_item (s := { s with heap := h₁ }) (h1.extBut hs₁.extBut D.i1z) (hl1.extBut hs₁.extBut D.l1z) hx fun h₂ h1₂ hs₂ => wpAny_pure ?_)
  refine wpAny_pure ?_
  refine wpAny_bind (wpAny_bind (wpAny_holding ?_))
  show wpAny _ _ (Builtin.SmallTypes.nextOf (.ref i2) >>= _) _ _ _
  refine wpAny_bind (wpAny_nextOf_list_item (s := { s with heap := h₂ }) ((h2.extBut hs₁.extBut D.i2z).extBut hs₂.extBut D.i12.symm) ((hl2.extBut hs₁.extBut D.l2z).extBut hs₂.extBut D.l2i1) hy fun h₃ h2₃ hs₃ => wpAny_pure ?_)
  refine wpAny_pure ?_
  refine wpAny_bind (wpAny_bind (wpAny_holding ?_))
  show wpAny _ _ (Builtin.SmallTypes.nextOf (.ref i3) >>= _) _ _ _
  refine wpAny_bind (wpAny_nextOf_list_item (s := { s with heap := h₃ }) (((h3.extBut hs₁.extBut D.i3z).extBut hs₂.extBut D.i13.symm).extBut hs₃.extBut D.i23.symm) (((hl3.extBut hs₁.extBut D.l3z).extBut hs₂.extBut D.l3i1).extBut hs₃.extBut D.l3i2) hv fun h₄ h3₄ hs₄ => wpAny_pure ?_)
  refine wpAny_pure (wpAny_pure ?_)
  show wpAny _ _ (newTuple [x, y, v] >>= _) _ _ _
  refine wpAny_bind (wpAny_newTuple ?_)
  have hsz : h₄.objs.size = s.heap.objs.size := by rw [hs₄.1, hs₃.1, hs₂.1, hs₁.1]
  have hz₄ : IsZipHeld h₄ z TI TO T true := hs₄.extBut _ _ D.i3z.symm (hs₃.extBut _ _ D.i2z.symm (hs₂.extBut _ _ D.i1z.symm hz₁))
  have hk : ∀ c o, c ≠ z → c ≠ i1 → c ≠ i2 → c ≠ i3 → s.heap.get? c = some o → h₄.get? c = some o := fun c o c1 c2 c3 c4 e => hs₄.extBut _ _ c4 (hs₃.extBut _ _ c3 (hs₂.extBut _ _ c2 (hs₁.extBut _ _ c1 e)))
  have h1₄ : h₄.IsListIter i1 l1 (k + 1) := (h1₂.extBut hs₃.extBut D.i12).extBut hs₄.extBut D.i13
  have h2₄ : h₄.IsListIter i2 l2 (k + 1) := h2₃.extBut hs₄.extBut D.i23
  refine wpAny_pure ⟨_, rfl, ?_⟩
  show Q (.ref h₄.objs.size) _
  have hp : IsTri (h₄.push { cls := .type "tuple", data := .seq #[x, y, v] }) h₄.objs.size x y v := Heap.get?_push_size _ rfl
  have hz5 : (h₄.push { cls := .type "tuple", data := .seq #[x, y, v] }).objs.size = h₄.objs.size + 1 := Heap.size_push ..
  rw [hsz] at hp hz5 ⊢
  exact hQ _ (Heap.get?_push_of_some _ hz₄) (h1₄.at fun o e => Heap.get?_push_of_some _ e) (h2₄.at fun o e => Heap.get?_push_of_some _ e) (h3₄.at fun o e => Heap.get?_push_of_some _ e) hp hz5 fun c o c1 c2 c3 c4 e => Heap.get?_push_of_some _ (hk c o c1 c2 c3 c4 e)
theorem zg3_end_held {z TI TO T i1 i2 i3 l1 l2 l3 : Addr} {f : Bool} {oT : Obj} {k : Nat} {xs ys zs : Array Value} {Q : Fin → Shared → Prop} (hh : A.handled = none) (D : ZApart3 z TI TO i1 i2 i3 l1 l2 l3)
    (hz : IsZipHeld s.heap z TI TO T f) (hT : s.heap.get? T = some oT) (hTI : IsTri s.heap TI (.ref i1) (.ref i2) (.ref i3))
    (h1 : s.heap.IsListIter i1 l1 k) (h2 : s.heap.IsListIter i2 l2 k) (h3 : s.heap.IsListIter i3 l3 k) (hl1 : s.heap.IsList l1 xs) (hl2 : s.heap.IsList l2 ys) (hl3 : s.heap.IsList l3 zs) (hend : xs[k]? = none ∨ ys[k]? = none ∨ zs[k]? = none)
    (hE : ∀ h' e, (∀ c o, c ≠ z → c ≠ i1 → c ≠ i2 → c ≠ i3 → s.heap.get? c = some o → h'.get? c = some o) → (∃ o, h'.get? e = some o ∧ o.cls = .type "StopIteration") → E (.ref e) { s with heap := h' }) :
    wpAny (model prog w) A (Builtin.«zip.__next__» ⟨[.ref z], []⟩) Q E s := by
  show wpAny _ _ (field (.ref z) 2 >>= _) _ _ _
  refine wpAny_bind (wpAny_field hz rfl (x := .bool false) rfl ?_)
  show wpAny _ _ (field (.ref z) 3 >>= _) _ _ _
  refine wpAny_bind (wpAny_field hz rfl (x := .ref TI) rfl ?_)
  refine wpAny_bind (wpAny_seqItems hTI rfl ?_)
  show wpAny _ _ (Builtin.SmallTypes.ownedTupleIsFree (.ref z) >>= _) _ _ _
  refine wpAny_bind (wpAny_tupleHeld_zip hz hT fun h₁ hz₁ hs₁ => ?_)
  simp only [Bool.false_eq_true, if_false]
  refine wpAny_bind ?_
  rw [← Array.forIn_toList]
  simp only [List.forIn_cons, List.forIn_nil]
  refine wpAny_bind (wpAny_bind (wpAny_holding ?_))
  show wpAny _ _ (Builtin.SmallTypes.nextOf (.ref i1) >>= _) _ _ _
  cases hx : xs[k]? with
  | none =>
    refine wpAny_bind (wpAny_nextOf_list_end (s := { s with heap := h₁ }) hh (h1.extBut hs₁.extBut D.i1z) (hl1.extBut hs₁.extBut D.l1z) hx fun h₂ e hs₂ he => ?_)
    exact hE h₂ e (fun c o c1 c2 _ _ x => hs₂ _ _ c2 (hs₁.extBut _ _ c1 x)) he
  | some x =>
    refine wpAny_bind (wpAny_nextOf_list_item (s := { s with heap := h₁ }) (h1.extBut hs₁.extBut D.i1z) (hl1.extBut hs₁.extBut D.l1z) hx fun h₂ h1₂ hs₂ => wpAny_pure ?_)
    refine wpAny_pure ?_
    refine wpAny_bind (wpAny_bind (wpAny_holding ?_))
    show wpAny _ _ (Builtin.SmallTypes.nextOf (.ref i2) >>= _) _ _ _
    cases hy : ys[k]? with
    | none =>
      refine wpAny_bind (wpAny_nextOf_list_end (s := { s with heap := h₂ }) hh ((h2.extBut hs₁.extBut D.i2z).extBut hs₂.extBut D.i12.symm) ((hl2.extBut hs₁.extBut D.l2z).extBut hs₂.extBut D.l2i1) hy fun h₃ e hs₃ he => ?_)
      exact hE h₃ e (fun c o c1 c2 c3 _ x => hs₃ _ _ c3 (hs₂.extBut _ _ c2 (hs₁.extBut _ _ c1 x))) he
    | some y =>
      have hv : zs[k]? = none := by
        rcases hend with h | h | h
        · rw [hx] at h; cases h
        · rw [hy] at h; cases h
        · exact h
      refine wpAny_bind (wpAny_nextOf_list_item (s := { s with heap := h₂ }) ((h2.extBut hs₁.extBut D.i2z).extBut hs₂.extBut D.i12.symm) ((hl2.extBut hs₁.extBut D.l2z).extBut hs₂.extBut D.l2i1) hy fun h₃ h2₃ hs₃ => wpAny_pure ?_)
      refine wpAny_pure ?_
      refine wpAny_bind (wpAny_bind (wpAny_holding ?_))
      show wpAny _ _ (Builtin.SmallTypes.nextOf (.ref i3) >>= _) _ _ _
      refine wpAny_bind (wpAny_nextOf_list_end (s := { s with heap := h₃ }) hh (((h3.extBut hs₁.extBut D.i3z).extBut hs₂.extBut D.i13.symm).extBut hs₃.extBut D.i23.symm) (((hl3.extBut hs₁.extBut D.l3z).extBut hs₂.extBut D.l3i1).extBut hs₃.extBut D.l3i2) hv fun h₄ e hs₄ he => ?_)
      exact hE h₄ e (fun c o c1 c2 c3 c4 x => hs₄ _ _ c4 (hs₃.extBut _ _ c3 (hs₂.extBut _ _ c2 (hs₁.extBut _ _ c1 x)))) he
/-! any step of a zip of three -/
theorem zg3_next {z TI TO i1 i2 i3 l1 l2 l3 : Addr} {F0 F1 : Value} {k : Nat} {xs ys zs : Array Value} {x y v a b c : Value} {Q : Option Value → Shared → Prop} (D : ZApart3 z TI TO i1 i2 i3 l1 l2 l3)
    (hz : IsZG s.heap z TI TO F0 F1) (ok : ZgOk F0 F1) (hTI : IsTri s.heap TI (.ref i1) (.ref i2) (.ref i3)) (hTO : IsTri s.heap TO a b c)
    (h1 : s.heap.IsListIter i1 l1 k) (h2 : s.heap.IsListIter i2 l2 k) (h3 : s.heap.IsListIter i3 l3 k) (hl1 : s.heap.IsList l1 xs) (hl2 : s.heap.IsList l2 ys) (hl3 : s.heap.IsList l3 zs) (hx : xs[k]? = some x) (hy : ys[k]? = some y) (hv : zs[k]? = some v)
    (hQ : ∀ h' G0 G1 a' b' c', IsZG h' z TI TO G0 G1 → ZgOk G0 G1 → IsTri h' TO a' b' c' → h'.IsListIter i1 l1 (k + 1) → h'.IsListIter i2 l2 (k + 1) → h'.IsListIter i3 l3 (k + 1) → IsTri h' s.heap.objs.size x y v → h'.objs.size = s.heap.objs.size + 1 →
      (∀ c o, c ≠ z → c ≠ TO → c ≠ i1 → c ≠ i2 → c ≠ i3 → s.heap.get? c = some o → h'.get? c = some o) → Q (some (.ref s.heap.objs.size)) { s with heap := h' }) :
    wpAny (model prog w) A (pyNext (.ref z)) Q E s := by
  have hT : s.TypeIs (.ref z) "zip" := ⟨_, hz, rfl⟩
  rcases zg_free (prog := prog) (w := w) hz ok with hf | ⟨T, f, oT, hd, ht⟩
  · unfold pyNext
    exact wpAny_bind (wpAny_attempt (wpAny_callSpecial?_slot (name := Str.ofString "__next__") hT F.slot_zip_next
      (wpAny_call_entry F.slot_zip_next hT F.entry_zip_next
        (zg3_item D hz hf hTI hTO h1 h2 h3 hl1 hl2 hl3 hx hy hv fun h' a1 a2 a3 a4 a5 a6 a7 a8 => wpAny_pure (hQ h' _ _ _ _ _ a1 (.inr ⟨_, _, rfl, rfl⟩) a2 a3 a4 a5 a6 a7 a8)) (F.args_zip_next_1 _))))
  · unfold pyNext
    exact wpAny_bind (wpAny_attempt (wpAny_callSpecial?_slot (name := Str.ofString "__next__") hT F.slot_zip_next
      (wpAny_call_entry F.slot_zip_next hT F.entry_zip_next
        (zg3_item_held D hd ht hTI h1 h2 h3 hl1 hl2 hl3 hx hy hv fun h' a1 a2 a3 a4 a5 a6 a7 => wpAny_pure (hQ h' _ _ _ _ _ a1 (.inr ⟨_, _, rfl, rfl⟩) (a7 _ _ D.TOz D.TOi1 D.TOi2 D.TOi3 hTO) a2 a3 a4 a5 a6 fun c o c1 _ c3 c4 c5 e => a7 c o c1 c3 c4 c5 e)) (F.args_zip_next_1 _))))
theorem zg3_stop {z TI TO i1 i2 i3 l1 l2 l3 : Addr} {F0 F1 : Value} {k : Nat} {xs ys zs : Array Value} {a b c : Value} {Q : Option Value → Shared → Prop} (hh : A.handled = none) (D : ZApart3 z TI TO i1 i2 i3 l1 l2 l3)
    (hz : IsZG s.heap z TI TO F0 F1) (ok : ZgOk F0 F1) (hTI : IsTri s.heap TI (.ref i1) (.ref i2) (.ref i3)) (hTO : IsTri s.heap TO a b c)
    (h1 : s.heap.IsListIter i1 l1 k) (h2 : s.heap.IsListIter i2 l2 k) (h3 : s.heap.IsListIter i3 l3 k) (hl1 : s.heap.IsList l1 xs) (hl2 : s.heap.IsList l2 ys) (hl3 : s.heap.IsList l3 zs) (hend : xs[k]? = none ∨ ys[k]? = none ∨ zs[k]? = none)
    (hQ : ∀ h', (∀ c o, c ≠ z → c ≠ TO → c ≠ i1 → c ≠ i2 → c ≠ i3 → s.heap.get? c = some o → h'.get? c = some o) → Q none { s with heap := h' }) : wpAny (model prog w) A (pyNext (.ref z)) Q E s := by
  have hT : s.TypeIs (.ref z) "zip" := ⟨_, hz, rfl⟩
  rcases zg_free (prog := prog) (w := w) hz ok with hf | ⟨T, f, oT, hd, ht⟩
  · unfold pyNext
    refine wpAny_bind (wpAny_attempt (wpAny_callSpecial?_slot (name := Str.ofString "__next__") hT F.slot_zip_next
      (wpAny_call_entry F.slot_zip_next hT F.entry_zip_next (zg3_end hh D hz hf hTI hTO h1 h2 h3 hl1 hl2 hl3 hend fun h' e hk he => ?_) (F.args_zip_next_1 _))))
    obtain ⟨o, ho, hc⟩ := he
    refine wpAny_bind (wpAny_isInstance (T := "StopIteration") (b := true) ⟨o, ho, hc⟩ isSubtype_stop ?_)
    exact wpAny_pure (hQ _ hk)
  · unfold pyNext
    refine wpAny_bind (wpAny_attempt (wpAny_callSpecial?_slot (name := Str.ofString "__next__") hT F.slot_zip_next
      (wpAny_call_entry F.slot_zip_next hT F.entry_zip_next (zg3_end_held hh D hd ht hTI h1 h2 h3 hl1 hl2 hl3 hend fun h' e hk he => ?_) (F.args_zip_next_1 _))))
    obtain ⟨o, ho, hc⟩ := he
    refine wpAny_bind (wpAny_isInstance (T := "StopIteration") (b := true) ⟨o, ho, hc⟩ isSubtype_stop ?_)
    exact wpAny_pure (hQ _ fun c o c1 _ c3 c4 c5 e => hk c o c1 c3 c4 c5 e)
end
theorem zg3_pyIter {prog : Program} {w : World} {A : Around} {E : Value → Shared → Prop} {s : Shared} {z TI TO : Addr} {f0 f1 : Value} {Q : Value → Shared → Prop} (hz : IsZG s.heap z TI TO f0 f1) (h : Q (.ref z) s) : wpAny (model prog w) A (pyIter (.ref z)) Q E s := by
  have hT : s.TypeIs (.ref z) "zip" := ⟨_, hz, rfl⟩
  refine wpAny_pyIter_slot hT F.slot_zip_iter (wpAny_call_entry F.slot_zip_iter hT F.entry_zip_iter ?_ (F.args_zip_iter_1 _))
  show wpAny _ _ (ret (.ref z)) _ _ s
  exact wpAny_pure ⟨_, rfl, "zip", _, hT, F.slot_zip_next.lookup, h⟩
namespace F
theorem typeCall_zip3 (a b c : Value) : checkTypeCall "zip" ⟨[a, b, c], []⟩ = pure () := by kernel_rfl
theorem newCall_zip3 (a b c : Value) : checkBuiltinCall "zip.__new__" ⟨[.type "zip", a, b, c], []⟩ = pure () := by kernel_rfl
theorem args_obj_init4 (a b c d : Value) : argsOk "object.__init__" ⟨[a, b, c, d], []⟩ := by
  unfold argsOk; rw [signature?_of (id := "object.__init__") (n := ['_', '_', 't', 'i', 'n', 'i', '_', '_']) (o := ['t', 'c', 'e', 'j', 'b', 'o']) (by kernel_rfl) owner_object]; kernel_rfl
end F
abbrev zg3H1 (h : Heap) (l1 : Addr) : Heap := h.push { cls := .type "list_iterator", data := .fields #[.ref l1, .int 0 0] }
abbrev zg3H2 (h : Heap) (l1 l2 : Addr) : Heap := (zg3H1 h l1).push { cls := .type "list_iterator", data := .fields #[.ref l2, .int 0 0] }
abbrev zg3H3 (h : Heap) (l1 l2 l3 : Addr) : Heap := (zg3H2 h l1 l2).push { cls := .type "list_iterator", data := .fields #[.ref l3, .int 0 0] }
abbrev zg3H4 (h : Heap) (l1 l2 l3 : Addr) : Heap := (zg3H3 h l1 l2 l3).push { cls := .type "tuple", data := .seq #[.ref h.objs.size, .ref (zg3H1 h l1).objs.size, .ref (zg3H2 h l1 l2).objs.size] }
abbrev zg3H5 (h : Heap) (l1 l2 l3 : Addr) : Heap := (zg3H4 h l1 l2 l3).push { cls := .type "tuple", data := .seq #[.none, .none, .none] }
abbrev zg3H6 (h : Heap) (l1 l2 l3 : Addr) : Heap := (zg3H5 h l1 l2 l3).push { cls := .type "zip", data := .fields #[.none, .bool false, .bool false, .ref (zg3H3 h l1 l2 l3).objs.size, .ref (zg3H4 h l1 l2 l3).objs.size] }
theorem meets_zip3_new (l1 l2 l3 : Addr) (xs ys zs : Array Value) :
    Meets (Builtin.«zip.__new__» ⟨[.type "zip", .ref l1, .ref l2, .ref l3], []⟩) (fun _ R s => s.heap.IsList l1 xs ∧ s.heap.IsList l2 ys ∧ s.heap.IsList l3 zs ∧
      R (.ok (.ret (.ref (zg3H5 s.heap l1 l2 l3).objs.size))) { s with heap := zg3H6 s.heap l1 l2 l3 }) :=
  .of_wp fun prog w A R s h => by
    obtain ⟨hp, g, d, tk, os⟩ := s; obtain ⟨hl1, hl2, hl3, h⟩ := h
    have hsub := sub_zip
    have hL1 : Heap.IsList (Shared.heap ⟨hp, g, d, tk, os⟩) l1 xs := hl1
    have hL2 : Heap.IsList (Shared.heap ⟨hp.push { cls := .type "list_iterator", data := .fields #[.ref l1, .int 0 0] }, g, d, tk, os⟩) l2 ys := Heap.IsList.push hl2 _
    have hL3 : Heap.IsList (Shared.heap ⟨(hp.push { cls := .type "list_iterator", data := .fields #[.ref l1, .int 0 0] }).push { cls := .type "list_iterator", data := .fields #[.ref l2, .int 0 0] }, g, d, tk, os⟩) l3 zs := Heap.IsList.push (Heap.IsList.push hl3 _) _
    wp_walk using wpAny_pyIter_list hL1, wpAny_pyIter_list hL2, wpAny_pyIter_list hL3
    exact ⟨_, rfl, h⟩
section
variable {prog : Program} {w : World} {A : Around} {E : Value → Shared → Prop} {s : Shared}
theorem call_zip3 {l1 l2 l3 : Addr} {xs ys zs : Array Value} {Q : Value → Shared → Prop} (hl1 : s.heap.IsList l1 xs) (hl2 : s.heap.IsList l2 ys) (hl3 : s.heap.IsList l3 zs)
    (h : ∀ h', IsZG h' (s.heap.objs.size + 5) (s.heap.objs.size + 3) (s.heap.objs.size + 4) .none (.bool false) → IsTri h' (s.heap.objs.size + 3) (.ref s.heap.objs.size) (.ref (s.heap.objs.size + 1)) (.ref (s.heap.objs.size + 2)) →
      IsTri h' (s.heap.objs.size + 4) .none .none .none → h'.IsListIter s.heap.objs.size l1 0 → h'.IsListIter (s.heap.objs.size + 1) l2 0 → h'.IsListIter (s.heap.objs.size + 2) l3 0 → h'.objs.size = s.heap.objs.size + 6 →
      (∀ c o, s.heap.get? c = some o → h'.get? c = some o) → Q (.ref (s.heap.objs.size + 5)) { s with heap := h' }) :
    wpAny (model prog w) A (call (.type "zip") [.ref l1, .ref l2, .ref l3]) Q E s := by
  refine callType_new F.called_zip (by decide) (F.typeCall_zip3 _ _ _) (F.newCall_zip3 _ _ _) (fun obj => F.args_obj_init4 obj _ _ _) F.entry_zip_new
    (meets_zip3_new l1 l2 l3 xs ys zs) ⟨hl1, hl2, hl3, ?_⟩
  have z1 : (zg3H1 s.heap l1).objs.size = s.heap.objs.size + 1 := Heap.size_push ..
  have z2 : (zg3H2 s.heap l1 l2).objs.size = s.heap.objs.size + 2 := by rw [Heap.size_push, z1]
  have z3 : (zg3H3 s.heap l1 l2 l3).objs.size = s.heap.objs.size + 3 := by rw [Heap.size_push, z2]
  have z4 : (zg3H4 s.heap l1 l2 l3).objs.size = s.heap.objs.size + 4 := by rw [Heap.size_push, z3]
  have z5 : (zg3H5 s.heap l1 l2 l3).objs.size = s.heap.objs.size + 5 := by rw [Heap.size_push, z4]
  have z6 : (zg3H6 s.heap l1 l2 l3).objs.size = s.heap.objs.size + 6 := by rw [Heap.size_push, z5]
  have g6 : (zg3H6 s.heap l1 l2 l3).get? (zg3H5 s.heap l1 l2 l3).objs.size = some _ := Heap.get?_push_size _ rfl
  have g5 : (zg3H6 s.heap l1 l2 l3).get? (zg3H4 s.heap l1 l2 l3).objs.size = some _ := Heap.get?_push_of_some _ (Heap.get?_push_size _ rfl)
  have g4 : (zg3H6 s.heap l1 l2 l3).get? (zg3H3 s.heap l1 l2 l3).objs.size = some _ := Heap.get?_push_of_some _ (Heap.get?_push_of_some _ (Heap.get?_push_size _ rfl))
  have g3 : (zg3H6 s.heap l1 l2 l3).get? (zg3H2 s.heap l1 l2).objs.size = some _ := Heap.get?_push_of_some _ (Heap.get?_push_of_some _ (Heap.get?_push_of_some _ (Heap.get?_push_size _ rfl)))
  have g2 : (zg3H6 s.heap l1 l2 l3).get? (zg3H1 s.heap l1).objs.size = some _ := Heap.get?_push_of_some _ (Heap.get?_push_of_some _ (Heap.get?_push_of_some _ (Heap.get?_push_of_some _ (Heap.get?_push_size _ rfl))))
  have g1 : (zg3H6 s.heap l1 l2 l3).get? s.heap.objs.size = some _ := Heap.get?_push_of_some _ (Heap.get?_push_of_some _ (Heap.get?_push_of_some _ (Heap.get?_push_of_some _ (Heap.get?_push_of_some _ (Heap.get?_push_size _ rfl)))))
  show _ ∧ _
  rw [z3, z4, z5] at g6
  rw [z1, z2, z3] at g4
  rw [z4] at g5
  rw [z2] at g3
  rw [z1] at g2
  rw [z5]
  exact ⟨⟨_, g6, rfl⟩, h _ g6 g4 g5 ⟨_, g1, rfl, rfl⟩ ⟨_, g2, rfl, rfl⟩ ⟨_, g3, rfl, rfl⟩ z6 fun c o x =>
    Heap.get?_push_of_some _ (Heap.get?_push_of_some _ (Heap.get?_push_of_some _ (Heap.get?_push_of_some _ (Heap.get?_push_of_some _ (Heap.get?_push_of_some _ x)))))⟩
end
end PySem
namespace Ovc
open PySem PySem.Spec PyProof.Rows L2
end Ovc
namespace L2
open PySem PySem.Spec PyProof.Rows
theorem zgo_name {M : Model} {A : Around} {E : Value → Shared → Prop} {s : Shared} {x : Str} {px : Pos} {it u : Value} {Q : Unit → Shared → Prop} (q : Q () s) : wpAny M A (letOwnedTupleGo (.Name x px) it u) Q E s := wpAny_pure q
theorem turn_zipN {P : Program} {w : World} {K : PySem.W.Frag} {x : Str} {px : Pos} {a b z TI TO i1 i2 : Addr} (D : ZipApart z TI TO i1 i2 a b) :
    Turn P w K (.Name x px) (Itz K a b) [z, TI, TO, i1, i2] z (fun i h => (∃ F0 F1, IsZG h z TI TO F0 F1 ∧ ZgOk F0 F1) ∧ IsPair h TI (.ref i1) (.ref i2) ∧ (∃ x y, IsPair h TO x y) ∧ h.IsListIter i1 a i ∧ h.IsListIter i2 b i) where
  mem := by simp
  obj := fun i h st c hc => by
    obtain ⟨⟨F0, F1, hz, _⟩, hTI, ⟨x, y, hTO⟩, ⟨o1, e1, _, d1⟩, ⟨o2, e2, _, d2⟩⟩ := st
    have e' : c = z ∨ c = TI ∨ c = TO ∨ c = i1 ∨ c = i2 := by simpa using hc
    rcases e' with q | q | q | q | q
    · rw [q]; exact ⟨_, hz, fun v q => nomatch q⟩
    · rw [q]; exact ⟨_, hTI, fun v q => nomatch q⟩
    · rw [q]; exact ⟨_, hTO, fun v q => nomatch q⟩
    · rw [q]; exact ⟨o1, e1, fun v q => by rw [d1] at q; cases q⟩
    · rw [q]; exact ⟨o2, e2, fun v q => by rw [d2] at q; cases q⟩
  keep := fun i h h' st k => by
    obtain ⟨⟨F0, F1, hz, ok⟩, hTI, ⟨x, y, hTO⟩, h1, h2⟩ := st
    exact ⟨⟨F0, F1, k z (by simp) _ hz, ok⟩, k TI (by simp) _ hTI, ⟨x, y, k TO (by simp) _ hTO⟩, h1.at fun o q => k i1 (by simp) o q, h2.at fun o q => k i2 (by simp) o q⟩
  item := by
    intro X hP hw hK hc i pins s σ H E I hf st hg
    subst hP hw hK
    obtain ⟨⟨F0, F1, hz, ok⟩, hTI, ⟨x0, y0, hTO⟩, h1, h2⟩ := st
    obtain ⟨xs, ys, x, y, hqx, hqy, hx, hy⟩ := hg
    obtain ⟨its, rv, p, _⟩ := I.list hqx
    obtain ⟨its2, rv2, p2, _⟩ := I.list hqy
    obtain ⟨u, hu, ru⟩ := rv.get hx
    obtain ⟨u2, hu2, ru2⟩ := rv2.get hy
    refine zg2_next D hz ok hTI hTO h1 h2 p.isList p2.isList (x := u) (y := u2) (by simpa using hu) (by simpa using hu2) fun h' G0 G1 c d z' ok' TO' h1' h2' hT hsz hk => ?_
    refine ⟨_, rfl, zgo_name ?_⟩
    have new : ObjOk X.prog X.w (upd H s.heap.objs.size (.tup [x, y])) h' s.heap.objs.size (.tup [x, y]) :=
      ⟨by show 2 ≤ sizeLine; decide, [u, u2], .cons ru (.cons ru2 .nil), ⟨_, hT, rfl, _, rfl⟩⟩
    have I1 : Inv X pins σ (upd H s.heap.objs.size (.tup [x, y])) { s with heap := h' } :=
      I.turnedNew (t' := s.toks) (ch := [z, TI, TO, i1, i2]) (fun c o hb q => hk c o (fun q' => hb (by simp [q'])) (fun q' => hb (by simp [q'])) (fun q' => hb (by simp [q'])) (fun q' => hb (by simp [q'])) q) hf (Nat.le_refl _) new
    refine ⟨.ref s.heap.objs.size, _, I1, rfl, ⟨_, x, y, rfl, I.hok.fresh (Nat.le_refl _), rfl, fun l hl => by rw [I.list_inj hl hqx]; exact hx, fun l hl => by rw [I.list_inj hl hqy]; exact hy⟩, ⟨⟨G0, G1, z', ok'⟩, ?_, ⟨c, d, TO'⟩, h1', h2'⟩, fun c hcm => ?_⟩
    · exact hk _ _ D.TIz D.TITO D.TIi1 D.TIi2 hTI
    · have hlt : c < s.heap.objs.size := by
        have e' : c = z ∨ c = TI ∨ c = TO ∨ c = i1 ∨ c = i2 := by simpa using hcm
        rcases e' with q | q | q | q | q
        · rw [q]; exact Heap.lt_size hz
        · rw [q]; exact Heap.lt_size hTI
        · rw [q]; exact Heap.lt_size hTO
        · rw [q]; obtain ⟨_, e1, _⟩ := h1; exact Heap.lt_size e1
        · rw [q]; obtain ⟨_, e2, _⟩ := h2; exact Heap.lt_size e2
      rw [upd_ne (Nat.ne_of_lt hlt)]
      exact (hf c hcm).1
  done := by
    intro X hP hw hK hc i pins s σ H E I hf st hg
    subst hP hw hK
    obtain ⟨⟨F0, F1, hz, ok⟩, hTI, ⟨x0, y0, hTO⟩, h1, h2⟩ := st
    obtain ⟨xs, ys, hqx, hqy, hend⟩ := hg
    obtain ⟨its, rv, p, _⟩ := I.list hqx
    obtain ⟨its2, rv2, p2, _⟩ := I.list hqy
    have l1 := rv.length
    have l2 := rv2.length
    have he : its.toArray[i]? = none ∨ its2.toArray[i]? = none := by
      rcases hend with q | q
      · exact .inl (by simp; omega)
      · exact .inr (by simp; omega)
    exact zg2_stop (I.ok.hd hc) D hz ok hTI hTO h1 h2 p.isList p2.isList he fun h' hk => ⟨rfl, I.turnedL (t' := s.toks) (ch := [z, TI, TO, i1, i2]) (fun c o hb q =>
      hk c o (fun q' => hb (by simp [q'])) (fun q' => hb (by simp [q'])) (fun q' => hb (by simp [q'])) (fun q' => hb (by simp [q'])) q) hf⟩
  self := fun A i s Q E st h => by
    obtain ⟨⟨F0, F1, hz, _⟩, _⟩ := st
    exact zg3_pyIter hz h
theorem pi_zipN {X : Cx} {e e2 : Expr} {ta : TA} {p pos px : Pos} {x : Str} (hg : Gl X "zip") (hm : X.mg "zip" = none) (ha : PA X [e, e2] ta)
    (hs : starEach [e, e2] X.env = (false, eval e X.env) :: starEach [e2] X.env := by rfl) (hpl : (backTo pos (starEach [e2] X.env)).any (·.1) = false := by rfl) :
    PI X (.Name x px) (.Call (.Name "zip" p) [e, e2] [] pos) (iZip X.K ta) := by
  refine ⟨fun pins s σ H R I h => ?_⟩
  refine Call_ (ld_blt I hg hm PyProof.Rows.boot_zip (PyProof.Rows.callWith_type1 (thn (ha.run _ pins s σ H _ I h) fun us s1 ⟨vs, H1, I1, r1, q1⟩ => ?_) hs hpl))
  obtain ⟨a, b, xs, ys, ex, hqx, hqy, q⟩ := q1
  subst ex
  obtain ⟨u1, u2, rfl, r, r'⟩ := vals2 r1
  cases r
  cases r'
  obtain ⟨its, rv, p1, _⟩ := I1.list hqx
  obtain ⟨its2, rv2, p2, _⟩ := I1.list hqy
  have la : a < s1.heap.objs.size := p1.lt
  have lb : b < s1.heap.objs.size := p2.lt
  refine call_zip_2 p1.isList p2.isList fun h' hz hTI hTO h1 h2 hsz hk => wpAny_pyIter_zip hz ?_
  have I2 : Inv X pins σ H1 { s1 with heap := h' } := I1.kept (t' := s1.toks) hk
  refine ⟨s1.heap.objs.size + 4, [s1.heap.objs.size + 4, s1.heap.objs.size + 2, s1.heap.objs.size + 3, s1.heap.objs.size, s1.heap.objs.size + 1], _, _, H1, rfl, I2, turn_zipN (PySem.W.ktu_apart s1.heap.objs.size a b la lb), ⟨⟨_, _, hz, .inl ⟨rfl, rfl⟩⟩, hTI, ⟨_, _, hTO⟩, h1, h2⟩, fun c hcm => ?_, q⟩
  have e' : c = s1.heap.objs.size + 4 ∨ c = s1.heap.objs.size + 2 ∨ c = s1.heap.objs.size + 3 ∨ c = s1.heap.objs.size ∨ c = s1.heap.objs.size + 1 := by simpa using hcm
  have hle : s1.heap.objs.size ≤ c := by
    rcases e' with z | z | z | z | z
    · rw [z]; exact Nat.le_add_right _ _
    · rw [z]; exact Nat.le_add_right _ _
    · rw [z]; exact Nat.le_add_right _ _
    · rw [z]; exact Nat.le_refl _
    · rw [z]; exact Nat.le_add_right _ _
  exact I1.fpOk hle (I1.hok.fresh hle)
/-! three lists -/
def Itz3 (K : PySem.W.Frag) (a b c : Addr) : It :=
  ⟨fun i H => ∃ (xs ys zs : List V) (x y v : V), SqL K H a xs ∧ SqL K H b ys ∧ SqL K H c zs ∧ xs[i]? = some x ∧ ys[i]? = some y ∧ zs[i]? = some v,
    fun i H u H' => ∃ T x y v, u = .ref T ∧ H T = none ∧ H' = upd H T (.tup [x, y, v]) ∧ (∀ xs, SqL K H a xs → xs[i]? = some x) ∧ (∀ ys, SqL K H b ys → ys[i]? = some y) ∧ ∀ zs, SqL K H c zs → zs[i]? = some v,
    fun i H => ∃ xs ys zs : List V, SqL K H a xs ∧ SqL K H b ys ∧ SqL K H c zs ∧ (xs.length ≤ i ∨ ys.length ≤ i ∨ zs.length ≤ i)⟩
theorem turn_zip3N {P : Program} {w : World} {K : PySem.W.Frag} {x : Str} {px : Pos} {a b d z TI TO i1 i2 i3 : Addr} (D : ZApart3 z TI TO i1 i2 i3 a b d) :
    Turn P w K (.Name x px) (Itz3 K a b d) [z, TI, TO, i1, i2, i3] z (fun i h => (∃ F0 F1, IsZG h z TI TO F0 F1 ∧ ZgOk F0 F1) ∧ IsTri h TI (.ref i1) (.ref i2) (.ref i3) ∧ (∃ x y v, IsTri h TO x y v) ∧ h.IsListIter i1 a i ∧ h.IsListIter i2 b i ∧ h.IsListIter i3 d i) where
  mem := by simp
  obj := fun i h st c hc => by
    obtain ⟨⟨F0, F1, hz, _⟩, hTI, ⟨x, y, v, hTO⟩, ⟨o1, e1, _, d1⟩, ⟨o2, e2, _, d2⟩, ⟨o3, e3, _, d3⟩⟩ := st
    have e' : c = z ∨ c = TI ∨ c = TO ∨ c = i1 ∨ c = i2 ∨ c = i3 := by simpa using hc
    rcases e' with q | q | q | q | q | q
    · rw [q]; exact ⟨_, hz, fun v q => nomatch q⟩
    · rw [q]; exact ⟨_, hTI, fun v q => nomatch q⟩
    · rw [q]; exact ⟨_, hTO, fun v q => nomatch q⟩
    · rw [q]; exact ⟨o1, e1, fun v q => by rw [d1] at q; cases q⟩
    · rw [q]; exact ⟨o2, e2, fun v q => by rw [d2] at q; cases q⟩
    · rw [q]; exact ⟨o3, e3, fun v q => by rw [d3] at q; cases q⟩
  keep := fun i h h' st k => by
    obtain ⟨⟨F0, F1, hz, ok⟩, hTI, ⟨x, y, v, hTO⟩, h1, h2, h3⟩ := st
    exact ⟨⟨F0, F1, k z (by simp) _ hz, ok⟩, k TI (by simp) _ hTI, ⟨x, y, v, k TO (by simp) _ hTO⟩, h1.at fun o q => k i1 (by simp) o q, h2.at fun o q => k i2 (by simp) o q, h3.at fun o q => k i3 (by simp) o q⟩
  item := by
    intro X hP hw hK hc i pins s σ H E I hf st hg
    subst hP hw hK
    obtain ⟨⟨F0, F1, hz, ok⟩, hTI, ⟨x0, y0, v0, hTO⟩, h1, h2, h3⟩ := st
    obtain ⟨xs, ys, zs, x, y, v, hqx, hqy, hqz, hx, hy, hv⟩ := hg
    obtain ⟨its, rv, p, _⟩ := I.list hqx
    obtain ⟨its2, rv2, p2, _⟩ := I.list hqy
    obtain ⟨its3, rv3, p3, _⟩ := I.list hqz
    obtain ⟨u, hu, ru⟩ := rv.get hx
    obtain ⟨u2, hu2, ru2⟩ := rv2.get hy
    obtain ⟨u3, hu3, ru3⟩ := rv3.get hv
    refine zg3_next D hz ok hTI hTO h1 h2 h3 p.isList p2.isList p3.isList (x := u) (y := u2) (v := u3) (by simpa using hu) (by simpa using hu2) (by simpa using hu3) fun h' G0 G1 ca cb cc z' ok' TO' h1' h2' h3' hT hsz hk => ?_
    refine ⟨_, rfl, zgo_name ?_⟩
    have new : ObjOk X.prog X.w (upd H s.heap.objs.size (.tup [x, y, v])) h' s.heap.objs.size (.tup [x, y, v]) :=
      ⟨by show 3 ≤ sizeLine; decide, [u, u2, u3], .cons ru (.cons ru2 (.cons ru3 .nil)), ⟨_, hT, rfl, _, rfl⟩⟩
    have I1 : Inv X pins σ (upd H s.heap.objs.size (.tup [x, y, v])) { s with heap := h' } :=
      I.turnedNew (t' := s.toks) (ch := [z, TI, TO, i1, i2, i3]) (fun c o hb q => hk c o (fun q' => hb (by simp [q'])) (fun q' => hb (by simp [q'])) (fun q' => hb (by simp [q'])) (fun q' => hb (by simp [q'])) (fun q' => hb (by simp [q'])) q) hf (Nat.le_refl _) new
    refine ⟨.ref s.heap.objs.size, _, I1, rfl, ⟨_, x, y, v, rfl, I.hok.fresh (Nat.le_refl _), rfl, fun l hl => by rw [I.list_inj hl hqx]; exact hx, fun l hl => by rw [I.list_inj hl hqy]; exact hy, fun l hl => by rw [I.list_inj hl hqz]; exact hv⟩, ⟨⟨G0, G1, z', ok'⟩, ?_, ⟨ca, cb, cc, TO'⟩, h1', h2', h3'⟩, fun c hcm => ?_⟩
    · exact hk _ _ D.TIz D.TITO D.TIi1 D.TIi2 D.TIi3 hTI
    · have hlt : c < s.heap.objs.size := by
        have e' : c = z ∨ c = TI ∨ c = TO ∨ c = i1 ∨ c = i2 ∨ c = i3 := by simpa using hcm
        rcases e' with q | q | q | q | q | q
        · rw [q]; exact Heap.lt_size hz
        · rw [q]; exact Heap.lt_size hTI
        · rw [q]; exact Heap.lt_size hTO
        · rw [q]; obtain ⟨_, e1, _⟩ := h1; exact Heap.lt_size e1
        · rw [q]; obtain ⟨_, e2, _⟩ := h2; exact Heap.lt_size e2
        · rw [q]; obtain ⟨_, e3, _⟩ := h3; exact Heap.lt_size e3
      rw [upd_ne (Nat.ne_of_lt hlt)]
      exact (hf c hcm).1
  done := by
    intro X hP hw hK hc i pins s σ H E I hf st hg
    subst hP hw hK
    obtain ⟨⟨F0, F1, hz, ok⟩, hTI, ⟨x0, y0, v0, hTO⟩, h1, h2, h3⟩ := st
    obtain ⟨xs, ys, zs, hqx, hqy, hqz, hend⟩ := hg
    obtain ⟨its, rv, p, _⟩ := I.list hqx
    obtain ⟨its2, rv2, p2, _⟩ := I.list hqy
    obtain ⟨its3, rv3, p3, _⟩ := I.list hqz
    have l1 := rv.length
    have l2 := rv2.length
    have l3 := rv3.length
    have he : its.toArray[i]? = none ∨ its2.toArray[i]? = none ∨ its3.toArray[i]? = none := by
      rcases hend with q | q | q
      · exact .inl (by simp; omega)
      · exact .inr (.inl (by simp; omega))
      · exact .inr (.inr (by simp; omega))
    exact zg3_stop (I.ok.hd hc) D hz ok hTI hTO h1 h2 h3 p.isList p2.isList p3.isList he fun h' hk => ⟨rfl, I.turnedL (t' := s.toks) (ch := [z, TI, TO, i1, i2, i3]) (fun c o hb q =>
      hk c o (fun q' => hb (by simp [q'])) (fun q' => hb (by simp [q'])) (fun q' => hb (by simp [q'])) (fun q' => hb (by simp [q'])) (fun q' => hb (by simp [q'])) q) hf⟩
  self := fun A i s Q E st h => by
    obtain ⟨⟨F0, F1, hz, _⟩, _⟩ := st
    exact zg3_pyIter hz h
def iZip3 (K : PySem.W.Frag) (ta : TA) : TI := fun σ H R => ta σ H fun vs H1 => ∃ a b c xs ys zs, vs = [.ref a, .ref b, .ref c] ∧ SqL K H1 a xs ∧ SqL K H1 b ys ∧ SqL K H1 c zs ∧ R (Itz3 K a b c) H1
theorem pi_zip3N {X : Cx} {e e2 e3 : Expr} {ta : TA} {p pos px : Pos} {x : Str} (hg : Gl X "zip") (hm : X.mg "zip" = none) (ha : PA X [e, e2, e3] ta)
    (hs : starEach [e, e2, e3] X.env = (false, eval e X.env) :: starEach [e2, e3] X.env := by rfl) (hpl : (backTo pos (starEach [e2, e3] X.env)).any (·.1) = false := by rfl) :
    PI X (.Name x px) (.Call (.Name "zip" p) [e, e2, e3] [] pos) (iZip3 X.K ta) := by
  refine ⟨fun pins s σ H R I h => ?_⟩
  refine Call_ (ld_blt I hg hm PyProof.Rows.boot_zip (PyProof.Rows.callWith_type1 (thn (ha.run _ pins s σ H _ I h) fun us s1 ⟨vs, H1, I1, r1, q1⟩ => ?_) hs hpl))
  obtain ⟨a, b, d, xs, ys, zs, ex, hqx, hqy, hqz, q⟩ := q1
  subst ex
  obtain ⟨us', rfl, r⟩ : ∃ us', us = [Value.ref a, Value.ref b, Value.ref d] ∧ us' = us := by
    cases r1 with
    | cons r rr =>
      cases rr with
      | cons r' rr =>
        cases rr with
        | cons r'' rr =>
          cases rr
          cases r
          cases r'
          cases r''
          exact ⟨_, rfl, rfl⟩
  obtain ⟨its, rv, p1, _⟩ := I1.list hqx
  obtain ⟨its2, rv2, p2, _⟩ := I1.list hqy
  obtain ⟨its3, rv3, p3, _⟩ := I1.list hqz
  have la : a < s1.heap.objs.size := p1.lt
  have lb : b < s1.heap.objs.size := p2.lt
  have ld : d < s1.heap.objs.size := p3.lt
  refine call_zip3 p1.isList p2.isList p3.isList fun h' hz hTI hTO h1 h2 h3 hsz hk => zg3_pyIter hz ?_
  have I2 : Inv X pins σ H1 { s1 with heap := h' } := I1.kept (t' := s1.toks) hk
  refine ⟨s1.heap.objs.size + 5, [s1.heap.objs.size + 5, s1.heap.objs.size + 3, s1.heap.objs.size + 4, s1.heap.objs.size, s1.heap.objs.size + 1, s1.heap.objs.size + 2], _, _, H1, rfl, I2, turn_zip3N (zapart3 s1.heap.objs.size a b d la lb ld), ⟨⟨_, _, hz, .inl ⟨rfl, rfl⟩⟩, hTI, ⟨_, _, _, hTO⟩, h1, h2, h3⟩, fun c hcm => ?_, q⟩
  have e' : c = s1.heap.objs.size + 5 ∨ c = s1.heap.objs.size + 3 ∨ c = s1.heap.objs.size + 4 ∨ c = s1.heap.objs.size ∨ c = s1.heap.objs.size + 1 ∨ c = s1.heap.objs.size + 2 := by simpa using hcm
  have hle : s1.heap.objs.size ≤ c := by
    rcases e' with z | z | z | z | z | z
    · rw [z]; exact Nat.le_add_right _ _
    · rw [z]; exact Nat.le_add_right _ _
    · rw [z]; exact Nat.le_add_right _ _
    · rw [z]; exact Nat.le_refl _
    · rw [z]; exact Nat.le_add_right _ _
    · rw [z]; exact Nat.le_add_right _ _
  exact I1.fpOk hle (I1.hok.fresh hle)
end L2
namespace Ovc
open PySem PySem.Spec PyProof.Rows L2
end Ovc
namespace PySem
section
variable {prog : Program} {w : World} {h₀ : Heap}
/-- a tuple of two, each with its own text -/
theorem shows_two {T : Addr} {o : Obj} {u1 u2 : Value} {n : Nat} {d e : PyData} {a1 a2 b1 b2 : List Addr} (h1 : h₀.get? T = some o) (h2 : o.cls = .type "tuple") (h3 : o.data = .seq #[u1, u2] n) (r1 : Reads h₀ u1 d a1) (r2 : Reads h₀ u2 e a2)
    (m1 : ReadAtMost h₀ d.depth b1) (k1 : ReprK prog w b1 h₀ d.depth u1 d.shown) (m2 : ReadAtMost h₀ e.depth b2) (k2 : ReprK prog w b2 h₀ e.depth u2 e.shown) (hz : (PyData.tuple [d, e]).shown.length ≤ sizeLine) :
    ShowsBy prog w h₀ T (.tuple [d, e]) "tuple" "tuple.__repr__" := by
  have r : Reads h₀ (.ref T) (.tuple [d, e]) _ := .tuple h1 h2 h3 (show ReadsAll h₀ [u1, u2] [d, e] _ from .cons r1 (.cons r2 .nil))
  have hD : PyData.depthAll [d, e] = max d.depth (max e.depth 0) := rfl
  have m : ReadAtMost h₀ (PyData.depthAll [d, e]) (b1 ++ b2) := (m1.mono (by omega)).append (m2.mono (by omega))
  have hna : T ∉ b1 ++ b2 := not_mem_of_deeper r (by simp only [PyData.depth]; omega) m
  have hk : ReprAllK prog w (b1 ++ b2) h₀ (PyData.depthAll [d, e]) [u1, u2] [d.shown, e.shown] :=
    .cons ((k1.more fun b hb => List.mem_append_left _ hb).level_le (by omega)) (.cons ((k2.more fun b hb => List.mem_append_right _ hb).level_le (by omega)) .nil)
  have hz' : (tupleText [d.shown, e.shown]).length ≤ sizeLine := by simpa only [PyData.shown, PyData.shownAll] using hz
  refine ⟨F.slot_tuple_repr, F.slot_tuple_str, F.slot_tuple_format, fun s hk0 => ⟨o, hk0 _ _ h1, h2⟩, fun A E s Q hg hu hk0 hQ => ?_⟩
  have hu : A.units + (PyData.depthAll [d, e] + 1) < cLine := hu
  simp only [PyData.shown, PyData.shownAll] at hQ
  exact call_tuple_reprK h1 h2 h3 hna hk hg (fun b _ => Clear.nil b) hu hk0 hQ hz'
/-- a dict, its keys and values plain -/
theorem repr_dict0 {a : Addr} {o : Obj} {es : Array DictEntry} {n : Nat} {kvs : List (PyData × PyData)} {as bs : List Addr} (h1 : h₀.get? a = some o) (h2 : o.cls = .type "dict") (h3 : o.data = .dict es n) (h4 : ReadsAll h₀ (es.toList.map (·.key)) (kvs.map (·.1)) as)
    (h5 : ReadsAll h₀ (es.toList.map (·.val)) (kvs.map (·.2)) bs) (hs : (PyData.dict kvs).showable = true) (n1 : PyData.hasDictAll (kvs.map (·.1)) = false) (n2 : PyData.hasDictAll (kvs.map (·.2)) = false) (hsys : (a == sysModules) = false) (hz : (PyData.dict kvs).shown.length ≤ sizeLine) :
    ∃ cs, ReadAtMost h₀ (PyData.dict kvs).depth cs ∧ ReprK prog w cs h₀ (PyData.dict kvs).depth (.ref a) (PyData.dict kvs).shown := by
  have hz' : (dictText (PyData.shownKv kvs)).length ≤ sizeLine := by simpa only [PyData.shown] using hz
  obtain ⟨hs1, hs2⟩ := PyData.showableKv_split kvs (by simpa [PyData.showable] using hs)
  obtain ⟨b1, hb1, k1⟩ := ReprAllK.of_readsAll (prog := prog) (w := w) h4 hs1 (fun h => by rw [n1] at h; cases h) (fun t ht => let ⟨p, hp, hl⟩ := PyData.shownKv_key_le kvs t ht; Nat.le_trans hl (Nat.le_trans (dictText_mem_le hp) hz'))
  obtain ⟨b2, hb2, k2⟩ := ReprAllK.of_readsAll (prog := prog) (w := w) h5 hs2 (fun h => by rw [n2] at h; cases h) (fun t ht => let ⟨p, hp, hl⟩ := PyData.shownKv_val_le kvs t ht; Nat.le_trans hl (Nat.le_trans (dictText_mem_le hp) hz'))
  have r : Reads h₀ (.ref a) (.dict kvs) _ := .dict h1 h2 h3 h4 h5
  have hb : ReadAtMost h₀ (PyData.depthKv kvs) (b1 ++ b2) := (hb1.mono (PyData.depthAll_keys_le kvs)).append (hb2.mono (PyData.depthAll_vals_le kvs))
  have hna : a ∉ b1 ++ b2 := not_mem_of_deeper r (by simp only [PyData.depth]; omega) hb
  refine ⟨a :: (b1 ++ b2), ReadAtMost.cons r (by simp only [PyData.depth]; omega) hb, ?_⟩
  simp only [PyData.depth, PyData.shown, PyData.shownKv_eq]
  exact ReprK.dict h1 h2 h3 hsys hna (ReprEntriesK.of_two es.toList _ _
    (k1.more_le (fun b hb => List.mem_append_left _ hb) (PyData.depthAll_keys_le kvs)) (k2.more_le (fun b hb => List.mem_append_right _ hb) (PyData.depthAll_vals_le kvs)))
end
end PySem
namespace L2
open PySem PySem.Spec PyProof.Rows
def keyD : Key → PyData
  | .inl i => .int i
  | .inr x => .str x
def valD : V → PyData
  | .int i => .int i
  | _ => .none
/-- an int or None -/
def flatO (v : V) : Prop := v = .non ∨ ∃ i, v = .int i
def tdD (kvs : List (List Key × V)) : List (PyData × PyData) := kvs.map fun p => (.tuple (p.1.map keyD), valD p.2)
theorem noDict_keys : ∀ ks : List Key, PyData.hasDictAll (ks.map keyD) = false
  | [] => rfl
  | .inl i :: ks => by
    show (false || PyData.hasDictAll (ks.map keyD)) = false
    rw [noDict_keys ks]
    rfl
  | .inr x :: ks => by
    show (false || PyData.hasDictAll (ks.map keyD)) = false
    rw [noDict_keys ks]
    rfl
theorem noDict_tdk : ∀ kvs : List (List Key × V), PyData.hasDictAll ((tdD kvs).map (·.1)) = false
  | [] => rfl
  | p :: kvs => by
    show (PyData.hasDictAll (p.1.map keyD) || PyData.hasDictAll ((tdD kvs).map (·.1))) = false
    rw [noDict_keys, noDict_tdk kvs]
    rfl
theorem noDict_val (v : V) : (valD v).hasDict = false := by
  cases v <;> rfl
theorem noDict_tdv : ∀ kvs : List (List Key × V), PyData.hasDictAll ((tdD kvs).map (·.2)) = false
  | [] => rfl
  | p :: kvs => by
    show ((valD p.2).hasDict || PyData.hasDictAll ((tdD kvs).map (·.2))) = false
    rw [noDict_val, noDict_tdv kvs]
    rfl
theorem reads_keys {h : Heap} : ∀ {ks : List Key} {us : List Value}, Vals (ks.map kV) us → ∃ as, ReadsAll h us (ks.map keyD) as
  | [], _, .nil => ⟨_, .nil⟩
  | .inl i :: ks, _, .cons r t => by
    obtain ⟨as, ih⟩ := reads_keys (h := h) t
    obtain ⟨tk, rfl⟩ := r
    exact ⟨_, .cons (.int i tk) ih⟩
  | .inr x :: ks, _, .cons r t => by
    obtain ⟨as, ih⟩ := reads_keys (h := h) t
    obtain ⟨tk, rfl⟩ := r
    exact ⟨_, .cons (.str x tk) ih⟩
theorem reads_val {h : Heap} {v : V} {u : Value} (f : flatO v) (r : RelV v u) : ∃ as, Reads h u (valD v) as := by
  rcases f with rfl | ⟨i, rfl⟩
  · cases r
    exact ⟨_, .none⟩
  · obtain ⟨tk, rfl⟩ := r
    exact ⟨_, .int i tk⟩
section
variable {X : Cx} {pins : List (Addr × Obj)} {σ : St} {H : Hp} {s : Shared}
theorem reads_td (I : Inv X pins σ H s) {knd : HeapKind X.prog X.w (List Key)} : ∀ {kvs : List (List Key × V)} {xs : List (List Key × Addr × Value)}, Paired (fun (p : List Key × V) (q : List Key × Addr × Value) => p.1 = q.1 ∧ H q.2.1 = some (.tup (p.1.map kV)) ∧ RelV p.2 q.2.2) kvs xs → (∀ p ∈ kvs, flatO p.2) →
    ∃ as bs, ReadsAll s.heap ((xs.map (entryOfKey knd)).map (·.key)) ((tdD kvs).map (·.1)) as ∧ ReadsAll s.heap ((xs.map (entryOfKey knd)).map (·.val)) ((tdD kvs).map (·.2)) bs
  | [], _, .nil, _ => ⟨_, _, .nil, .nil⟩
  | p :: kvs, _, .cons (b := q) r t, f => by
    obtain ⟨as, bs, h1, h2⟩ := reads_td I t fun z hz => f z (List.mem_cons_of_mem _ hz)
    obtain ⟨e1, e2, e3⟩ := r
    obtain ⟨_, its, rv, o, ho, hc, n, hd⟩ := I.hok _ _ e2
    obtain ⟨ks, hk⟩ := reads_keys (h := s.heap) rv
    obtain ⟨vs, hv⟩ := reads_val (h := s.heap) (f p List.mem_cons_self) e3
    have rk : Reads s.heap (.ref q.2.1) (.tuple (p.1.map keyD)) _ := .tuple ho hc hd hk
    exact ⟨_, _, .cons rk h1, .cons hv h2⟩
end
/-- repr((x, d)): x data without a dict, d a dict by tuples whose values are ints or None -/
def rReprTD (K : PySem.W.Frag) : List V → Hp → VK → Prop := fun xs H Q => ∃ (T : Addr) (v : V) (td : Addr) (d : PyData) (kvs : List (List Key × V)), xs = [.ref T] ∧ H T = some (.tup [v, .ref td]) ∧ Dp K H v d ∧ d.showable = true ∧ d.hasDict = false ∧ d.depth ≤ 50 ∧
  H td = some (.dT kvs) ∧ (∀ p ∈ kvs, flatO p.2) ∧ (PyData.dict (tdD kvs)).showable = true ∧ (PyData.dict (tdD kvs)).depth ≤ 50 ∧ (PyData.tuple [d, .dict (tdD kvs)]).shown.length ≤ sizeLine ∧ d.shown.length ≤ sizeLine ∧ (PyData.dict (tdD kvs)).shown.length ≤ sizeLine ∧ Q (.str (PyData.tuple [d, .dict (tdD kvs)]).shown) H
theorem call_reprTD {X : Cx} (hg : X.A.guards = some []) (hu : X.A.units + 64 < cLine) : CallR X (.builtin "repr") (rReprTD X.K) := by
  intro pins s σ H xs us Q I r h
  obtain ⟨T, v, td, d, kvs, rfl, hT, hd, sh, nd, dep, htd, hf, sh2, dep2, len, len1, len2, q⟩ := h
  obtain ⟨u, rfl, e⟩ := vals1 r
  cases e
  obtain ⟨_, its, rv, o, ho, hc, n, hda⟩ := I.hok _ _ hT
  obtain ⟨u1, u2, rfl, q1, q2⟩ := vals2 rv
  cases (show u2 = Value.ref td from q2)
  obtain ⟨as, rd⟩ := Dp.reads I d _ _ hd q1
  obtain ⟨b1, m1, k1⟩ := ReprK.of_reads (prog := X.prog) (w := X.w) rd sh (PyData.noDict_hsm nd) len1
  obtain ⟨_, hsys, ys, pr, od, es, ep, hod, hex, hdat, hes, _⟩ := I.hok _ _ htd
  obtain ⟨as2, bs2, g1, g2⟩ := reads_td I (knd := tupleKind (mixKind X.prog X.w)) pr hf
  rw [← hes] at g1 g2
  obtain ⟨b2, m2, k2⟩ := repr_dict0 (prog := X.prog) (w := X.w) hod hex.1 hdat g1 g2 sh2 (noDict_tdk kvs) (noDict_tdv kvs) hsys len2
  have S := shows_two (prog := X.prog) (w := X.w) ho hc hda rd (.dict hod hex.1 hdat g1 g2) m1 k1 m2 k2 len
  have hdep : (PyData.tuple [d, .dict (tdD kvs)]).depth ≤ 51 := by
    show max d.depth (max (PyData.dict (tdD kvs)).depth 0) + 1 ≤ 51
    omega
  refine call_repr_slot (by omega) (S.typeIs s fun _ _ e => e) S.slotRepr (S.call X.A.in1 _ s _ hg (by show X.A.units + 1 + _ < cLine; omega) (fun _ _ e => e) fun h' u tk keep => ⟨_, _, rfl, .str _, H, I.kept keep, ⟨u, rfl⟩, q⟩)
end L2
namespace Ovc
open PySem PySem.Spec PyProof.Rows L2
/-! ### open ways, turns, sums of runs -/
def wyP : List Lnk → Int → Int → Option Int
  | [], _, _ => none
  | l :: r, x, y => if l.a = x ∧ l.b = y then l.t else if l.b = x ∧ l.a = y then l.k else wyP r x y
theorem keep_lkS {x y : Int} : ∀ (ls : List Lnk) (f : Option V), (∀ m ∈ ls, ¬ (x = m.b ∧ y = m.a) ∧ ¬ (x = m.a ∧ y = m.b)) → ls.foldl (lkS x y) f = f
  | [], f, _ => rfl
  | l :: ls, f, h => by
    obtain ⟨h1, h2⟩ := h l List.mem_cons_self
    have e : lkS x y f l = f := by
      unfold lkS
      rw [if_neg h1, if_neg h2]
    rw [List.foldl_cons, e]
    exact keep_lkS ls f fun m hm => h m (List.mem_cons_of_mem _ hm)
theorem wyP_none {x y : Int} : ∀ {ls : List Lnk}, (∀ m ∈ ls, ¬ (m.a = x ∧ m.b = y) ∧ ¬ (m.b = x ∧ m.a = y)) → wyP ls x y = none
  | [], _ => rfl
  | l :: ls, h => by
    obtain ⟨h1, h2⟩ := h l List.mem_cons_self
    show (if l.a = x ∧ l.b = y then l.t else if l.b = x ∧ l.a = y then l.k else wyP ls x y) = none
    rw [if_neg h1, if_neg h2]
    exact wyP_none fun m hm => h m (List.mem_cons_of_mem _ hm)
theorem lnk_far {l m : Lnk} {x y : Int} (h : LnkLt l m) (hl : l.a < l.b) (hm : m.a < m.b) (c : (l.a = x ∧ l.b = y) ∨ (l.b = x ∧ l.a = y)) : ¬ (m.a = x ∧ m.b = y) ∧ ¬ (m.b = x ∧ m.a = y) := by
  unfold LnkLt at h
  omega
theorem lkv_wy {x y : Int} : ∀ (ls : List Lnk), ls.Pairwise LnkLt → (∀ m ∈ ls, m.a < m.b) → (ls.foldl (lkS x y) none).getD .non = oV (wyP ls x y)
  | [], _, _ => rfl
  | l :: ls, hp, ha => by
    obtain ⟨hp1, hp2⟩ := List.pairwise_cons.mp hp
    have hl := ha l List.mem_cons_self
    have far : (l.a = x ∧ l.b = y) ∨ (l.b = x ∧ l.a = y) → ∀ m ∈ ls, ¬ (x = m.b ∧ y = m.a) ∧ ¬ (x = m.a ∧ y = m.b) := fun c m hm => by
      have := lnk_far (hp1 m hm) hl (ha m (List.mem_cons_of_mem _ hm)) c
      omega
    rw [List.foldl_cons]
    show _ = oV (if l.a = x ∧ l.b = y then l.t else if l.b = x ∧ l.a = y then l.k else wyP ls x y)
    by_cases c1 : l.a = x ∧ l.b = y
    · have e : lkS x y none l = some (oV l.t) := by
        unfold lkS
        rw [if_neg (by omega), if_pos ⟨c1.1.symm, c1.2.symm⟩]
      rw [if_pos c1, e, keep_lkS ls _ (far (.inl c1))]
      rfl
    · by_cases c2 : l.b = x ∧ l.a = y
      · have e : lkS x y none l = some (oV l.k) := by
          unfold lkS
          rw [if_pos ⟨c2.1.symm, c2.2.symm⟩]
        rw [if_neg c1, if_pos c2, e, keep_lkS ls _ (far (.inr c2))]
        rfl
      · have e : lkS x y none l = none := by
          unfold lkS
          rw [if_neg (fun z => c2 ⟨z.1.symm, z.2.symm⟩), if_neg (fun z => c1 ⟨z.1.symm, z.2.symm⟩)]
        rw [if_neg c1, if_neg c2, e]
        exact lkv_wy ls hp2 fun m hm => ha m (List.mem_cons_of_mem _ hm)
theorem lkv_wyP {N : Net} (ok : NetOk N) (x y : Int) : (lkv N.ls x y).getD .non = oV (wyP N.ls x y) := lkv_wy N.ls ok.lt fun m hm => (ok.ok m hm).ab
/-- the ways out of x -/
def opA (x : Int) (l : Lnk) : List (Int × Int) := if l.a = x then (match l.t with | some p => [(l.b, p)] | none => []) else []
def opB (x : Int) (l : Lnk) : List (Int × Int) := if l.b = x then (match l.k with | some p => [(l.a, p)] | none => []) else []
def opL (ls : List Lnk) (x : Int) : List (Int × Int) := ls.flatMap fun l => opA x l ++ opB x l
theorem mem_opA {x b p : Int} {l : Lnk} : (b, p) ∈ opA x l ↔ l.a = x ∧ l.b = b ∧ l.t = some p := by
  unfold opA
  by_cases c : l.a = x
  · rw [if_pos c]
    cases e : l.t with
    | none => exact ⟨fun h => (nomatch h), fun h => (nomatch h.2.2)⟩
    | some q =>
      show (b, p) ∈ [(l.b, q)] ↔ _
      rw [List.mem_singleton, Prod.mk.injEq]
      exact ⟨fun h => ⟨c, h.1.symm, congrArg some h.2.symm⟩, fun h => ⟨h.2.1.symm, (Option.some.inj h.2.2).symm⟩⟩
  · rw [if_neg c]
    exact ⟨fun h => (nomatch h), fun h => absurd h.1 c⟩
theorem mem_opB {x b p : Int} {l : Lnk} : (b, p) ∈ opB x l ↔ l.b = x ∧ l.a = b ∧ l.k = some p := by
  unfold opB
  by_cases c : l.b = x
  · rw [if_pos c]
    cases e : l.k with
    | none => exact ⟨fun h => (nomatch h), fun h => (nomatch h.2.2)⟩
    | some q =>
      show (b, p) ∈ [(l.a, q)] ↔ _
      rw [List.mem_singleton, Prod.mk.injEq]
      exact ⟨fun h => ⟨c, h.1.symm, congrArg some h.2.symm⟩, fun h => ⟨h.2.1.symm, (Option.some.inj h.2.2).symm⟩⟩
  · rw [if_neg c]
    exact ⟨fun h => (nomatch h), fun h => absurd h.1 c⟩
theorem mem_op {x b p : Int} : ∀ (ls : List Lnk), ls.Pairwise LnkLt → (∀ m ∈ ls, m.a < m.b) → ((b, p) ∈ opL ls x ↔ wyP ls x b = some p)
  | [], _, _ => ⟨fun h => (nomatch h), fun h => (nomatch h)⟩
  | l :: ls, hp, ha => by
    obtain ⟨hp1, hp2⟩ := List.pairwise_cons.mp hp
    have hl := ha l List.mem_cons_self
    have ih := mem_op (x := x) (b := b) (p := p) ls hp2 fun m hm => ha m (List.mem_cons_of_mem _ hm)
    have far : (l.a = x ∧ l.b = b) ∨ (l.b = x ∧ l.a = b) → wyP ls x b = none := fun c => wyP_none fun m hm => lnk_far (hp1 m hm) hl (ha m (List.mem_cons_of_mem _ hm)) c
    show (b, p) ∈ (l :: ls).flatMap (fun l => opA x l ++ opB x l) ↔ (if l.a = x ∧ l.b = b then l.t else if l.b = x ∧ l.a = b then l.k else wyP ls x b) = some p
    rw [List.flatMap_cons, List.mem_append, List.mem_append, mem_opA, mem_opB]
    have ih' : (b, p) ∈ ls.flatMap (fun l => opA x l ++ opB x l) ↔ wyP ls x b = some p := ih
    rw [ih']
    by_cases c1 : l.a = x ∧ l.b = b
    · rw [if_pos c1, far (.inl c1)]
      constructor
      · rintro ((h | h) | h)
        · exact h.2.2
        · omega
        · cases h
      · exact fun h => .inl (.inl ⟨c1.1, c1.2, h⟩)
    · rw [if_neg c1]
      by_cases c2 : l.b = x ∧ l.a = b
      · rw [if_pos c2, far (.inr c2)]
        constructor
        · rintro ((h | h) | h)
          · omega
          · exact h.2.2
          · cases h
        · exact fun h => .inl (.inr ⟨c2.1, c2.2, h⟩)
      · rw [if_neg c2]
        constructor
        · rintro ((h | h) | h)
          · exact absurd ⟨h.1, h.2.1⟩ c1
          · exact absurd ⟨h.1, h.2.1⟩ c2
          · exact h
        · exact fun h => .inr h
theorem mem_opL {N : Net} (ok : NetOk N) {x b p : Int} : (b, p) ∈ opL N.ls x ↔ wyP N.ls x b = some p := mem_op N.ls ok.lt fun m hm => (ok.ok m hm).ab
theorem wyP_in {N : Net} (ok : NetOk N) {x b p : Int} (h : wyP N.ls x b = some p) : (0 ≤ x ∧ x < N.n) ∧ (0 ≤ b ∧ b < N.n) ∧ 1 ≤ p ∧ p ≤ 1000000 := by
  obtain ⟨l, hl, hm⟩ := List.mem_flatMap.mp ((mem_opL ok).mpr h)
  have k := ok.ok l hl
  have a0 := k.a0
  have ab := k.ab
  have bn := k.bn
  rcases List.mem_append.mp hm with hm | hm
  · obtain ⟨e1, e2, e3⟩ := mem_opA.mp hm
    have := k.t p e3
    omega
  · obtain ⟨e1, e2, e3⟩ := mem_opB.mp hm
    have := k.k p e3
    omega
theorem opA_len {x : Int} {l : Lnk} : (opA x l).length ≤ 1 := by
  unfold opA
  split
  · split
    · exact Nat.le_refl _
    · exact Nat.zero_le _
  · exact Nat.zero_le _
theorem opB_len {x : Int} {l : Lnk} : (opB x l).length ≤ 1 := by
  unfold opB
  split
  · split
    · exact Nat.le_refl _
    · exact Nat.zero_le _
  · exact Nat.zero_le _
theorem opL_len {x : Int} : ∀ ls : List Lnk, (opL ls x).length ≤ 2 * ls.length
  | [] => Nat.zero_le _
  | l :: ls => by
    have ih := opL_len (x := x) ls
    have h1 := opA_len (x := x) (l := l)
    have h2 := opB_len (x := x) (l := l)
    show ((l :: ls).flatMap (fun l => opA x l ++ opB x l)).length ≤ _
    rw [List.flatMap_cons, List.length_append, List.length_append, List.length_cons]
    have ih' : (ls.flatMap (fun l => opA x l ++ opB x l)).length ≤ 2 * ls.length := ih
    omega
/-! sorted pairs -/
section
variable {H : Hp} {ts : List V} {L : List (Int × Int)}
def kP6 (H : Hp) : V → Int × Int
  | .ref t => (match H t with
    | some (.tup [.int a, .int b]) => (a, b)
    | _ => (0, 0))
  | _ => (0, 0)
theorem kP6_at {t : Addr} {a b : Int} (h : H t = some (.tup [.int a, .int b])) : kP6 H (.ref t) = (a, b) := by
  show (match H t with | some (.tup [.int a, .int b]) => (a, b) | _ => (0, 0)) = (a, b)
  rw [h]
theorem TupsAt.ref6 (h : TupsAt H ts L) {x : V} (hx : x ∈ ts) : ∃ t, x = V.ref t ∧ H t = some (.tup [.int (kP6 H x).1, .int (kP6 H x).2]) := by
  obtain ⟨i, hi⟩ := List.mem_iff_getElem?.mp hx
  have il : i < L.length := by rw [← h.len]; exact (List.getElem?_eq_some_iff.mp hi).1
  have hg : L[i]? = some (L[i]'il) := List.getElem?_eq_getElem il
  obtain ⟨t, h1, h2⟩ := h.at_ i (L[i]'il).1 (L[i]'il).2 hg
  cases hi.symm.trans h1
  exact ⟨t, rfl, by rw [kP6_at h2]; exact h2⟩
theorem TupsAt.keys6 (h : TupsAt H ts L) : ts.map (kP6 H) = L := by
  refine List.ext_getElem (by rw [List.length_map, h.len]) fun i h1 h2 => ?_
  have hg : L[i]? = some (L[i]'h2) := List.getElem?_eq_getElem h2
  obtain ⟨t, e1, e2⟩ := h.at_ i (L[i]'h2).1 (L[i]'h2).2 hg
  have e3 := (List.getElem?_eq_some_iff.mp e1).2
  rw [List.getElem_map, e3, kP6_at e2]
theorem tups_of6 : ∀ {ys : List V}, (∀ x ∈ ys, ∃ t, x = V.ref t ∧ H t = some (.tup [.int (kP6 H x).1, .int (kP6 H x).2])) → TupsAt H ys (ys.map (kP6 H)) := fun {ys} h => ⟨by rw [List.length_map], fun i u v e => by
  rw [List.getElem?_map] at e
  obtain ⟨y, hy, ey⟩ := Option.map_eq_some_iff.mp e
  obtain ⟨t, e1, e2⟩ := h y (List.mem_of_getElem? hy)
  subst e1
  rw [ey] at e2
  exact ⟨t, hy, e2⟩⟩
def Lx6 (p q : Int × Int) : Prop := SrtO.lexB q p = false
theorem lx6_anti (p q : Int × Int) (h : Lx6 p q) (k : Lx6 q p) : p = q := by
  have n1 := SrtO.lexB_no.mp h
  have n2 := SrtO.lexB_no.mp k
  exact Prod.ext (by omega) (by omega)
theorem sort6 {ys : List V} (h : TupsAt H ts L) (h1 : SrtO.Srtd (ltP (kP6 H)) ys) (h2 : SrtO.Stb (ltP (kP6 H)) ys ts) : ∃ M : List (Int × Int), M.Perm L ∧ M.Pairwise Lx6 ∧ TupsAt H ys M := by
  refine ⟨ys.map (kP6 H), ?_, List.pairwise_map.mpr h1, tups_of6 fun x hx => h.ref6 (h2.perm.mem_iff.mp hx)⟩
  have e := h2.perm.map (kP6 H)
  rw [h.keys6] at e
  exact e
end
/-! turns -/
structure TrnOk (kvs : List (List L2.Key × V)) : Prop where
  len : kvs.length ≤ 100
  at_ : ∀ p ∈ kvs, ∃ (a b c : Int) (o : Option Int), p = ([Sum.inl a, Sum.inl b, Sum.inl c], oV o) ∧ ((0 ≤ a ∧ a ≤ 40) ∧ (0 ≤ b ∧ b ≤ 40) ∧ (0 ≤ c ∧ c ≤ 40)) ∧ ∀ x, o = some x → 0 ≤ x ∧ x ≤ 1000000
def tV (kvs : List (List L2.Key × V)) (a b c : Int) : V := (valV kvs [Sum.inl a, Sum.inl b, Sum.inl c]).getD (.int 0)
def tP (kvs : List (List L2.Key × V)) (a b c : Int) : Option Int := match tV kvs a b c with
  | .int i => some i
  | _ => none
theorem oV_inj {o q : Option Int} (h : oV o = oV q) : o = q := by
  cases o <;> cases q <;> first | rfl | cases h
  rfl
theorem tP_eq {kvs : List (List L2.Key × V)} (ok : TrnOk kvs) (a b c : Int) : tV kvs a b c = oV (tP kvs a b c) := by
  have h : ∃ o, tV kvs a b c = oV o := by
    unfold tV
    cases e : valV kvs [Sum.inl a, Sum.inl b, Sum.inl c] with
    | none => exact ⟨some 0, rfl⟩
    | some v =>
      unfold valV at e
      obtain ⟨kv, h1, h2⟩ := Option.map_eq_some_iff.mp e
      obtain ⟨_, _, _, o, e1, _⟩ := ok.at_ kv (List.mem_of_find?_eq_some h1)
      refine ⟨o, ?_⟩
      show v = oV o
      rw [← h2, e1]
  obtain ⟨o, e⟩ := h
  unfold tP
  rw [e]
  cases o <;> rfl
/-! sums of runs -/
section
variable (N : Net) (kvs : List (List L2.Key × V)) (run : List Int)
def wA (j : Nat) : Option Int := wyP N.ls (run.getD (j - 1) 0) (run.getD j 0)
def xA (j : Nat) : Option Int := if 1 < j then tP kvs (run.getD (j - 2) 0) (run.getD (j - 1) 0) (run.getD j 0) else some 0
def sumTo : Nat → Int
  | 0 => 0
  | j + 1 => sumTo j + (wA N run (j + 1)).getD 0 + (xA kvs run (j + 1)).getD 0
structure GoodR : Prop where
  ne : run ≠ []
  inn : ∀ p ∈ run, 0 ≤ p ∧ p < N.n
  w : ∀ j, 1 ≤ j → j < run.length → (wA N run j).isSome = true
  x : ∀ j, 1 ≤ j → j < run.length → (xA kvs run j).isSome = true
open Classical in
noncomputable def resR : Option Int := if GoodR N kvs run then some (sumTo N kvs run (run.length - 1)) else none
theorem resR_good (h : GoodR N kvs run) : resR N kvs run = some (sumTo N kvs run (run.length - 1)) := if_pos h
theorem resR_bad (h : ¬ GoodR N kvs run) : resR N kvs run = none := if_neg h
end
/-! ### the law's open ways, neighbours -/
abbrev sLOpen9 : Stmt := topS 11
abbrev sLNear9 : Stmt := topS 12
theorem scLOpen9 : FnScope ["net", "place", "out", "a", "b", "there", "back"] ["net", "place"] (defScope sLOpen9) := ⟨rfl, rfl, rfl, by decide +kernel, rfl, by decide +kernel, by decide +kernel⟩
theorem scLNear9 : FnScope ["net", "place", "a", "b", "there", "back"] ["net", "place"] (defScope sLNear9) := ⟨rfl, rfl, rfl, by decide +kernel, rfl, by decide +kernel, by decide +kernel⟩
def spLOpen (K : PySem.W.Frag) : Sp := fun vs H Q _ => ∃ (v : V) (N : Net) (x : Int), vs = [v, .int x] ∧ Dp K H v (netD N) ∧ NetOk N ∧ ∀ H' q ts L, Same H H' → H' q = some (.lst ts) → TupsAt H' ts L → L.Perm (opL N.ls x) → Q (.ref q) H'
def nearL (ls : List Lnk) (x : Int) : List Int := (ls.filter fun l => decide (l.a = x)).map (·.b) ++ (ls.filter fun l => decide (l.b = x)).map (·.a)
def spLNear9 (K : PySem.W.Frag) : Sp := fun vs H Q _ => ∃ (v : V) (N : Net) (x : Int), vs = [v, .int x] ∧ Dp K H v (netD N) ∧ NetOk N ∧ ∀ H' q, Same H H' → H' q = some (.lst ((nearL N.ls x).map V.int)) → Q (.ref q) H'
section
variable {K : PySem.W.Frag} {σ : L2.St} {H : Hp} {tl te : TE} {tt : TT} {D : Ends}
/-- out.append((i, v)), v an int or None -/
theorem g_appOp {ta tb to_ : TE} {l : Addr} {xs : List V} {x y : V} (ho : Vl to_ σ H (.ref l)) (hl : H l = some (.lst xs)) (hx : Vl ta σ H x) (hy : Vl tb σ H y) (hz : xs.length < sizeLine) (k : ∀ T, H T = none → D.nx σ (L2.upd (L2.upd H T (.tup [x, y])) l (.lst (xs ++ [.ref T])))) :
    tDrop (tBM K "list" rAppend to_ (tCons (tTup (tCons ta (tCons tb tNil))) tNil)) D σ H := ho _ ⟨.inl ⟨rfl, _, .inl (.inl hl)⟩, hx _ (hy _ ⟨by show 2 ≤ sizeLine; decide, fun T nT => ⟨l, xs, .ref T, rfl, rfl, same_upd nT _ _ hl, hz, k T nT⟩⟩)⟩
/-- [v for a, b, t, k in links if ..] -/
theorem vn_lcLnk {j1 j2 j3 j4 : Nat} {a : Addr} {xs : List V} {ls : List Lnk} {pb : Lnk → Bool} {f : Lnk → Int} (h : Vl tl σ H (.ref a)) (hx : SqL K H a xs) (hL : DpAll K H xs (ls.map lnkD)) (hz : ls.length ≤ 10000)
    (hs : ∀ v1 v2 v3 v4 : V, wipe (((((wipe σ [j1, j2, j3, j4]).set j1 (some v1)).set j2 (some v2)).set j3 (some v3)).set j4 (some v4)) [j1, j2, j3, j4] = wipe σ [j1, j2, j3, j4])
    (ht : ∀ (l : Lnk) H', An tt (((((wipe σ [j1, j2, j3, j4]).set j1 (some (.int l.a))).set j2 (some (.int l.b))).set j3 (some (oV l.t))).set j4 (some (oV l.k))) H' (pb l))
    (he : ∀ (l : Lnk) H', Vl te (((((wipe σ [j1, j2, j3, j4]).set j1 (some (.int l.a))).set j2 (some (.int l.b))).set j3 (some (oV l.t))).set j4 (some (oV l.k))) H' (.int (f l))) :
    Vn (tLc (iList K tl) (gTup K 4 (gCons (gName j1) (gCons (gName j2) (gCons (gName j3) (gCons (gName j4) gNil))))) tt te [j1, j2, j3, j4]) σ H (((ls.filter pb).map f).map V.int) := fun Q q => by
  refine h _ ⟨a, rfl, ⟨_, hx⟩, fun D nD => lc_list (K := K) (a := a) (xs := xs) (fun i H' => H' D = some (.lst ((((ls.take i).filter pb).map f).map V.int)) ∧ Same H H') ⟨upd_same, same_upd nD⟩ (fun i H' _ hP => hP.2.seq hx) (fun i x H2 hi hP => ?_) (fun H2 hP => ?_)⟩
  · obtain ⟨hD, s2⟩ := hP
    have e := DpAll.len hL
    rw [List.length_map] at e
    have hlt := (List.getElem?_eq_some_iff.mp hi).1
    have hg : ls[i]? = some (ls[i]'(by omega)) := List.getElem?_eq_getElem (by omega)
    generalize ls[i]'(by omega) = l at hg
    obtain ⟨v, hv, dv⟩ := DpAll.get (i := i) (d := lnkD l) hL (by
      rw [List.getElem?_map, hg]
      rfl)
    cases hi.symm.trans hv
    obtain ⟨t, rfl, htl⟩ := Dp.lnk_inv dv
    refine ⟨t, _, rfl, seqT s2 htl, rfl, _, _, rfl, _, _, rfl, _, _, rfl, _, _, rfl, rfl, hs _ _ _ _, ht l H2 _ ?_⟩
    rw [take_snoc hg, List.filter_append]
    cases e2 : pb l with
    | true =>
      refine iteT (he l H2 _ ⟨_, hD, ?_, ?_, same_upd' s2 nD⟩)
      · rw [List.length_map, List.length_map]
        have h1 := List.length_filter_le pb (ls.take i)
        rw [List.length_take] at h1
        exact Nat.lt_of_le_of_lt (m := 10000) (by omega) (by decide)
      · rw [upd_same, List.filter_cons_of_pos e2, List.map_append, List.map_append]
        rfl
    | false =>
      refine iteF ⟨?_, s2⟩
      rw [List.filter_cons_of_neg (by rw [e2]; exact Bool.false_ne_true), List.filter_nil, List.append_nil]
      exact hD
  · obtain ⟨hD, s2⟩ := hP
    have e := DpAll.len hL
    rw [List.length_map] at e
    rw [e, List.take_length] at hD
    exact q D H2 s2 nD hD
end
section
variable {P : Program} {w : World} {K : PySem.W.Frag} {mg : Str → Option Value} {base : Heap}
theorem ok_lOpen {f : Addr} {fd : FuncData} {k : Nat} (F : Fun K "_law_open" "_law_open" sLOpen9 f fd) (mo : mg "sorted" = none) : FnOk P w K mg base CX0 (k + 1) f fd ["net", "place"] (spLOpen K) := by
  refine F.ok scLOpen9 (fun vs H Q E h => ?_) (fun cdv A outer s H vs Q E hr h => ?_)
  · obtain ⟨v, N, x, rfl, _⟩ := h
    rfl
  · obtain ⟨v, N, x, rfl, hN, ok, q⟩ := h
    have hu := hu_of hr
    refine ⟨_, pss_cons (ps_set (i := 2) scLOpen9.nd rfl (.inl rfl) (pe_lst pa_nil))
      (pss_cons (ps_for PassesOwn.never rfl (pi_list (pe_ix ix_tup (pv 0) pe_int (fun _ _ => rfl))) (pg_tup rfl (pgs_cons (pg_name (i := 3) scLOpen9.nd rfl (.inl rfl)) (pgs_cons (pg_name (i := 4) scLOpen9.nd rfl (.inl rfl)) (pgs_cons (pg_name (i := 5) scLOpen9.nd rfl (.inl rfl)) (pgs_cons (pg_name (i := 6) scLOpen9.nd rfl (.inl rfl)) pgs_nil)))))
      (Evl.pss_cut (ps_if (PW.pt (pw_and (pt_cmpR op_eq (pv 3) (pv 1) (nomark _)) (pw_and1 (pt_cmpR op_notN (pv 5) pe_non (nomark _)))))
        (pss_one (ps_expr (pe_bm PySem.F.plainAttrs_list PySem.F.slot_list_append PySem.F.type_list_append mt_append (pv 2) (pa_cons (pe_tup (pa_cons (pv 4) (pa_cons (pv 5) pa_nil))) pa_nil))))
        pss_nil)
        (pss_one (ps_if (PW.pt (pw_and (pt_cmpR op_eq (pv 4) (pv 1) (nomark _)) (pw_and1 (pt_cmpR op_notN (pv 6) pe_non (nomark _)))))
        (pss_one (ps_expr (pe_bm PySem.F.plainAttrs_list PySem.F.slot_list_append PySem.F.type_list_append mt_append (pv 2) (pa_cons (pe_tup (pa_cons (pv 3) (pa_cons (pv 6) pa_nil))) pa_nil))))
        pss_nil))))
      (pss_one (ps_ret (pe_callB cr_sortedPO (by rfl) mo (by decide +kernel) (pa_cons (pv 2) pa_nil))))), ?_⟩
    obtain ⟨p, c, xs, rfl, hp, hc, hx⟩ := Dp.net_inv hN
    have l16 := ok.len
    refine q_lnew fun o no => ?_
    have so := same_upd (o := .lst []) no
    refine q_forLnk (Hb := H) (vl_ixT (K := K) (vl_var rfl) vl_c (seqT so hp) (atI_nat (j := 1) rfl)) hc hx so
      (fun i σ H3 => ∃ y3 y4 y5 y6 ts L, σ = [some (.ref p), some (.int x), some (.ref o), y3, y4, y5, y6] ∧ Same H (but H3 o) ∧ H3 o = some (.lst ts) ∧ TupsAt H3 ts L ∧ L = opL (N.ls.take i) x)
      ⟨_, _, _, _, [], [], rfl, same_but so no, upd_same, TupsAt.nil, rfl⟩ (fun i σ H3 hP => ?_) (fun i l σ H3 hi hP => ?_) (fun σ H3 hP => ?_)
    · obtain ⟨_, _, _, _, _, _, _, s3, _⟩ := hP
      exact s3.trans but_same
    · obtain ⟨y3, y4, y5, y6, ts, L, rfl, s3, ho, hT, eL⟩ := hP
      have il := (List.getElem?_eq_some_iff.mp hi).1
      have Ll : L.length ≤ 3200 := by
        have := opL_len (x := x) (N.ls.take i)
        rw [List.length_take] at this
        rw [eL]
        omega
      have eo : opL (N.ls.take (i + 1)) x = L ++ opA x l ++ opB x l := by
        rw [eL, take_snoc hi]
        unfold opL
        rw [List.flatMap_append, List.flatMap_cons, List.flatMap_nil, List.append_nil, List.append_assoc]
      have step : ∀ {σ : L2.St} {H4 : Hp} {ts' : List V} {L' : List (Int × Int)} {ta tb : TE} {b : Bool} {X : List (Int × Int)} {y : Int} {v : V} {k : L2.St → Hp → Prop} {to_ : TE} {tt : TT} {D : Ends}, An tt σ H4 b → Vl to_ σ H4 (.ref o) → Vl ta σ H4 (.int y) → Vl tb σ H4 v → Same H (but H4 o) → H4 o = some (.lst ts') → TupsAt H4 ts' L' → L'.length ≤ 5000 →
          (b = true → ∃ pr, v = .int pr ∧ X = [(y, pr)]) → (b = false → X = []) → (∀ H5 ts5, Same H (but H5 o) → H5 o = some (.lst ts5) → TupsAt H5 ts5 (L' ++ X) → D.nx σ H5) → tIfS tt (tDrop (tBM K "list" rAppend to_ (tCons (tTup (tCons ta (tCons tb tNil))) tNil))) tNext D σ H4 := fun {σ H4 ts' L' ta tb b X y v k to_ tt D} hb ho ha hv s4 eo hT' hl h1 h2 kk => by
        refine g_when hb (fun e => ?_) (fun e => ?_)
        · obtain ⟨pr, rfl, rfl⟩ := h1 e
          refine g_appOp (K := K) ho eo ha hv (by rw [hT'.len]; exact Nat.lt_of_le_of_lt hl (by decide)) fun T nT => ?_
          have sT : Same H4 (upd H4 T (.tup [.int y, .int pr])) := same_upd nT
          refine kk _ _ ?_ upd_same (((hT'.to sT).app (TupsAt.one upd_same)).upd (sT _ _ eo))
          rw [but_upd]
          exact s4.trans (but_mono sT)
        · rw [h2 e] at kk
          exact kk _ _ s4 eo (by rw [List.append_nil]; exact hT')
      refine q_cut (M := fun σ' H' => ∃ ts', σ' = [some (.ref p), some (.int x), some (.ref o), some (.int l.a), some (.int l.b), some (oV l.t), some (oV l.k)] ∧ Same H (but H' o) ∧ H' o = some (.lst ts') ∧ TupsAt H' ts' (L ++ opA x l)) ?_ (fun σ' H4 hM => ?_)
      · refine step (X := opA x l) (k := fun _ _ => True) (b := decide (V.int l.a = V.int x) && !decide (oV l.t = .non)) (an_and (an_test (vl_eq (vl_var rfl) (vl_var rfl) rfl)) fun _ => an_test (vl_notN (vl_var rfl))) (vl_var rfl) (vl_var rfl) (vl_var rfl) s3 ho hT (by omega) (fun hb => ?_) (fun hb => ?_) fun H5 ts5 s5 e5 h5 => ⟨ts5, rfl, s5, e5, h5⟩
        · rw [dI, Bool.and_eq_true, decide_eq_true_eq, Bool.not_eq_true', decide_eq_false_iff_not] at hb
          unfold opA
          rw [if_pos hb.1]
          cases e : l.t with
          | none => exact absurd (by rw [e]; rfl) hb.2
          | some pr => exact ⟨pr, rfl, rfl⟩
        · rw [dI] at hb
          unfold opA
          split
          · rename_i c
            rw [decide_eq_true c, Bool.true_and, Bool.not_eq_false', decide_eq_true_eq] at hb
            cases e : l.t with
            | none => rfl
            | some pr =>
              rw [e] at hb
              cases hb
          · rfl
      · obtain ⟨ts4, rfl, s4, e4, hT4⟩ := hM
        have Al := opA_len (x := x) (l := l)
        refine step (X := opB x l) (k := fun _ _ => True) (b := decide (V.int l.b = V.int x) && !decide (oV l.k = .non)) (an_and (an_test (vl_eq (vl_var rfl) (vl_var rfl) rfl)) fun _ => an_test (vl_notN (vl_var rfl))) (vl_var rfl) (vl_var rfl) (vl_var rfl) s4 e4 hT4 (by rw [List.length_append]; omega) (fun hb => ?_) (fun hb => ?_) fun H5 ts5 s5 e5 h5 => ⟨_, _, _, _, ts5, _, rfl, s5, e5, h5, eo.symm⟩
        · rw [dI, Bool.and_eq_true, decide_eq_true_eq, Bool.not_eq_true', decide_eq_false_iff_not] at hb
          unfold opB
          rw [if_pos hb.1]
          cases e : l.k with
          | none => exact absurd (by rw [e]; rfl) hb.2
          | some pr => exact ⟨pr, rfl, rfl⟩
        · rw [dI] at hb
          unfold opB
          split
          · rename_i c
            rw [decide_eq_true c, Bool.true_and, Bool.not_eq_false', decide_eq_true_eq] at hb
            cases e : l.k with
            | none => rfl
            | some pr =>
              rw [e] at hb
              cases hb
          · rfl
    · obtain ⟨y3, y4, y5, y6, ts, L, rfl, s3, ho, hT, eL⟩ := hP
      rw [List.take_length] at eL
      refine ⟨.ref o, rfl, o, ts, kP6 H3, rfl, .of ho, fun z hz => hT.ref6 hz, fun ys q1 g1 g2 n1 => ?_⟩
      obtain ⟨M, m1, m2, m3⟩ := sort6 hT g1 g2
      exact q _ q1 ys M ((s3.trans but_same).trans (same_upd n1)) upd_same (m3.to (same_upd n1)) (by rw [← eL]; exact m1)
theorem ok_lNear9 {f : Addr} {fd : FuncData} {k : Nat} (F : Fun K "_law_near" "_law_near" sLNear9 f fd) : FnOk P w K mg base CX0 (k + 1) f fd ["net", "place"] (spLNear9 K) := by
  refine F.ok scLNear9 (fun vs H Q E h => ?_) (fun cdv A outer s H vs Q E hr h => ?_)
  · obtain ⟨v, N, x, rfl, _⟩ := h
    rfl
  · obtain ⟨v, N, x, rfl, hN, ok, q⟩ := h
    have hu := hu_of hr
    refine ⟨_, pss_one (ps_ret (pe_op op_cat (pe_lc (own := [("a", 2), ("b", 3), ("there", 4), ("back", 5)]) (g := gTup K 4 (gCons (gName 2) (gCons (gName 3) (gCons (gName 4) (gCons (gName 5) (gNil)))))) (tt := (tTest (tOp rEq (tVar 2) (tVar 1)))) (te := (tVar 3)) (by rfl) scLNear9.nd (pi_list (pe_ix ix_tup (pv 0) pe_int (fun _ _ => rfl))) (blkOk_by (own := [("a", 2), ("b", 3), ("there", 4), ("back", 5)]) (N := ["net", "place", "a", "b", "there", "back"]) (sc := defScope sLNear9) (by decide +kernel)) (fun _ _ _ _ _ => pg_tup rfl (pgs_cons (pg_name (i := 2) scLNear9.nd rfl (Or.inl rfl)) (pgs_cons (pg_name (i := 3) scLNear9.nd rfl (Or.inl rfl)) (pgs_cons (pg_name (i := 4) scLNear9.nd rfl (Or.inl rfl)) (pgs_cons (pg_name (i := 5) scLNear9.nd rfl (Or.inl rfl)) pgs_nil))))) (fun _ _ _ _ _ => by exact (pts_one (pt_cmpR op_eq (pv 2) (pv 1) (nomark _)))) (fun _ _ _ _ _ => by exact (pv 3))) (pe_lc (own := [("a", 2), ("b", 3), ("there", 4), ("back", 5)]) (g := gTup K 4 (gCons (gName 2) (gCons (gName 3) (gCons (gName 4) (gCons (gName 5) (gNil)))))) (tt := (tTest (tOp rEq (tVar 3) (tVar 1)))) (te := (tVar 2)) (by rfl) scLNear9.nd (pi_list (pe_ix ix_tup (pv 0) pe_int (fun _ _ => rfl))) (blkOk_by (own := [("a", 2), ("b", 3), ("there", 4), ("back", 5)]) (N := ["net", "place", "a", "b", "there", "back"]) (sc := defScope sLNear9) (by decide +kernel)) (fun _ _ _ _ _ => pg_tup rfl (pgs_cons (pg_name (i := 2) scLNear9.nd rfl (Or.inl rfl)) (pgs_cons (pg_name (i := 3) scLNear9.nd rfl (Or.inl rfl)) (pgs_cons (pg_name (i := 4) scLNear9.nd rfl (Or.inl rfl)) (pgs_cons (pg_name (i := 5) scLNear9.nd rfl (Or.inl rfl)) pgs_nil))))) (fun _ _ _ _ _ => by exact (pts_one (pt_cmpR op_eq (pv 3) (pv 1) (nomark _)))) (fun _ _ _ _ _ => by exact (pv 2))))), ?_⟩
    obtain ⟨p, c, xs, rfl, hp, hc, hx⟩ := Dp.net_inv hN
    have l16 := ok.len
    refine vn_catI (ms := (N.ls.filter fun l : Lnk => decide (l.a = x)).map fun l : Lnk => l.b) (ns := (N.ls.filter fun l : Lnk => decide (l.b = x)).map fun l : Lnk => l.a) ?_ (fun H' s' => ?_) ?_ _ fun a H' s' na ea => q H' a s' ea
    · exact vn_lcLnk (K := K) (vl_ixT (K := K) (vl_var rfl) vl_c hp (atI_nat (j := 1) rfl)) hc hx (by omega) (fun _ _ _ _ => rfl) (fun l H' => (an_test (vl_eq (vl_var rfl) (vl_var rfl) rfl)).is dI) (fun l H' => vl_var rfl)
    · exact vn_lcLnk (K := K) (vl_ixT (K := K) (vl_var rfl) vl_c (seqT s' hp) (atI_nat (j := 1) rfl)) (s'.seq hc) (DpAll.to hx s') (by omega) (fun _ _ _ _ => rfl) (fun l H' => (an_test (vl_eq (vl_var rfl) (vl_var rfl) rfl)).is dI) (fun l H' => vl_var rfl)
    · rw [List.length_map, List.length_map]
      have h1 := List.length_filter_le (fun l : Lnk => decide (l.a = x)) N.ls
      have h2 := List.length_filter_le (fun l : Lnk => decide (l.b = x)) N.ls
      omega
end
section
variable {prog : Program} {w : World} {A : Around} {E : Value → Shared → Prop} {s : Shared}
/-- the places of [::-1] in a pair -/
theorem rev2_places {sl : Addr} {vs : Value} {Q : Int × Int × Nat → Shared → Prop} (slc : s.heap.IsSliceOf sl .none .none vs) (minus : IsPart vs (some (-1))) (goal_ : Q (1, -1, 2) s) : wpAny (model prog w) A (Builtin.Slice.sliceApplied (.ref sl) (pure ((2 : Nat) : Int))) Q E s := by
  obtain ⟨ob, look, _, data⟩ := id slc
  unfold Builtin.Slice.sliceApplied Builtin.Slice.sliceFields
  refine wpAny_bind (wpAny_bind (wpAny_field look data (x := .none) rfl (wpAny_bind (wpAny_field look data (x := .none) rfl (wpAny_bind (wpAny_field look data (x := vs) rfl (wpAny_pure (wpAny_bind (HT.slicePart_ minus ?_)))))))))
  dsimp only
  rw [if_neg (show ¬ (((some (-1 : Int)).getD 1 == 0) = true) by decide)]
  refine wpAny_bind (HT.slicePart_ .none (wpAny_bind (HT.slicePart_ .none (wpAny_bind (wpAny_pure ?_)))))
  exact wpAny_pure goal_
theorem rev2_get {t sl : Addr} {x y vs : Value} {Q : Value → Shared → Prop} (tup : IsTup s.heap t #[x, y]) (slc : s.heap.IsSliceOf sl .none .none vs) (minus : IsPart vs (some (-1)))
    (goal_ : Q (.ref s.heap.objs.size) { s with heap := s.heap.push { cls := .type "tuple", data := .seq #[y, x] } }) : wpAny (model prog w) A (getItem (.ref t) (.ref sl)) Q E s := by
  obtain ⟨ob, look, kind, data⟩ := id slc
  have small : sizeOk (.seq #[y, x]) := by
    show (2 : Nat) ≤ sizeLine
    decide
  unfold getItem
  try with_reducible refine wpAny_holding ?_
  first | refine wpAny_bind (wpAny_pure ?_) | skip
  refine wpAny_bind (wpAny_sequenceKey tup.typeIs (by decide) (wpAny_bind (wpAny_callSpecial?_slot (name := Str.ofString "__getitem__") tup.typeIs PyProof.Rows.slot_tuple_getitem (wpAny_call_entry PyProof.Rows.slot_tuple_getitem tup.typeIs PyProof.Rows.entry_tuple_getitem ?_ (PyProof.Rows.args_tuple_getitem _ _)))))
  refine wpAny_bind (m := Builtin.Tuple.tupleItemsOf (.ref t)) (tupleItemsOf_ tup (wpAny_bind (wpAny_typeOf ⟨ob, look, kind⟩ ?_)))
  rw [if_pos (by decide)]
  refine wpAny_bind (rev2_places slc minus ?_)
  show wpAny _ _ (if ((1 : Int) == 0 && (-1 : Int) == 1 && (2 : Nat) == 2) = true then _ else _) _ _ s
  rw [if_neg (by decide)]
  have pick : ((List.range 2).filterMap fun (k : Nat) => (#[x, y] : Array Value)[((1 : Int) + (k : Int) * -1).toNat]?).toArray = #[y, x] := by
    rw [show List.range 2 = [0, 1] from rfl]
    rfl
  rw [pick]
  first
    | exact wpAny_bind (m := Builtin.Tuple.tupleExact _) (wpAny_newObj_type (wpAny_pure ⟨_, rfl, wpAny_pure goal_⟩) small)
    | exact wpAny_bind (m := Builtin.Tuple.tupleExact _) (wpAny_newObj_type (wpAny_bind (wpAny_pure (wpAny_pure ⟨_, rfl, wpAny_pure goal_⟩))) small)
    | exact wpAny_bind (wpAny_bind (m := Builtin.Tuple.tupleExact _) (wpAny_newObj_type (wpAny_pure (wpAny_pure ⟨_, rfl, wpAny_pure goal_⟩)) small))
    | exact wpAny_bind (wpAny_bind (m := Builtin.Tuple.tupleExact _) (wpAny_newObj_type (wpAny_pure ⟨_, rfl, wpAny_pure goal_⟩) small))
end
theorem two_vals {x y : V} {its : List Value} (r : Vals [x, y] its) : ∃ i1 i2, its = [i1, i2] ∧ RelV x i1 ∧ RelV y i2 := by
  cases r with
  | cons a r =>
    cases r with
    | cons b r =>
      cases r
      exact ⟨_, _, rfl, a, b⟩
/-- t[::-1], t a pair -/
def tRevT (K : PySem.W.Frag) (te : TE) : TE := fun σ H Q => te σ H fun v H1 => ∃ a x y, v = .ref a ∧ SqT K H1 a [x, y] ∧ ∀ p, H1 p = none → Q (.ref p) (upd H1 p (.tup [y, x]))
theorem pe_revT {X : Cx} {e : Expr} {te : TE} {k : Nat} {p1 p2 p3 pos : Pos} (sub : PE X e te) : PE X (.Subscript e (.Slice none none (some (.UnaryOp .USub (.Constant (.int 1) k p1) p2)) p3) pos) (tRevT X.K te) := by
  refine ⟨fun pins s σ H Q I want => Subscript_ (thn (sub.run pins s σ H _ I want) fun v s1 ⟨x0, H1, I1, r1, q1⟩ => ?_)⟩
  obtain ⟨a, x, y, ex, hx, q⟩ := q1
  subst ex
  cases r1
  have part : PO X (some (.UnaryOp .USub (.Constant (.int 1) k p1) p2)) (tPart (tUn (rU fun i => .int (-i)) (tC (.int 1)))) := po_some (pe_un un_neg pe_int)
  refine wpAny_Slice (thn (po_none.run pins s1 σ H1 (fun o Ha => o = none ∧ Ha = H1) I1 ⟨rfl, rfl⟩) fun vl s2 ⟨l, H2, I2, pl, el, e2⟩ => ?_)
  cases el
  cases e2
  refine thn (po_none.run pins s2 σ H1 (fun o Ha => o = none ∧ Ha = H1) I2 ⟨rfl, rfl⟩) fun vu s3 ⟨u, H3, I3, pu, eu, e3⟩ => ?_
  cases eu
  cases e3
  refine thn (part.run pins s3 σ H1 (fun o Ha => o = some (-1) ∧ Ha = H1) I3 ⟨1, rfl, -1, rfl, rfl, rfl⟩) fun vs s4 ⟨o, H4, I4, ps, eo, e4⟩ => ?_
  cases eo
  cases e4
  have J : Inv X pins σ H1 { s4 with heap := s4.heap.push { cls := .type "slice", data := .fields #[vl, vu, vs] } } := I4.kept (t' := s4.toks) fun b ob look => Heap.get?_push_of_some _ look
  obtain ⟨its, r, tup, sz⟩ := J.tuple hx
  cases pl
  cases pu
  obtain ⟨i1, i2, ei, c1, c2⟩ := two_vals r
  subst ei
  have tup : IsTup (s4.heap.push { cls := .type "slice", data := .fields #[.none, .none, vs] }) a #[i1, i2] := tup
  show wpAny (model X.prog X.w) X.A (subscriptTail e (.Slice none none (some (.UnaryOp .USub (.Constant (.int 1) k p1) p2)) p3) (.ref a) (.ref s4.heap.objs.size)) (EP X pins σ Q) X.xe { s4 with heap := s4.heap.push { cls := .type "slice", data := .fields #[.none, .none, vs] } }
  refine tail_any (ops := [.ref a, .ref s4.heap.objs.size]) tup.typeIs PyProof.Rows.slot_tuple_getitem.lookup ?_ (by with_unfolding_all rfl)
  refine rev2_get tup (Heap.IsSliceOf.new _ .none .none vs) ps ⟨.ref _, _, J.laid (t' := s4.toks) (o := .tup [y, x]) (fun b ob look => Heap.get?_push_of_some _ look) (Nat.le_refl _) ?_, rfl, q _ (J.hok.fresh (Nat.le_refl _))⟩
  exact ⟨by show 2 ≤ sizeLine; decide, _, .cons c2 (.cons c1 .nil), IsTup.new _ _⟩
/-! ### the law's turns -/
theorem mem_putT {kvs : List (List L2.Key × V)} {k : List L2.Key} {v : V} {p : List L2.Key × V} (hp : p ∈ putK kvs k v) : p ∈ kvs ∨ p = (k, v) := by
  unfold putK at hp
  split at hp
  · obtain ⟨z, hz, e⟩ := List.mem_map.mp hp
    split at e
    · rename_i c
      rw [c] at e
      exact .inr e.symm
    · rw [← e]
      exact .inl hz
  · rcases List.mem_append.mp hp with hp | hp
    · exact .inl hp
    · exact .inr (List.mem_singleton.mp hp)
theorem TrnOk.put {kvs : List (List L2.Key × V)} (h : TrnOk kvs) (hl : kvs.length < 100) {a b c : Int} {o : Option Int} (h1 : (0 ≤ a ∧ a ≤ 40) ∧ (0 ≤ b ∧ b ≤ 40) ∧ (0 ≤ c ∧ c ≤ 40)) (h2 : ∀ x, o = some x → 0 ≤ x ∧ x ≤ 1000000) : TrnOk (putK kvs [Sum.inl a, Sum.inl b, Sum.inl c] (oV o)) := by
  refine ⟨Nat.le_trans put_len hl, fun p hp => ?_⟩
  rcases mem_putT hp with hp | hp
  · exact h.at_ p hp
  · exact ⟨a, b, c, o, hp, h1, h2⟩
theorem lay_lnk9 (l : Lnk) : (lnkD l).canLay0 = true ∧ (lnkD l).depth = 1 := by
  obtain ⟨h1, h2⟩ := lay_o l.t
  obtain ⟨h3, h4⟩ := lay_o l.k
  constructor
  · show (true && (true && ((oD l.t).canLay0 && ((oD l.k).canLay0 && true)))) = true
    rw [h1, h3]
    rfl
  · show max 0 (max 0 (max (oD l.t).depth (max (oD l.k).depth 0))) + 1 = 1
    rw [h2, h4]
    rfl
theorem shaped_lnks (ls : List Lnk) : SeqAt.shaped (.list (ls.map lnkD)) = true := by
  have h : ∀ ls : List Lnk, PyData.canLayAll0 (ls.map lnkD) = true ∧ PyData.depthAll (ls.map lnkD) ≤ 1 := fun ls => by
    induction ls with
    | nil => exact ⟨rfl, Nat.zero_le _⟩
    | cons l ls ih =>
      obtain ⟨g1, g2⟩ := lay_lnk9 l
      constructor
      · show ((lnkD l).canLay0 && PyData.canLayAll0 (ls.map lnkD)) = true
        rw [g1, ih.1]
        rfl
      · show max (lnkD l).depth (PyData.depthAll (ls.map lnkD)) ≤ 1
        rw [g2]
        have := ih.2
        omega
  have hl := h ls
  show (PyData.canLayAll0 (ls.map lnkD) && decide (PyData.depthAll (ls.map lnkD) + 1 ≤ 64)) = true
  rw [hl.1]
  have := hl.2
  exact decide_eq_true (by omega)
theorem eqv_nil {ds : List PyData} : PyData.eqv (.list ds) (.list []) = decide (ds = []) := by
  cases ds with
  | nil => rfl
  | cons d ds => rfl
section
variable {K : PySem.W.Frag} {σ : L2.St} {H : Hp} {ta te : TE}
theorem ax_op9 {tb : TE} {r : R2} {b : Bool} (h : ∀ Q : Bool → Hp → Prop, (∀ H', Same H H' → Q b H') → ta σ H fun x H1 => tb σ H1 fun y H2 => r x y H2 fun z H3 => ∃ b', z = .bl b' ∧ Q b' H3) : Ax (tTest (tOp r ta tb)) σ H b := h
/-- xs != [] -/
theorem ax_neNil {a : Addr} {xs : List V} {ds : List PyData} (ha : Vl ta σ H (.ref a)) (hx : SqL K H a xs) (hd : DpAll K H xs ds) (sh : SeqAt.shaped (.list ds) = true) : Ax (tTest (tOp (rNeD K) ta (tLst tNil))) σ H (!decide (ds = [])) := ax_op9 fun Q k => ha _ ⟨Nat.zero_le _, fun L nL => ⟨.list ds, .list [], .lst ((same_upd nL).seq hx) (DpAll.to hd (same_upd nL)), .lst (.of upd_same) .nil, sh, rfl, _, rfl, by
  rw [eqv_nil]
  exact k _ (same_upd nL)⟩⟩
theorem ax_eqNil {a : Addr} {xs : List V} {ds : List PyData} (ha : Vl ta σ H (.ref a)) (hx : SqL K H a xs) (hd : DpAll K H xs ds) (sh : SeqAt.shaped (.list ds) = true) : Ax (tTest (tOp (rEqD K) ta (tLst tNil))) σ H (decide (ds = [])) := ax_op9 fun Q k => ha _ ⟨Nat.zero_le _, fun L nL => ⟨.list ds, .list [], .lst ((same_upd nL).seq hx) (DpAll.to hd (same_upd nL)), .lst (.of upd_same) .nil, sh, rfl, _, rfl, by
  rw [eqv_nil]
  exact k _ (same_upd nL)⟩⟩
/-- t[:2] of a tuple of four -/
theorem mk_cut2 {a : Addr} {x y z u : V} {Q : VK} (ha : Vl ta σ H (.ref a)) (hx : SqT K H a [x, y, z, u]) (k : ∀ p, H p = none → Q (.ref p) (upd H p (.tup [x, y]))) : tSl (rSlT K) ta tNoPart (tPart (tC (.int 2))) σ H Q := ha _ ⟨2, rfl, a, _, rfl, hx, by show ¬ (HT.sIx 4 0 none = 0 ∧ HT.sIx 4 4 (some 2) = 4); decide, k⟩
/-- t[:2], t[:2][::-1]: one of the two -/
theorem mk_way2 {a : Addr} {x y z u : V} {Q : VK} {tb : TE} {i : Nat} (hi : i < 2) (ha : ∀ H', Vl ta σ H' (.ref a)) (hx : SqT K H a [x, y, z, u]) (hb : ∀ H', Vl tb σ H' (.int (i : Nat))) (k : ∀ H' p, Same H H' → H' p = some (.tup (if i = 0 then [x, y] else [y, x])) → Q (.ref p) H') :
    tOp (rIxL K) (tLst (tCons (tSl (rSlT K) ta tNoPart (tPart (tC (.int 2)))) (tCons (tRevT K (tSl (rSlT K) ta tNoPart (tPart (tC (.int 2))))) tNil))) tb σ H Q := by
  refine mk_cut2 (ha _) hx fun T1 n1 => ?_
  have s1 := same_upd (o := .tup [x, y]) n1
  have e1 := upd_same (H := H) (a := T1) (o := .tup [x, y])
  generalize upd H T1 (.tup [x, y]) = H1 at s1 e1
  refine mk_cut2 (K := K) (ha _) (seqT s1 hx) fun T2 n2 => ⟨T2, x, y, rfl, .of upd_same, fun T3 n3 => ?_⟩
  have s2 := (same_upd (o := .tup [x, y]) n2).trans (same_upd (o := .tup [y, x]) n3)
  have e3 := upd_same (H := upd H1 T2 (.tup [x, y])) (a := T3) (o := .tup [y, x])
  generalize upd (upd H1 T2 (.tup [x, y])) T3 (.tup [y, x]) = H3 at s2 e3
  refine ⟨by show 2 ≤ sizeLine; decide, fun L nL => ?_⟩
  have sL := same_upd (o := .lst [.ref T1, .ref T3]) nL
  refine hb _ _ ⟨L, [.ref T1, .ref T3], (i : Nat), if i = 0 then .ref T1 else .ref T3, rfl, rfl, .of upd_same, ?_, ?_⟩
  · have c : i = 0 ∨ i = 1 := by omega
    rcases c with rfl | rfl
    · exact atI_nat rfl
    · exact atI_nat rfl
  · by_cases c : i = 0
    · rw [if_pos c]
      refine k _ T1 (s1.trans (s2.trans sL)) ?_
      rw [if_pos c]
      exact sL _ _ (s2 _ _ e1)
    · rw [if_neg c]
      refine k _ T3 (s1.trans (s2.trans sL)) ?_
      rw [if_neg c]
      exact sL _ _ e3
end
abbrev sTurns9 : Stmt := topS 13
theorem scTurns9 : FnScope ["draws", "first", "net", "turns", "k", "cell", "link", "a", "b", "near", "c"] ["draws", "first", "net"] (defScope sTurns9) := ⟨rfl, rfl, rfl, by decide +kernel, rfl, by decide +kernel, by decide +kernel⟩
def spTurns9 (K : PySem.W.Frag) : Sp := fun vs H Q _ => ∃ (d : Addr) (v : V) (N : Net) (ds : List Int) (k : Int), vs = [.ref d, .int k, v] ∧ SqL K H d (ds.map V.int) ∧ 0 ≤ k ∧ Dp K H v (netD N) ∧ NetOk N ∧ ∀ H' td kvs, Same H H' → H' td = some (.dT kvs) → TrnOk kvs → Q (.ref td) H'
theorem near_in {N : Net} (ok : NetOk N) {x c : Int} (h : c ∈ nearL N.ls x) : 0 ≤ c ∧ c < N.n := by
  unfold nearL at h
  rcases List.mem_append.mp h with h | h
  · obtain ⟨l, hl, rfl⟩ := List.mem_map.mp h
    have hk := ok.ok l (List.mem_filter.mp hl).1
    have a0 := hk.a0
    have ab := hk.ab
    have bn := hk.bn
    omega
  · obtain ⟨l, hl, rfl⟩ := List.mem_map.mp h
    have hk := ok.ok l (List.mem_filter.mp hl).1
    have a0 := hk.a0
    have ab := hk.ab
    have bn := hk.bn
    omega
theorem near_pos {ls : List Lnk} {l : Lnk} (hl : l ∈ ls) {x : Int} (c : x = l.a ∨ x = l.b) : 0 < (nearL ls x).length := by
  unfold nearL
  rw [List.length_append, List.length_map, List.length_map]
  rcases c with rfl | rfl
  · have := List.length_pos_of_mem (List.mem_filter.mpr ⟨hl, decide_eq_true rfl⟩ : l ∈ ls.filter fun z : Lnk => decide (z.a = l.a))
    omega
  · have := List.length_pos_of_mem (List.mem_filter.mpr ⟨hl, decide_eq_true rfl⟩ : l ∈ ls.filter fun z : Lnk => decide (z.b = l.b))
    omega
section
variable {P : Program} {w : World} {K : PySem.W.Frag} {mg : Str → Option Value} {base : Heap}
theorem ok_turns9 {f : Addr} {fd : FuncData} {k1 k2 k0 : Nat} (l1 : k1 ≤ k0) (l2 : k2 ≤ k0) (F : Fun K "_law_turns" "_law_turns" sTurns9 f fd) (c_law_at : Kal P w K mg base k1 "_law_at" ["draws", "k", "many"] (spAt K)) (c_law_near : Kal P w K mg base k2 "_law_near" ["net", "place"] (spLNear9 K)) (ml : mg "len" = none) (mr : mg "range" = none) (mi : mg "int" = none) : FnOk P w K mg base CX0 (k0 + 1) f fd ["draws", "first", "net"] (spTurns9 K) := by
  refine F.ok scTurns9 (fun vs H Q E h => ?_) (fun cdv A outer s H vs Q E hr h => ?_)
  · obtain ⟨d, v, N, ds, k, rfl, _⟩ := h
    rfl
  · obtain ⟨d, v, N, ds, k, rfl, hD, hk, hN, ok, q⟩ := h
    have hu := hu_of hr
    refine ⟨_, pss_cons (ps_set (i := 3) scTurns9.nd rfl (.inl rfl) pe_dnewT)
      (pss_cons (ps_for PassesOwn.never rfl (pi_range1 (by rfl) mr (pa_cons (pe_k c_law_at hr (by first | decide | omega) (by rfl) (pa_cons (pv 0) (pa_cons (pv 1) (pa_cons pe_int pa_nil)))) pa_nil)) (pg_name (i := 4) scTurns9.nd rfl (.inl rfl))
      (pss_cons (ps_set (i := 5) scTurns9.nd rfl (.inl rfl) (pe_op op_add (pe_k c_law_at hr (by first | decide | omega) (by rfl) (pa_cons (pv 0) (pa_cons (pe_op op_add (pe_op op_add (pv 1) pe_int) (pe_op op_mod (pe_callTy call_int1 (by rfl) mi (by decide +kernel) (pa_cons (pv 4) pa_nil)) pe_int)) (pa_cons pe_int pa_nil)))) (pe_op op_mul pe_int (pv 4))))
        (pss_one (ps_if (pt_cmpR (op_neD hr.units) (pe_ix ix_tup (pv 2) pe_int (fun _ _ => rfl)) (pe_lst pa_nil) (nomark _))
        (pss_cons (ps_set (i := 6) scTurns9.nd rfl (.inl rfl) (pe_ix ix_list (pe_ix ix_tup (pv 2) pe_int (fun _ _ => rfl)) (pe_op op_mod (pe_callTy call_int1 (by rfl) mi (by decide +kernel) (pa_cons (pv 5) pa_nil)) (pe_callB call_len_seq (by rfl) ml PySem.boot_len (pa_cons (pe_ix ix_tup (pv 2) pe_int (fun _ _ => rfl)) pa_nil))) (fun _ _ => rfl)))
          (pss_cons (ps_asg (pe_ix ix_list (pe_lst (pa_cons (pe_slice sl_tup (pv 6) po_none (po_some pe_int)) (pa_cons (pe_revT (pe_slice sl_tup (pv 6) po_none (po_some pe_int))) pa_nil))) (pe_op op_mod (pe_callTy call_int1 (by rfl) mi (by decide +kernel) (pa_cons (pe_op op_fdiv (pv 5) pe_int) pa_nil)) pe_int) (fun _ _ => rfl)) (pg_tup rfl (pgs_cons (pg_name (i := 7) scTurns9.nd rfl (.inl rfl)) (pgs_cons (pg_name (i := 8) scTurns9.nd rfl (.inl rfl)) pgs_nil))))
          (pss_cons (ps_set (i := 9) scTurns9.nd rfl (.inl rfl) (pe_k c_law_near hr (by first | decide | omega) (by rfl) (pa_cons (pv 2) (pa_cons (pv 8) pa_nil))))
          (pss_cons (ps_set (i := 10) scTurns9.nd rfl (.inl rfl) (pe_ix ix_list (pv 9) (pe_op op_mod (pe_callTy call_int1 (by rfl) mi (by decide +kernel) (pa_cons (pe_op op_fdiv (pv 5) pe_int) pa_nil)) (pe_callB call_len_seq (by rfl) ml PySem.boot_len (pa_cons (pv 9) pa_nil))) (fun _ _ => rfl)))
          (pss_one (ps_dput hu (pv 3) (pe_tup (pa_cons (pv 7) (pa_cons (pv 8) (pa_cons (pv 10) pa_nil)))) (pe_ix ix_list (pe_lst (pa_cons pe_non (pa_cons pe_int (pa_cons pe_int (pa_cons pe_int (pa_cons pe_int (pa_cons pe_int (pa_cons pe_non (pa_cons (pe_op op_mod (pe_callTy call_int1 (by rfl) mi (by decide +kernel) (pa_cons (pv 5) pa_nil)) pe_int) pa_nil))))))))) (pe_op op_mod (pe_callTy call_int1 (by rfl) mi (by decide +kernel) (pa_cons (pe_op op_fdiv (pv 5) pe_int) pa_nil)) pe_int) (fun _ _ => rfl)) rfl))))))
        pss_nil))))
      (pss_one (ps_ret (pv 3)))), ?_⟩
    obtain ⟨p, c, xs, rfl, hp, hc, hx⟩ := Dp.net_inv hN
    have n40 := ok.n40
    have xl := DpAll.len hx
    rw [List.length_map] at xl
    refine q_dnewT fun o no => ?_
    have so := same_upd (o := .dT []) no
    refine q_forRI (P := fun n => 0 ≤ n ∧ n < 14) (vi_call (va_cons (vl_var rfl) (va_cons (vl_var rfl) (va_cons vl_c va_nil))) fun Q E q => ⟨d, ds, k, 14, rfl, so.seq hD, hk, by decide, q⟩) (fun n hn => ⟨by omega, by omega⟩)
      (fun i σ H3 => ∃ y4 y5 y6 y7 y8 y9 y10 kvs, σ = [some (.ref d), some (.int k), some (.ref p), some (.ref o), y4, y5, y6, y7, y8, y9, y10] ∧ Same H (but H3 o) ∧ H3 o = some (.dT kvs) ∧ TrnOk kvs ∧ kvs.length ≤ i)
      ⟨_, _, _, _, _, _, _, [], rfl, same_but so no, upd_same, ⟨Nat.zero_le _, fun p hp => (nomatch hp)⟩, Nat.zero_le _⟩ (fun n hn i σ H3 hi hP => ?_) (fun n hn σ H3 hP => ?_)
    · obtain ⟨y4, y5, y6, y7, y8, y9, y10, kvs, rfl, s3, ho, hT, hl⟩ := hP
      have sH := s3.trans but_same
      have hp3 := seqT sH hp
      have hc3 := sH.seq hc
      have hx3 := DpAll.to hx sH
      refine q_asgI (P := fun r => 0 ≤ r) (vi_I0 (P1 := fun r => 0 ≤ r ∧ r < 65536) (P2 := fun r => r = 1009 * (i : Int)) (vi_call (va_cons (vl_var rfl) (va_cons (vl_I0 (g := fun i j => .int (i + j)) (vl_I0 (g := fun i j => .int (i + j)) (vl_var rfl) vl_c) (vl_I (vl_int1 (vl_var rfl)) vl_c (by decide))) (va_cons vl_c va_nil))) fun Q E q => ⟨d, ds, k + 1 + (i : Int) % 9, 65536, rfl, sH.seq hD, by omega, by decide, q⟩) (vi_of (vl_I vl_c (vl_var rfl) (.inl ⟨by decide, by decide⟩))) (fun p r hp hr => by omega)) (fun cell hcell => ?_)
      refine g_whenx (ax_neNil (K := K) (ds := N.ls.map lnkD) (vl_ixT (K := K) (vl_var rfl) vl_c hp3 (atI_nat (j := 1) rfl)) hc3 hx3 (shaped_lnks _)) (fun hb H4 s4 => ?_) (fun hb H4 s4 => ⟨_, _, _, _, _, _, _, kvs, rfl, ?_, s4 _ _ ho, hT, by omega⟩)
      · have lne : 0 < N.ls.length := by
          rw [Bool.not_eq_true', decide_eq_false_iff_not] at hb
          cases e : N.ls with
          | nil => exact absurd (by rw [e]; rfl) hb
          | cons l ls => exact Nat.succ_pos _
        have sH4 := sH.trans s4
        have hp4 := seqT sH4 hp
        have hc4 := sH4.seq hc
        have hx4 := DpAll.to hx sH4
        -- link
        have m0 := Int.emod_nonneg cell (show ((xs.length : Nat) : Int) ≠ 0 by omega)
        have m1 := Int.emod_lt_of_pos cell (show (0 : Int) < ((xs.length : Nat) : Int) by omega)
        obtain ⟨m, em⟩ := Int.eq_ofNat_of_zero_le m0
        have ml' : m < N.ls.length := by omega
        have hg : N.ls[m]? = some (N.ls[m]'ml') := List.getElem?_eq_getElem ml'
        generalize N.ls[m]'ml' = l at hg
        obtain ⟨lv, hv, dv⟩ := DpAll.get (i := m) (d := lnkD l) hx4 (by
          rw [List.getElem?_map, hg]
          rfl)
        obtain ⟨t, rfl, htl⟩ := Dp.lnk_inv dv
        have hlm := List.mem_of_getElem? hg
        have hko := ok.ok l hlm
        have a0 := hko.a0
        have ab := hko.ab
        have bn := hko.bn
        refine q_asg (v := .ref t) (vl_ixL (K := K) (vl_ixT (K := K) (vl_var rfl) vl_c hp4 (atI_nat (j := 1) rfl)) ((vl_I (vl_int1 (vl_var rfl)) (vl_lenL (K := K) (vl_ixT (K := K) (vl_var rfl) vl_c hp4 (atI_nat (j := 1) rfl)) hc4) (by show (0 : Int) < ((xs.length : Nat) : Int); omega)).is (congrArg V.int em)) hc4 (atI_nat hv)) ?_
        -- a, b
        have w0 := Int.emod_nonneg (cell / 7) (show (2 : Int) ≠ 0 by decide)
        have w1 := Int.emod_lt_of_pos (cell / 7) (show (0 : Int) < 2 by decide)
        obtain ⟨wi, ew⟩ := Int.eq_ofNat_of_zero_le w0
        refine mk_way2 (K := K) (i := wi) (by omega) (fun _ => vl_var rfl) htl (fun H' => (vl_I (vl_int1 (vl_I (vl_var rfl) vl_c ⟨by decide, by decide⟩)) vl_c (by decide)).is (congrArg V.int ew)) fun H5 T s5 eT => ?_
        obtain ⟨a, b, hab, e5⟩ : ∃ a b : Int, (b = l.a ∨ b = l.b) ∧ ((a = l.a ∨ a = l.b) ∧ H5 T = some (.tup [.int a, .int b])) := by
          by_cases c : wi = 0
          · rw [if_pos c] at eT
            exact ⟨l.a, l.b, .inr rfl, .inl rfl, eT⟩
          · rw [if_neg c] at eT
            exact ⟨l.b, l.a, .inl rfl, .inr rfl, eT⟩
        obtain ⟨haa, e5⟩ := e5
        refine ⟨T, _, rfl, .of e5, rfl, _, _, rfl, _, _, rfl, rfl, ?_⟩
        refine nx_of ?_
        have sH5 := sH4.trans s5
        -- near
        refine q_asgE ⟨.ref p, rfl, .int b, rfl, .ref p, N, b, rfl, Dp.to hN sH5, ok, fun H6 nq s6 en => ?_⟩
        have npos := near_pos hlm hab
        have j0 := Int.emod_nonneg (cell / 3) (show (((nearL N.ls b).length : Nat) : Int) ≠ 0 by omega)
        have j1 := Int.emod_lt_of_pos (cell / 3) (show (0 : Int) < (((nearL N.ls b).length : Nat) : Int) by omega)
        obtain ⟨j, ej⟩ := Int.eq_ofNat_of_zero_le j0
        have jl : j < (nearL N.ls b).length := by omega
        have hgj : (nearL N.ls b)[j]? = some ((nearL N.ls b)[j]'jl) := List.getElem?_eq_getElem jl
        generalize (nearL N.ls b)[j]'jl = cc at hgj
        have hcin := near_in ok (List.mem_of_getElem? hgj)
        refine q_asg (v := .int cc) (vl_ixI (K := K) (vl_var rfl) ((vl_I (vl_int1 (vl_I (vl_var rfl) vl_c ⟨by decide, by decide⟩)) (vl_lenI (K := K) (vl_var rfl) (.of en)) (by show (0 : Int) < (((nearL N.ls b).length : Nat) : Int); omega)).is (congrArg V.int ej)) (.of en) hgj) ?_
        -- the turn
        have v0 := Int.emod_nonneg (cell / 5) (show (8 : Int) ≠ 0 by decide)
        have v1 := Int.emod_lt_of_pos (cell / 5) (show (0 : Int) < 8 by decide)
        obtain ⟨z, ez⟩ := Int.eq_ofNat_of_zero_le v0
        have zl : z < ([none, some 0, some 1, some 2, some 5, some 1000000, none, some (cell % 9)] : List (Option Int)).length := by show z < 8; omega
        have hgz : ([none, some 0, some 1, some 2, some 5, some 1000000, none, some (cell % 9)] : List (Option Int))[z]? = some (([none, some 0, some 1, some 2, some 5, some 1000000, none, some (cell % 9)] : List (Option Int))[z]'zl) := List.getElem?_eq_getElem zl
        generalize ([none, some 0, some 1, some 2, some 5, some 1000000, none, some (cell % 9)] : List (Option Int))[z]'zl = op at hgz
        have hop : ∀ x, op = some x → 0 ≤ x ∧ x ≤ 1000000 := fun x e => by
          have hm := List.mem_of_getElem? hgz
          rw [e] at hm
          have g0 := Int.emod_nonneg cell (show (9 : Int) ≠ 0 by decide)
          have g1 := Int.emod_lt_of_pos cell (show (0 : Int) < 9 by decide)
          simp only [List.mem_cons, List.not_mem_nil, or_false, Option.some.injEq, reduceCtorEq, false_or] at hm
          omega
        refine (ve_ixNew (xs := ([none, some 0, some 1, some 2, some 5, some 1000000, none, some (cell % 9)] : List (Option Int)).map oV) (vn_lst (va_cons vl_c (va_cons vl_c (va_cons vl_c (va_cons vl_c (va_cons vl_c (va_cons vl_c (va_cons vl_c (va_cons (vl_I (vl_int1 (vl_var rfl)) vl_c (by decide)) va_nil)))))))) (by show 8 ≤ sizeLine; decide)) (fun H' s' => (vl_I (vl_int1 (vl_I (vl_var rfl) vl_c ⟨by decide, by decide⟩)) vl_c (by decide)).is (congrArg V.int ez)) (atI_nat (by rw [List.getElem?_map, hgz]; rfl))) _ fun H7 s7 => ?_
        have s37 : Same H3 H7 := s4.trans (s5.trans (s6.trans s7))
        have ho7 := s37 _ _ ho
        refine ⟨.ref o, rfl, .int a, rfl, .int b, rfl, .int cc, rfl, by show 3 ≤ sizeLine; decide, fun T2 nT => ?_⟩
        have oT : o ≠ T2 := ne_of_none ho7 nT
        refine ⟨o, _, rfl, DPut.t (k := [.inl a, .inl b, .inl cc]) (by rw [upd_ne oT]; exact ho7) upd_same (Nat.lt_of_le_of_lt (m := 1000) (by omega) (by decide)), ?_⟩
        refine ⟨_, _, _, _, _, _, _, _, rfl, ?_, upd_same, hT.put (by omega) ⟨⟨?_, ?_⟩, ⟨?_, ?_⟩, by omega, by omega⟩ hop, ?_⟩
        · rw [but_upd]
          exact s3.trans (but_mono (s37.trans (same_upd nT)))
        · rcases haa with rfl | rfl <;> omega
        · rcases haa with rfl | rfl <;> omega
        · rcases hab with rfl | rfl <;> omega
        · rcases hab with rfl | rfl <;> omega
        · exact Nat.le_trans put_len (by omega)
      · exact s3.trans (but_mono s4)
    · obtain ⟨y4, y5, y6, y7, y8, y9, y10, kvs, rfl, s3, ho, hT, hl⟩ := hP
      exact g_ret (vl_var rfl) (q H3 o kvs (s3.trans but_same) ho hT)
end
/-! ### run_sum -/
def YTri (xs ys zs : Nat → Option V) : Nat → Hp → V → Hp → Prop := fun i H u H' => ∃ T x y v, u = .ref T ∧ H T = none ∧ H' = upd H T (.tup [x, y, v]) ∧ xs i = some x ∧ ys i = some y ∧ zs i = some v
theorem walk_zip3 {K : PySem.W.Frag} {a b c : Addr} {xs ys zs : List V} {n : Nat} (hn : n = min xs.length (min ys.length zs.length)) : Walk (Itz3 K a b c) n (fun H => SqL K H a xs ∧ SqL K H b ys ∧ SqL K H c zs) (YTri (fun i => xs[i]?) (fun i => ys[i]?) (fun i => zs[i]?)) := by
  subst hn
  refine ⟨fun i _ hi q => ?_, fun _ q => ⟨xs, ys, zs, q.1, q.2.1, q.2.2, by omega⟩, fun i H v H' _ q y => ?_⟩
  · have h1 : i < xs.length := by omega
    have h2 : i < ys.length := by omega
    have h3 : i < zs.length := by omega
    exact ⟨xs, ys, zs, xs[i], ys[i], zs[i], q.1, q.2.1, q.2.2, by simp [h1], by simp [h2], by simp [h3]⟩
  · obtain ⟨T, x, y, z, h1, h2, h3, h4, h5, h6⟩ := y
    exact ⟨T, x, y, z, h1, h2, h3, h4 xs q.1, h5 ys q.2.1, h6 zs q.2.2⟩
section
variable (N : Net) (kvs : List (List L2.Key × V)) (run : List Int)
def costW (m : Nat) : List (Option Int) := (List.range m).map fun j => wA N run (j + 1)
def costX (m : Nat) : List (Option Int) := (List.range m).map fun j => xA kvs run (j + 2)
theorem costW_succ (m : Nat) : costW N run (m + 1) = costW N run m ++ [wA N run (m + 1)] := by
  unfold costW
  rw [List.range_succ, List.map_append]
  rfl
theorem costX_succ (m : Nat) : costX kvs run (m + 1) = costX kvs run m ++ [xA kvs run (m + 2)] := by
  unfold costX
  rw [List.range_succ, List.map_append]
  rfl
def valsO (l : List (Option Int)) : List Int := l.map fun o => o.getD 0
theorem sum_snoc (l : List Int) (x : Int) : (l ++ [x]).sum = l.sum + x := by
  rw [List.sum_append, List.sum_cons, List.sum_nil, Int.add_zero]
theorem sum_costs : ∀ n : Nat, (valsO (costW N run n)).sum + (valsO (costX kvs run (n - 1))).sum = sumTo N kvs run n
  | 0 => rfl
  | 1 => by
    simp [valsO, costW, costX, sumTo, xA]
  | n + 2 => by
    have ih := sum_costs (n + 1)
    rw [show n + 2 - 1 = n + 1 by omega, show n + 1 - 1 = n by omega] at *
    rw [costW_succ, costX_succ]
    unfold valsO at *
    rw [List.map_append, List.map_append, List.map_cons, List.map_nil, List.map_cons, List.map_nil, sum_snoc, sum_snoc]
    show _ = sumTo N kvs run (n + 1) + (wA N run (n + 1 + 1)).getD 0 + (xA kvs run (n + 1 + 1)).getD 0
    rw [show n + 1 + 1 = n + 2 from rfl]
    omega
theorem mem_costW {m j : Nat} (h1 : 1 ≤ j) (h2 : j < m + 1) : wA N run j ∈ costW N run m := by
  unfold costW
  exact List.mem_map.mpr ⟨j - 1, List.mem_range.mpr (by omega), by rw [show j - 1 + 1 = j by omega]⟩
theorem mem_costX {m j : Nat} (h1 : 2 ≤ j) (h2 : j < m + 2) : xA kvs run j ∈ costX kvs run m := by
  unfold costX
  exact List.mem_map.mpr ⟨j - 2, List.mem_range.mpr (by omega), by rw [show j - 2 + 2 = j by omega]⟩
variable {N kvs run}
theorem good_of {x : Int} {r : List Int} (ok : NetOk N) (hr : run = x :: r) (hx : 0 ≤ x ∧ x < N.n) (h : none ∉ costW N run (run.length - 1) ++ costX kvs run (run.length - 2)) : GoodR N kvs run := by
  have hw : ∀ j, 1 ≤ j → j < run.length → (wA N run j).isSome = true := fun j h1 h2 => by
    cases e : wA N run j with
    | some p => rfl
    | none => exact absurd (List.mem_append.mpr (.inl (e ▸ mem_costW N run h1 (by omega)))) h
  refine ⟨fun e => (by rw [hr] at e; cases e), fun p hp => ?_, hw, fun j h1 h2 => ?_⟩
  · obtain ⟨i, hi⟩ := List.mem_iff_getElem?.mp hp
    have il := (List.getElem?_eq_some_iff.mp hi).1
    cases i with
    | zero =>
      rw [hr] at hi
      cases Option.some.inj hi
      exact hx
    | succ i =>
      have hs := hw (i + 1) (by omega) il
      obtain ⟨pr, e⟩ := Option.isSome_iff_exists.mp hs
      have ep : run.getD (i + 1) 0 = p := by rw [List.getD_eq_getElem?_getD, hi]; rfl
      unfold wA at e
      rw [ep] at e
      exact (wyP_in ok e).2.1
  · by_cases c : j = 1
    · subst c
      rfl
    · cases e : xA kvs run j with
      | some p => rfl
      | none => exact absurd (List.mem_append.mpr (.inr (e ▸ mem_costX kvs run (by omega) (by omega)))) h
theorem bad_of (h : none ∈ costW N run (run.length - 1) ++ costX kvs run (run.length - 2)) : ¬ GoodR N kvs run := fun g => by
  rcases List.mem_append.mp h with h | h
  · unfold costW at h
    obtain ⟨j, hj, e⟩ := List.mem_map.mp h
    have := List.mem_range.mp hj
    have hs := g.w (j + 1) (by omega) (by omega)
    rw [e] at hs
    cases hs
  · unfold costX at h
    obtain ⟨j, hj, e⟩ := List.mem_map.mp h
    have := List.mem_range.mp hj
    have hs := g.x (j + 2) (by omega) (by omega)
    rw [e] at hs
    cases hs
end
theorem inV_non : ∀ l : List (Option Int), inV .non (l.map oV) = decide (none ∈ l)
  | [] => rfl
  | o :: l => by
    have ih := inV_non l
    unfold inV at ih ⊢
    rw [List.map_cons, List.any_cons, ih]
    cases o with
    | none => rw [decide_eq_true (List.mem_cons_self : none ∈ none :: l)]; rfl
    | some x =>
      show (false || decide (none ∈ l)) = _
      rw [Bool.false_or, Bool.eq_iff_iff, decide_eq_true_eq, decide_eq_true_eq, List.mem_cons]
      exact ⟨.inr, fun h => h.elim (fun e => nomatch e) id⟩
theorem flat_oV : ∀ l : List (Option Int), (l.map oV).all flatV = true
  | [] => rfl
  | none :: l => flat_oV l
  | some _ :: l => flat_oV l
theorem vals_oV : ∀ l : List (Option Int), none ∉ l → l.map oV = (valsO l).map V.int
  | [], _ => rfl
  | none :: l, h => absurd List.mem_cons_self h
  | some x :: l, h => by
    show V.int x :: l.map oV = V.int x :: (valsO l).map V.int
    rw [vals_oV l fun z => h (List.mem_cons_of_mem _ z)]
theorem cut_fromAny (xs : List V) (k : Nat) : cutV xs (some (k : Nat)) none = xs.drop k := by
  unfold cutV
  rw [show HT.sIx xs.length 0 (some (k : Nat)) = min k xs.length from HT.sIx_nat _ 0 k, HT.sIx_none]
  by_cases c : k ≤ xs.length
  · rw [Nat.min_eq_left c]
    exact List.take_of_length_le (by rw [List.length_drop]; exact Nat.le_refl _)
  · rw [Nat.min_eq_right (by omega), List.drop_of_length_le (Nat.le_refl _), List.drop_of_length_le (by omega), List.take_nil]
section
variable {K : PySem.W.Frag} {σ : L2.St} {H : Hp} {ta : TE} {a : Addr} {xs : List V} {Q : VK}
/-- xs[k:] -/
theorem mk_cutFrom {k : Nat} (ha : Vl ta σ H (.ref a)) (hx : SqL K H a xs) (q : ∀ p, H p = none → Q (.ref p) (upd H p (.lst (xs.drop k)))) : tSl (rSlL K) ta (tPart (tC (.int (k : Nat)))) tNoPart σ H Q := ha _ ⟨(k : Nat), rfl, a, xs, rfl, hx, fun p np => by
  rw [cut_fromAny]
  exact q p np⟩
end
def spRunSum (K : PySem.W.Frag) : Sp := fun vs H Q _ => ∃ (v : V) (N : Net) (td b : Addr) (kvs : List (List L2.Key × V)) (run : List Int), vs = [v, .ref td, .ref b] ∧ Dp K H v (netD N) ∧ NetOk N ∧ H td = some (.dT kvs) ∧ TrnOk kvs ∧ SqL K H b (run.map V.int) ∧ run.length ≤ 1000 ∧ ∀ H', Same H H' → Q (oV (resR N kvs run)) H'
abbrev sRunSum : Stmt := topS 3
theorem scRunSum : FnScope ["net", "turns", "run", "prices", "costs", "turn", "way"] ["net", "turns", "run"] (defScope sRunSum) := ⟨rfl, rfl, rfl, by decide +kernel, rfl, by decide +kernel, by decide +kernel⟩
section
variable {P : Program} {w : World} {K : PySem.W.Frag} {mg : Str → Option Value} {base : Heap}
theorem ok_runSum {f : Addr} {fd : FuncData} {k : Nat} (F : Fun K "run_sum" "run_sum" sRunSum f fd) (c_link_ways : Kal P w K mg base k "link_ways" ["net"] (spLinkWays K)) (mz : mg "zip" = none) (msum : mg "sum" = none) : FnOk P w K mg base CX0 (k + 1) f fd ["net", "turns", "run"] (spRunSum K) := by
  refine F.ok scRunSum (fun vs H Q E h => ?_) (fun cdv A outer s H vs Q E hr h => ?_)
  · obtain ⟨v, N, td, b, kvs, run, rfl, _⟩ := h
    rfl
  · obtain ⟨v, N, td, b, kvs, run, rfl, hN, ok, htd, hT, hR, hrl, q⟩ := h
    have hu := hu_of hr
    refine ⟨_, pss_cons (ps_if (PW.pt (pw_or (pt_not (pt_truth (pv 2) (by intro _; rfl))) (pw_or1 (pt_not (pt_chain op_le op_lt pe_int (pe_ix ix_list (pv 2) pe_int (fun _ _ => rfl)) (pe_ix ix_tup (pv 0) pe_int (fun _ _ => rfl)))))))
      (pss_one (ps_ret pe_non))
      pss_nil)
      (pss_cons (ps_set (i := 3) scRunSum.nd rfl (.inr rfl) (pe_k c_link_ways hr (by first | decide | omega) (by rfl) (pa_cons (pv 0) pa_nil)))
      (pss_cons (ps_setLc (i := 4) (own := [("way", 6)]) (g := gName 6) (tt := tYes) (te := (tDGet1 (tVar 3) (tVar 6))) (by rfl) scRunSum.nd rfl rfl (sw_true rfl rfl rfl (by decide +kernel)) (pi_zipN (by rfl) mz (pa_cons (pv 2) (pa_cons (pe_slice sl_list (pv 2) (po_some pe_int) po_none) pa_nil))) (blkOk_by (own := [("way", 6)]) (N := ["net", "turns", "run", "prices", "costs", "turn", "way"]) (sc := defScope sRunSum) (by decide +kernel)) (fun _ _ _ _ _ => pg_name (i := 6) scRunSum.nd rfl (Or.inl rfl)) (fun _ _ _ _ _ => by exact pts_nil) (fun _ _ _ _ _ => by exact (pe_dget1 hu (pv 3) (pv 6) ⟨by rfl, by rfl, by rfl, by rfl⟩)))
      (pss_cons (ps_for PassesOwn.never rfl (pi_zip3N (by rfl) mz (pa_cons (pv 2) (pa_cons (pe_slice sl_list (pv 2) (po_some pe_int) po_none) (pa_cons (pe_slice sl_list (pv 2) (po_some pe_int) po_none) pa_nil)))) (pg_name (i := 5) scRunSum.nd rfl (.inl rfl))
      (pss_one (ps_expr (pe_bm PySem.F.plainAttrs_list PySem.F.slot_list_append PySem.F.type_list_append mt_append (pv 4) (pa_cons (pe_dget2 hu (pv 1) (pv 5) pe_int ⟨by rfl, by rfl, by rfl, by rfl⟩) pa_nil)))))
      (pss_one (ps_ret (pe_ifExp (pt_cmpR op_in_seq pe_non (pv 4) (by rfl)) pe_non (pe_callB (cr_sum rfl) (by rfl) msum (by decide +kernel) (pa_cons (pv 4) pa_nil)))))))), ?_⟩
    obtain ⟨p, c, xs, rfl, hp, hc, hx⟩ := Dp.net_inv hN
    have l16 := ok.len
    obtain rfl | ⟨x, r, hrun⟩ : run = [] ∨ ∃ x r, run = x :: r := by
      cases run with
      | nil => exact .inl rfl
      | cons x r => exact .inr ⟨x, r, rfl⟩
    · refine q_when (b := true) (fun Q q => ⟨.ref b, rfl, false, .inl ⟨_, hR, rfl⟩, iteT q⟩) (fun _ => ?_) (fun e => nomatch e)
      have := q H (Same.refl H)
      rw [resR_bad N kvs [] fun g => g.ne rfl] at this
      exact g_ret vl_c this
    have hR' := hR
    rw [hrun] at hR'
    refine q_when (b := false || !(decide ((0 : Int) ≤ x) && decide (x < N.n))) (an_or (fun Q q => ⟨.ref b, rfl, true, .inl ⟨_, hR', rfl⟩, q⟩) fun _ => an_not (an_test (vl_chainI vl_c (vl_ixL (vl_var rfl) vl_c hR' (atI_nat (j := 0) rfl)) (vl_ixT (vl_var rfl) vl_c hp (atI_nat (j := 0) rfl))))) (fun hb => ?_) (fun hb => ?_)
    · have := q H (Same.refl H)
      rw [resR_bad N kvs run fun g => by
        have := g.inn x (by rw [hrun]; exact List.mem_cons_self)
        rw [decide_eq_true this.1, decide_eq_true this.2] at hb
        cases hb] at this
      exact g_ret vl_c this
    have hx0 : 0 ≤ x ∧ x < N.n := by
      rw [Bool.false_or, Bool.not_eq_false', Bool.and_eq_true] at hb
      exact ⟨of_decide_eq_true hb.1, of_decide_eq_true hb.2⟩
    have rl : 1 ≤ run.length := by rw [hrun]; exact Nat.succ_pos _
    refine q_asgE ⟨.ref p, rfl, .ref p, N, rfl, hN, by omega, fun H3 o s3 no hL => ?_⟩
    obtain ⟨kl, ho, hkl, hk⟩ := hL.ex
    -- costs
    refine q_asgE ⟨.ref b, rfl, mk_cutFrom (K := K) (k := 1) (vl_var rfl) (s3.seq hR) fun S nS => ?_⟩
    have sS := same_upd (o := .lst ((run.map V.int).drop 1)) nS
    have eS := upd_same (H := H3) (a := S) (o := .lst ((run.map V.int).drop 1))
    generalize upd H3 S (.lst ((run.map V.int).drop 1)) = H4 at sS eS
    have s04 := s3.trans sS
    have em : run.length - 1 = min (run.map V.int).length ((run.map V.int).drop 1).length := by
      rw [List.length_drop, List.length_map]
      omega
    refine ⟨b, S, run.map V.int, (run.map V.int).drop 1, rfl, s04.seq hR, .of eS, fun Z nZ => lc_it (walk_zip (K := K) (a := b) (b := S) (xs := run.map V.int) (ys := (run.map V.int).drop 1) em)
      (fun i H7 => H7 Z = some (.lst ((costW N run i).map oV)) ∧ Same H4 H7) ⟨upd_same, same_upd nZ⟩ (fun i H7 _ hP => ⟨(s04.trans hP.2).seq hR, .of (hP.2 _ _ eS)⟩) (fun i z H7 H8 hi hP hY => ?_) (fun H7 hP => ?_)⟩
    · obtain ⟨eZ, s7⟩ := hP
      obtain ⟨T, x1, y1, rfl, nT, rfl, hx1, hy1⟩ := hY
      have hx1 : (run.map V.int)[i]? = some x1 := hx1
      have hy1 : ((run.map V.int).drop 1)[i]? = some y1 := hy1
      rw [List.getElem?_map] at hx1
      rw [List.getElem?_drop, List.getElem?_map, Nat.add_comm] at hy1
      obtain ⟨u, gu, rfl⟩ := Option.map_eq_some_iff.mp hx1
      obtain ⟨v', gv, rfl⟩ := Option.map_eq_some_iff.mp hy1
      have sT : Same H7 (upd H7 T (.tup [.int u, .int v'])) := same_upd nT
      have ho7 := sT _ _ (s7 _ _ (sS _ _ ho))
      have eu : run.getD (i + 1 - 1) 0 = u := by rw [Nat.add_sub_cancel, List.getD_eq_getElem?_getD, gu]; rfl
      have ev : run.getD (i + 1) 0 = v' := by rw [List.getD_eq_getElem?_getD, gv]; rfl
      have ew : oV (wA N run (i + 1)) = (valV kl [Sum.inl u, Sum.inl v']).getD .non := by
        unfold wA
        rw [eu, ev, hk, lkv_wyP ok]
      refine ⟨rfl, iteT (B := upd H7 T (.tup [.int u, .int v']) Z = some (.lst ((costW N run (i + 1)).map oV)) ∧ Same H4 (upd H7 T (.tup [.int u, .int v']))) ⟨.ref o, rfl, o, rfl, .inr ⟨_, .inl ho7⟩, .ref T, rfl, _, DGet.t (k := [.inl u, .inl v']) ho7 upd_same, _, sT _ _ eZ, ?_, ?_, same_upd' (s7.trans sT) nZ⟩⟩
      · rw [List.length_map]
        unfold costW
        rw [List.length_map, List.length_range]
        exact Nat.lt_of_le_of_lt (m := 10000) (by omega) (by decide)
      · rw [upd_same, costW_succ, List.map_append, ← ew]
        rfl
    · obtain ⟨eZ, s7⟩ := hP
      have s07 := s04.trans s7
      have nZ0 : H Z = none := by
        cases e : H Z with
        | none => rfl
        | some u => rw [s04 _ _ e] at nZ; cases nZ
      -- the turns
      refine ⟨.ref b, rfl, mk_cutFrom (K := K) (k := 1) (vl_var rfl) (s07.seq hR) fun S1 n1 => ?_⟩
      have s1 := same_upd (o := .lst ((run.map V.int).drop 1)) n1
      have e1 := upd_same (H := H7) (a := S1) (o := .lst ((run.map V.int).drop 1))
      generalize upd H7 S1 (.lst ((run.map V.int).drop 1)) = H8 at s1 e1
      refine mk_cutFrom (K := K) (k := 2) (vl_var rfl) ((s07.trans s1).seq hR) fun S2 n2 => ?_
      have s2 := same_upd (o := .lst ((run.map V.int).drop 2)) n2
      have e2 := upd_same (H := H8) (a := S2) (o := .lst ((run.map V.int).drop 2))
      generalize upd H8 S2 (.lst ((run.map V.int).drop 2)) = H9 at s2 e2
      have eZ9 := s2 _ _ (s1 _ _ eZ)
      have s09 : Same H H9 := s07.trans (s1.trans s2)
      have sb9 : Same H (but H9 Z) := same_but s09 nZ0
      have nS1 : S1 ≠ Z := fun e => by rw [e, eZ] at n1; cases n1
      have nS2 : S2 ≠ Z := fun e => by rw [e, s1 _ _ eZ] at n2; cases n2
      have b1 : but H9 Z S1 = some (.lst ((run.map V.int).drop 1)) := by rw [but_ne nS1]; exact s2 _ _ e1
      have b2 : but H9 Z S2 = some (.lst ((run.map V.int).drop 2)) := by rw [but_ne nS2]; exact e2
      have em3 : run.length - 2 = min (run.map V.int).length (min ((run.map V.int).drop 1).length ((run.map V.int).drop 2).length) := by
        rw [List.length_drop, List.length_drop, List.length_map]
        omega
      refine ⟨b, S1, S2, run.map V.int, (run.map V.int).drop 1, (run.map V.int).drop 2, rfl, s09.seq hR, .of (s2 _ _ e1), .of e2, for_it (walk_zip3 (K := K) (a := b) (b := S1) (c := S2) (xs := run.map V.int) (ys := (run.map V.int).drop 1) (zs := (run.map V.int).drop 2) em3)
        (fun i σ H5 => ∃ y5 y6, σ = [some (.ref p), some (.ref td), some (.ref b), some (.ref o), some (.ref Z), y5, y6] ∧ Same (but H9 Z) (but H5 Z) ∧ H5 Z = some (.lst ((costW N run (run.length - 1) ++ costX kvs run i).map oV)))
        ⟨_, _, rfl, Same.refl _, by
          show H9 Z = some (.lst ((costW N run (run.length - 1) ++ []).map oV))
          rw [List.append_nil]
          exact eZ9⟩ (fun i σ H5 _ hP => ?_) (fun i z σ H5 H6 hi hP hY => ?_) (fun σ H5 hP => ?_)⟩
      · obtain ⟨_, _, _, s5, _⟩ := hP
        exact ⟨((sb9.trans s5).trans but_same).seq hR, .of ((s5.trans but_same) _ _ b1), .of ((s5.trans but_same) _ _ b2)⟩
      · obtain ⟨y5, y6, rfl, s5, e5⟩ := hP
        obtain ⟨T, x1, y1, z1, rfl, nT, rfl, hx1, hy1, hz1⟩ := hY
        have hx1 : (run.map V.int)[i]? = some x1 := hx1
        have hy1 : ((run.map V.int).drop 1)[i]? = some y1 := hy1
        have hz1 : ((run.map V.int).drop 2)[i]? = some z1 := hz1
        rw [List.getElem?_map] at hx1
        rw [List.getElem?_drop, List.getElem?_map, Nat.add_comm] at hy1 hz1
        obtain ⟨u, gu, rfl⟩ := Option.map_eq_some_iff.mp hx1
        obtain ⟨v', gv, rfl⟩ := Option.map_eq_some_iff.mp hy1
        obtain ⟨w', gw, rfl⟩ := Option.map_eq_some_iff.mp hz1
        have sT : Same H5 (upd H5 T (.tup [.int u, .int v', .int w'])) := same_upd nT
        have td5 := sT _ _ ((sb9.trans (s5.trans but_same)) _ _ htd)
        have eu : run.getD (i + 2 - 2) 0 = u := by rw [Nat.add_sub_cancel, List.getD_eq_getElem?_getD, gu]; rfl
        have ev : run.getD (i + 2 - 1) 0 = v' := by rw [show i + 2 - 1 = i + 1 by omega, List.getD_eq_getElem?_getD, gv]; rfl
        have ew : run.getD (i + 2) 0 = w' := by rw [List.getD_eq_getElem?_getD, gw]; rfl
        have ex : oV (xA kvs run (i + 2)) = (valV kvs [Sum.inl u, Sum.inl v', Sum.inl w']).getD (.int 0) := by
          unfold xA
          rw [if_pos (by omega), eu, ev, ew, ← tP_eq hT]
          rfl
        have ZT : Z ≠ T := ne_of_none e5 nT
        refine ⟨.ref Z, rfl, .inl ⟨rfl, _, .inl (.inl (sT _ _ e5))⟩, .ref td, rfl, td, rfl, .inr ⟨_, .inl td5⟩, .ref T, rfl, _, DGet.t (k := [.inl u, .inl v', .inl w']) td5 upd_same, Z, _, _, rfl, rfl, sT _ _ e5, ?_, ?_⟩
        · rw [List.length_map, List.length_append]
          unfold costW costX
          rw [List.length_map, List.length_map, List.length_range, List.length_range]
          exact Nat.lt_of_le_of_lt (m := 10000) (by omega) (by decide)
        · refine ⟨_, _, rfl, ?_, ?_⟩
          · rw [but_upd]
            exact s5.trans (but_mono sT)
          · rw [upd_same, costX_succ, ← List.append_assoc, List.map_append (l₂ := [xA kvs run (i + 2)]), ← ex]
            rfl
      · obtain ⟨y5, y6, rfl, s5, e5⟩ := hP
        have s05 : Same H H5 := sb9.trans (s5.trans but_same)
        have hq := q H5 s05
        refine ⟨.ref Z, rfl, Z, _, rfl, .inl (.of e5), rfl, flat_oV _, _, rfl, ?_⟩
        rw [inV_non]
        by_cases hb : none ∈ costW N run (run.length - 1) ++ costX kvs run (run.length - 2)
        · rw [decide_eq_true hb]
          rw [resR_bad N kvs run (bad_of hb)] at hq
          exact iteT hq
        · rw [decide_eq_false hb]
          rw [resR_good N kvs run (good_of ok hrun hx0 hb)] at hq
          rw [vals_oV _ hb] at e5
          refine iteF ⟨.ref Z, rfl, Z, _, rfl, .of e5, ?_⟩
          have es := sum_costs N kvs run (run.length - 1)
          have ea : (valsO (costW N run (run.length - 1) ++ costX kvs run (run.length - 2))).sum = sumTo N kvs run (run.length - 1) := by
            rw [← es, show run.length - 1 - 1 = run.length - 2 by omega]
            unfold valsO
            rw [List.map_append, List.sum_append]
          rw [ea]
          exact hq
end
/-! ### the law's sum of a run -/
section
variable {K : PySem.W.Frag} {σ : L2.St} {H : Hp} {tl te : TE} {tt : TT} {Q : VK}
/-- [f (u, v) for u, v in pairs if ..] -/
theorem lc_pairs9 {j1 j2 : Nat} {pb : Int × Int → Bool} {f : Int × Int → Int} {G : List (Int × Int) → Prop} (hs : ∀ v1 v2 : V, wipe (((wipe σ [j1, j2]).set j1 (some v1)).set j2 (some v2)) [j1, j2] = wipe σ [j1, j2])
    (hl : ∀ Q' : VK, (∀ a H1 ts L, Same H H1 → H1 a = some (.lst ts) → TupsAt H1 ts L → G L → Q' (.ref a) H1) → tl σ H Q') (hG : ∀ L, G L → L.length ≤ 10000)
    (ht : ∀ (u v : Int) H', Same H H' → An tt (((wipe σ [j1, j2]).set j1 (some (.int u))).set j2 (some (.int v))) H' (pb (u, v))) (he : ∀ (u v : Int) H', Vl te (((wipe σ [j1, j2]).set j1 (some (.int u))).set j2 (some (.int v))) H' (.int (f (u, v))))
    (q : ∀ D H2 L, Same H H2 → G L → H2 D = some (.lst (((L.filter pb).map f).map V.int)) → Q (.ref D) H2) :
    tLc (iList K tl) (gTup K 2 (gCons (gName j1) (gCons (gName j2) gNil))) tt te [j1, j2] σ H Q := by
  refine hl _ fun a H1 ts L s1 ea hT g => ⟨a, rfl, ⟨ts, .of ea⟩, fun D nD => lc_list (K := K) (a := a) (xs := ts) (fun i H' => H' D = some (.lst ((((L.take i).filter pb).map f).map V.int)) ∧ Same H1 H') ⟨upd_same, same_upd nD⟩ (fun i H' _ hP => .of (hP.2 _ _ ea)) (fun i x H2 hi hP => ?_) (fun H2 hP => ?_)⟩
  · have hl := hG L g
    obtain ⟨hD, s2⟩ := hP
    have hlt := (List.getElem?_eq_some_iff.mp hi).1
    have hg : L[i]? = some (L[i]'(by rw [← hT.len]; exact hlt)) := List.getElem?_eq_getElem _
    generalize L[i]'(by rw [← hT.len]; exact hlt) = p at hg
    obtain ⟨u, v⟩ := p
    obtain ⟨t, t1, t2⟩ := hT.at_ i u v hg
    cases hi.symm.trans t1
    refine ⟨t, _, rfl, .of (s2 _ _ t2), rfl, _, _, rfl, _, _, rfl, rfl, hs _ _, ht u v H2 (s1.trans s2) _ ?_⟩
    rw [take_snoc hg, List.filter_append]
    cases e2 : pb (u, v) with
    | true =>
      refine iteT (he u v H2 _ ⟨_, hD, ?_, ?_, same_upd' s2 nD⟩)
      · rw [List.length_map, List.length_map]
        have h1 := List.length_filter_le pb (L.take i)
        rw [List.length_take] at h1
        exact Nat.lt_of_le_of_lt (m := 10000) (by omega) (by decide)
      · rw [upd_same, List.filter_cons_of_pos e2, List.map_append, List.map_append]
        rfl
    | false =>
      refine iteF ⟨?_, s2⟩
      rw [List.filter_cons_of_neg (by rw [e2]; exact Bool.false_ne_true), List.filter_nil, List.append_nil]
      exact hD
  · obtain ⟨hD, s2⟩ := hP
    rw [hT.len, List.take_length] at hD
    exact q D H2 L (s1.trans s2) g hD
theorem shaped_ints9 (r : List Int) : SeqAt.shaped (.list (r.map PyData.int)) = true := by
  have h := lay_ints r
  show (PyData.canLayAll0 (r.map PyData.int) && decide (PyData.depthAll (r.map PyData.int) + 1 ≤ 64)) = true
  rw [h.1, h.2]
  rfl
theorem dp_ints9 : ∀ r : List Int, DpAll K H (r.map V.int) (r.map PyData.int)
  | [] => .nil
  | x :: r => .cons (.int x) (dp_ints9 r)
end
abbrev sLSum9 : Stmt := topS 16
theorem scLSum9 : FnScope ["net", "turns", "run", "total", "k", "found", "extra", "place", "price"] ["net", "turns", "run"] (defScope sLSum9) := ⟨rfl, rfl, rfl, by decide +kernel, rfl, by decide +kernel, by decide +kernel⟩
section
variable {P : Program} {w : World} {K : PySem.W.Frag} {mg : Str → Option Value} {base : Heap}
theorem ok_lSum9 {f : Addr} {fd : FuncData} {k : Nat} (F : Fun K "_law_sum" "_law_sum" sLSum9 f fd) (c_law_open : Kal P w K mg base k "_law_open" ["net", "place"] (spLOpen K)) (ml : mg "len" = none) (mr : mg "range" = none) : FnOk P w K mg base CX0 (k + 1) f fd ["net", "turns", "run"] (spRunSum K) := by
  refine F.ok scLSum9 (fun vs H Q E h => ?_) (fun cdv A outer s H vs Q E hr h => ?_)
  · obtain ⟨v, N, td, b, kvs, run, rfl, _⟩ := h
    rfl
  · obtain ⟨v, N, td, b, kvs, run, rfl, hN, ok, htd, hT, hR, hrl, q⟩ := h
    have hu := hu_of hr
    refine ⟨_, pss_cons (ps_if (PW.pt (pw_or (pt_cmpR (op_eqD hr.units) (pv 2) (pe_lst pa_nil) (nomark _)) (pw_or1 (pt_cmpR (op_neD hr.units) (pe_lc (own := [("place", 7)]) (g := gName 7) (tt := (tNot (tTest (tChain (rI0 fun i j => .bl (decide (i ≤ j))) (rI0 fun i j => .bl (decide (i < j))) (tC (.int 0)) (tVar 7) (tOp (rIxT K) (tVar 0) (tC (.int 0))))))) (te := (tVar 7)) (by rfl) scLSum9.nd (pi_list (pv 2)) (blkOk_by (own := [("place", 7)]) (N := ["net", "turns", "run", "total", "k", "found", "extra", "place", "price"]) (sc := defScope sLSum9) (by decide +kernel)) (fun _ _ _ _ _ => pg_name (i := 7) scLSum9.nd rfl (Or.inl rfl)) (fun _ _ _ _ _ => by exact (pts_one (pt_not (pt_chain op_le op_lt pe_int (pv 7) (pe_ix ix_tup (pv 0) pe_int (fun _ _ => rfl)))))) (fun _ _ _ _ _ => by exact (pv 7))) (pe_lst pa_nil) (nomark _)))))
      (pss_one (ps_ret pe_non))
      pss_nil)
      (pss_cons (ps_set (i := 3) scLSum9.nd rfl (.inl rfl) pe_int)
      (pss_cons (ps_for PassesOwn.never rfl (pi_range2 (by rfl) mr (pa_cons pe_int (pa_cons (pe_callB call_len_seq (by rfl) ml PySem.boot_len (pa_cons (pv 2) pa_nil)) pa_nil))) (pg_name (i := 4) scLSum9.nd rfl (.inr rfl))
      (pss_cons (ps_setLc (i := 5) (own := [("place", 7), ("price", 8)]) (g := gTup K 2 (gCons (gName 7) (gCons (gName 8) (gNil)))) (tt := (tTest (tOp rEq (tVar 7) (tOp (rIxL K) (tVar 2) (tVar 4))))) (te := (tVar 8)) (by rfl) scLSum9.nd rfl rfl (sw_true rfl rfl rfl (by decide +kernel)) (pi_list (pe_k c_law_open hr (by first | decide | omega) (by rfl) (pa_cons (pv 0) (pa_cons (pe_ix ix_list (pv 2) (pe_op op_sub (pv 4) pe_int) (fun _ _ => rfl)) pa_nil)))) (blkOk_by (own := [("place", 7), ("price", 8)]) (N := ["net", "turns", "run", "total", "k", "found", "extra", "place", "price"]) (sc := defScope sLSum9) (by decide +kernel)) (fun _ _ _ _ _ => pg_tup rfl (pgs_cons (pg_name (i := 7) scLSum9.nd rfl (Or.inl rfl)) (pgs_cons (pg_name (i := 8) scLSum9.nd rfl (Or.inl rfl)) pgs_nil))) (fun _ _ _ _ _ => by exact (pts_one (pt_cmpR op_eq (pv 7) (pe_ix ix_list (pv 2) (pv 4) (fun _ _ => rfl)) (nomark _)))) (fun _ _ _ _ _ => by exact (pv 8)))
        (pss_cons (ps_set (i := 6) scLSum9.nd rfl (.inl rfl) pe_int)
        (Evl.pss_cut (ps_if (pt_cmpR op_gt (pv 4) pe_int (nomark _))
        (pss_one (ps_set (i := 6) scLSum9.nd rfl (.inl rfl) (pe_dget2 hu (pv 1) (pe_tup (pa_cons (pe_ix ix_list (pv 2) (pe_op op_sub (pv 4) pe_int) (fun _ _ => rfl)) (pa_cons (pe_ix ix_list (pv 2) (pe_op op_sub (pv 4) pe_int) (fun _ _ => rfl)) (pa_cons (pe_ix ix_list (pv 2) (pv 4) (fun _ _ => rfl)) pa_nil)))) pe_int ⟨by rfl, by rfl, by rfl, by rfl⟩)))
        pss_nil)
        (pss_cons (ps_if (PW.pt (pw_or (pt_cmpR (op_eqD hr.units) (pv 5) (pe_lst pa_nil) (nomark _)) (pw_or1 (pt_cmpR op_isN (pv 6) pe_non (nomark _)))))
        (pss_one (ps_ret pe_non))
        pss_nil)
        (pss_one (ps_set (i := 3) scLSum9.nd rfl (.inl rfl) (pe_op op_add (pe_op op_add (pv 3) (pe_ix ix_list (pv 5) pe_int (fun _ _ => rfl))) (pv 6)))))))))
      (pss_one (ps_ret (pv 3))))), ?_⟩
    obtain ⟨p, c, xs, rfl, hp, hc, hx⟩ := Dp.net_inv hN
    have l16 := ok.len
    have hbad : ¬ GoodR N kvs run → ∀ H', Same H H' → Q .non H' := fun g H' s' => by
      have := q H' s'
      rw [resR_bad N kvs run g] at this
      exact this
    -- the places
    refine q_whenx (b := decide (run.map PyData.int = []) || !decide ((run.filter fun z => !(decide ((0 : Int) ≤ z) && decide (z < N.n))).map PyData.int = [])) (ax_or (ax_eqNil (K := K) (vl_var rfl) hR (dp_ints9 run) (shaped_ints9 run)) fun _ H1 s1 => ax_op9 fun Q' k' => vn_lcIX (K := K) (ns := run) (pb := fun z => !(decide ((0 : Int) ≤ z) && decide (z < N.n))) (f := V.int) (vx_list (vl_var rfl) (s1.seq hR)) (by omega) (fun z hz H' s' => ax_of (an_not (an_test (vl_chainI vl_c (vl_var rfl) (vl_ixT (K := K) (vl_var rfl) vl_c (seqT (s1.trans s') hp) (atI_nat (j := 0) rfl)))))) (fun z hz H' s' => vl_var rfl) _ fun a2 H2 s2 n2 e2 => ⟨Nat.zero_le _, fun L nL => ⟨_, .list [], .lst (.of (same_upd nL _ _ e2)) (dp_ints9 _), .lst (.of upd_same) .nil, shaped_ints9 _, rfl, _, rfl, by
      rw [eqv_nil]
      exact k' _ (s2.trans (same_upd nL))⟩⟩) (fun hb H1 s1 => ?_) (fun hb H1 s1 => ?_)
    · refine g_ret vl_c (hbad (fun g => ?_) H1 s1)
      rw [Bool.or_eq_true, decide_eq_true_eq, Bool.not_eq_true', decide_eq_false_iff_not] at hb
      rcases hb with hb | hb
      · exact g.ne (List.map_eq_nil_iff.mp hb)
      · refine hb (List.map_eq_nil_iff.mpr (List.filter_eq_nil_iff.mpr fun z hz => ?_))
        have := g.inn z hz
        rw [decide_eq_true this.1, decide_eq_true this.2]
        decide
    rw [Bool.or_eq_false_iff, decide_eq_false_iff_not, Bool.not_eq_false', decide_eq_true_eq] at hb
    have hne : run ≠ [] := fun e => hb.1 (by rw [e]; rfl)
    have hin : ∀ z ∈ run, 0 ≤ z ∧ z < N.n := fun z hz => by
      have := List.filter_eq_nil_iff.mp (List.map_eq_nil_iff.mp hb.2) z hz
      rw [Bool.not_eq_true', Bool.not_eq_false, Bool.and_eq_true, decide_eq_true_eq, decide_eq_true_eq] at this
      exact this
    have rl : 1 ≤ run.length := Nat.pos_of_ne_zero fun e => hne (List.length_eq_zero_iff.mp e)
    refine q_asg vl_c ?_
    refine q_forR2 (lo := 1) (n := (run.length : Nat)) (va_cons vl_c (va_cons (vl_lenI (K := K) (vl_var rfl) (s1.seq hR)) va_nil)) ⟨by decide, by decide, by omega, by omega⟩
      (fun i σ H5 => ∃ y4 y5 y6, σ = [some (.ref p), some (.ref td), some (.ref b), some (.int (sumTo N kvs run i)), y4, y5, y6, none, none] ∧ Same H H5 ∧ ∀ j, 1 ≤ j → j ≤ i → (wA N run j).isSome = true ∧ (xA kvs run j).isSome = true)
      ⟨_, _, _, rfl, s1, fun j h1 h2 => by omega⟩ (fun i σ H5 hi hP => ?_) (fun σ H5 hP => ?_)
    · obtain ⟨y4, y5, y6, rfl, s5, hA⟩ := hP
      have il : i + 1 < run.length := by omega
      have g0 : run[i]? = some (run[i]'(by omega)) := List.getElem?_eq_getElem (by omega)
      have g1 : run[i + 1]? = some (run[i + 1]'il) := List.getElem?_eq_getElem il
      generalize run[i]'(by omega) = x at g0
      generalize run[i + 1]'il = y at g1
      have d0 : run.getD (i + 1 - 1) 0 = x := by rw [Nat.add_sub_cancel, List.getD_eq_getElem?_getD, g0]; rfl
      have d1 : run.getD (i + 1) 0 = y := by rw [List.getD_eq_getElem?_getD, g1]; rfl
      have ew : wA N run (i + 1) = wyP N.ls x y := by
        unfold wA
        rw [d0, d1]
      -- found
      refine q_asgE (lc_pairs9 (K := K) (pb := fun z => decide (z.1 = y)) (f := fun z => z.2) (G := fun L => L.Perm (opL N.ls x)) (fun _ _ => rfl)
        (fun Q' k' => ⟨.ref p, rfl, (vl_ixI (K := K) (j := i) (vl_var rfl) ((vl_I0 (g := fun i j => .int (i - j)) (vl_var rfl) vl_c).is (congrArg V.int (by omega))) (s5.seq hR) g0) _ ⟨.ref p, N, x, rfl, Dp.to hN s5, ok, fun H6 q6 ts L s6 e6 hT6 hL => k' q6 H6 ts L s6 e6 hT6 hL⟩⟩)
        (fun L hL => by
          have := opL_len (x := x) N.ls
          rw [hL.length_eq]
          omega)
        (fun u v H' s' => (an_test (vl_eq (vl_var rfl) (vl_ixI (K := K) (j := i + 1) (vl_var rfl) ((vl_var rfl).is (congrArg V.int (by omega))) ((s5.trans s').seq hR) g1) rfl)).is dI)
        (fun u v H' => vl_var rfl) fun D H6 L s6 hL eD => ?_)
      have s06 := s5.trans s6
      -- extra
      refine q_asg vl_c ?_
      refine q_cut (M := fun σ' H' => σ' = [some (.ref p), some (.ref td), some (.ref b), some (.int (sumTo N kvs run i)), some (.int (1 + (i : Int))), some (.ref D), some (oV (xA kvs run (i + 1))), none, none] ∧ Same H6 H') ?_ (fun σ' H7 hM => ?_)
      · refine g_when (b := decide ((1 : Int) < 1 + (i : Int))) (an_test (vl_I0 (g := fun i j => .bl (decide (j < i))) (vl_var rfl) vl_c)) (fun hb => ?_) (fun hb => ?_)
        · have ipos := of_decide_eq_true hb
          obtain ⟨j, rfl⟩ : ∃ j, i = j + 1 := ⟨i - 1, by omega⟩
          have gz : run[j]? = some (run[j]'(by omega)) := List.getElem?_eq_getElem (by omega)
          generalize run[j]'(by omega) = z at gz
          have dz : run.getD (j + 1 + 1 - 2) 0 = z := by rw [show j + 1 + 1 - 2 = j by omega, List.getD_eq_getElem?_getD, gz]; rfl
          have td6 := s06 _ _ htd
          have hR6 := s06.seq hR
          refine ⟨.ref td, rfl, td, rfl, .inr ⟨_, .inl td6⟩, (vl_ixI (K := K) (j := j) (vl_var rfl) ((vl_I0 (g := fun i j => .int (i - j)) (vl_var rfl) vl_c).is (congrArg V.int (by omega))) hR6 gz) _ ((vl_ixI (K := K) (j := j + 1) (vl_var rfl) ((vl_I0 (g := fun i j => .int (i - j)) (vl_var rfl) vl_c).is (congrArg V.int (by omega))) hR6 g0) _ ((vl_ixI (K := K) (j := j + 1 + 1) (vl_var rfl) ((vl_var rfl).is (congrArg V.int (by omega))) hR6 g1) _ ⟨by show 3 ≤ sizeLine; decide, fun T nT => ⟨_, DGet.t (k := [.inl z, .inl x, .inl y]) (same_upd nT _ _ td6) upd_same, ?_⟩⟩))⟩
          have ex : oV (xA kvs run (j + 1 + 1)) = (valV kvs [Sum.inl z, Sum.inl x, Sum.inl y]).getD (.int 0) := by
            unfold xA
            rw [if_pos (by omega), dz, d0, d1, ← tP_eq hT]
            rfl
          rw [← ex]
          exact ⟨rfl, same_upd nT⟩
        · have i0 : i = 0 := by
            have := of_decide_eq_false hb
            omega
          subst i0
          exact ⟨rfl, Same.refl _⟩
      obtain ⟨rfl, s7⟩ := hM
      have s07 := s06.trans s7
      have eD7 := s7 _ _ eD
      have memL : ∀ pr, (y, pr) ∈ L ↔ wyP N.ls x y = some pr := fun pr => hL.mem_iff.trans (mem_opL ok)
      have hps : ∀ pr, pr ∈ (L.filter fun z => decide (z.1 = y)).map (fun z => z.2) ↔ wyP N.ls x y = some pr := fun pr => by
        rw [← memL, List.mem_map]
        constructor
        · rintro ⟨z, hz, rfl⟩
          obtain ⟨h1, h2⟩ := List.mem_filter.mp hz
          obtain ⟨u, v⟩ := z
          have : u = y := of_decide_eq_true h2
          rw [← this]
          exact h1
        · exact fun h => ⟨(y, pr), List.mem_filter.mpr ⟨h, decide_eq_true rfl⟩, rfl⟩
      generalize (L.filter fun z => decide (z.1 = y)).map (fun z => z.2) = ps at hps eD7
      refine q_whenx (b := decide (ps.map PyData.int = []) || decide (oV (xA kvs run (i + 1)) = .non)) (ax_or (ax_eqNil (K := K) (vl_var rfl) (.of eD7) (dp_ints9 ps) (shaped_ints9 ps)) fun _ H8 s8 => ax_of (an_test (vl_isN (vl_var rfl)))) (fun hb H8 s8 => ?_) (fun hb H8 s8 => ?_)
      · refine g_ret vl_c (hbad (fun g => ?_) H8 (s07.trans s8))
        rw [Bool.or_eq_true, decide_eq_true_eq, decide_eq_true_eq] at hb
        rcases hb with hb | hb
        · have hw := g.w (i + 1) (by omega) il
          rw [ew] at hw
          obtain ⟨pr, e⟩ := Option.isSome_iff_exists.mp hw
          have := (hps pr).mpr e
          rw [List.map_eq_nil_iff.mp hb] at this
          cases this
        · have hxx := g.x (i + 1) (by omega) il
          obtain ⟨e, ee⟩ := Option.isSome_iff_exists.mp hxx
          rw [ee] at hb
          cases hb
      · rw [Bool.or_eq_false_iff, decide_eq_false_iff_not, decide_eq_false_iff_not] at hb
        obtain ⟨pr, ps', rfl⟩ : ∃ pr ps', ps = pr :: ps' := by
          cases ps with
          | nil => exact absurd rfl hb.1
          | cons a l => exact ⟨a, l, rfl⟩
        have hwy := (hps pr).mp List.mem_cons_self
        cases ex : xA kvs run (i + 1) with
        | none => exact absurd (by rw [ex]; rfl) hb.2
        | some e =>
          refine g_asg (vl_I0 (g := fun i j => .int (i + j)) (vl_I0 (g := fun i j => .int (i + j)) (vl_var rfl) (vl_ixI (K := K) (j := 0) (vl_var rfl) vl_c (.of (s8 _ _ eD7)) rfl)) (vl_var rfl)) ?_
          have es : sumTo N kvs run i + pr + e = sumTo N kvs run (i + 1) := by
            show _ = sumTo N kvs run i + (wA N run (i + 1)).getD 0 + (xA kvs run (i + 1)).getD 0
            rw [ew, hwy, ex]
            rfl
          rw [es]
          refine ⟨_, _, _, rfl, s07.trans s8, fun j h1 h2 => ?_⟩
          · by_cases c : j ≤ i
            · exact hA j h1 c
            · have : j = i + 1 := by omega
              subst this
              rw [ew, hwy, ex]
              exact ⟨rfl, rfl⟩
    · obtain ⟨y4, y5, y6, rfl, s5, hA⟩ := hP
      rw [show (((run.length : Nat) : Int) - 1).toNat = run.length - 1 by omega] at hA ⊢
      have g : GoodR N kvs run := ⟨hne, hin, fun j h1 h2 => (hA j h1 (by omega)).1, fun j h1 h2 => (hA j h1 (by omega)).2⟩
      have := q H5 s5
      rw [resR_good N kvs run g] at this
      exact g_ret (vl_var rfl) this
end
/-! ### how long a text of data is -/
theorem textFrom_le : ∀ (ts : List Str) (k : Nat) (acc : Str), (textFrom k acc ts).length ≤ acc.length + piled ts
  | [], k, acc => Nat.le_add_right _ _
  | t :: r, k, acc => by
    have h := textFrom_le r (k + 1) (acc ++ (if k > 0 then ", " else "" : String) ++ t)
    have e : (acc ++ (if k > 0 then ", " else "" : String) ++ t).length ≤ acc.length + 2 + t.length := by
      rw [strLen_append, strLen_append]
      split
      · have : (Str.ofString ", ").length = 2 := by decide +kernel
        omega
      · have : (Str.ofString "").length = 0 := by decide +kernel
        omega
    show (textFrom (k + 1) _ r).length ≤ acc.length + piled (t :: r)
    rw [piled_cons]
    omega
theorem listText_le (ts : List Str) : (listText ts).length ≤ piled ts + 2 := by
  unfold listText
  rw [strLen_append]
  have h := textFrom_le ts 0 "["
  have e1 : ("[" : Str).length = 1 := by decide +kernel
  have e2 : ("]" : Str).length = 1 := by decide +kernel
  omega
theorem tupleText_le (ts : List Str) : (tupleText ts).length ≤ piled ts + 4 := by
  unfold tupleText
  rw [strLen_append, strLen_append]
  have e1 : ("(" : Str).length = 1 := by decide +kernel
  have e2 : ((if ts.length == 1 then ",)" else ")" : String) : Str).length ≤ 2 := by
    split
    · exact Nat.le_of_eq (by decide +kernel)
    · exact Nat.le_trans (Nat.le_of_eq (by decide +kernel)) (show 1 ≤ 2 by decide)
  by_cases h : ts = []
  · subst h
    have e3 : (Str.join ", " []).length = 0 := by decide +kernel
    omega
  · have := join_length_add ts h
    omega
theorem piled_le {ds : List PyData} {m : Nat} (h : ∀ d ∈ ds, d.shown.length ≤ m) : piled (PyData.shownAll ds) ≤ ds.length * (m + 2) := by
  induction ds with
  | nil => exact Nat.zero_le _
  | cons d r ih =>
    show piled (d.shown :: PyData.shownAll r) ≤ _
    rw [piled_cons, List.length_cons, Nat.succ_mul]
    have h1 := h d List.mem_cons_self
    have h2 := ih fun x hx => h x (List.mem_cons_of_mem _ hx)
    omega
theorem shown_int {i : Int} (h0 : 0 ≤ i) (h1 : i ≤ 10000000) : (PyData.int i).shown.length ≤ 10 := PySem.W.KT.len_num h0 (by omega)
theorem shown_o {o : Option Int} (h : PriceOk o) : (oD o).shown.length ≤ 10 := by
  cases o with
  | none =>
    show ("None" : Str).length ≤ 10
    decide +kernel
  | some x =>
    have := h x rfl
    exact shown_int (by omega) (by omega)
theorem showable_int {i : Int} (h0 : 0 ≤ i) (h1 : i ≤ 10000000) : (PyData.int i).showable = true := by
  refine decide_eq_true ?_
  by_cases hz : i.natAbs = 0
  · rw [hz]
    decide
  · rw [Nat.log2_lt hz]
    have h : i.natAbs < 2 ^ 24 := by omega
    exact Nat.lt_of_lt_of_le h (Nat.pow_le_pow_right (by decide : 2 > 0) (show 24 ≤ 1920 by decide))
theorem showable_o {o : Option Int} (h : PriceOk o) : (oD o).showable = true := by
  cases o with
  | none => rfl
  | some x =>
    have := h x rfl
    exact showable_int (by omega) (by omega)
theorem showable_all {ds : List PyData} (h : ∀ d ∈ ds, d.showable = true) : PyData.showableAll ds = true := by
  induction ds with
  | nil => rfl
  | cons d r ih =>
    show (d.showable && PyData.showableAll r) = true
    rw [h d List.mem_cons_self, ih fun x hx => h x (List.mem_cons_of_mem _ hx)]
    rfl
/-- what repr asks of data -/
structure ShowOk (d : PyData) (m : Nat) : Prop where
  sh : d.showable = true
  nd : d.hasDict = false
  dep : d.depth ≤ 10
  len : d.shown.length ≤ m
theorem showOk_net {N : Net} (ok : NetOk N) : ShowOk (netD N) 200000 := by
  have n1 := ok.n1
  have n40 := ok.n40
  have l16 := ok.len
  have hl : ∀ d ∈ N.ls.map lnkD, d.shown.length ≤ 60 ∧ d.showable = true := fun d hd => by
    obtain ⟨l, hl, rfl⟩ := List.mem_map.mp hd
    have h := ok.ok l hl
    have a0 := h.a0
    have ab := h.ab
    have bn := h.bn
    have s1 := shown_int (i := l.a) (by omega) (by omega)
    have s2 := shown_int (i := l.b) (by omega) (by omega)
    have s3 := shown_o h.t
    have s4 := shown_o h.k
    constructor
    · show (tupleText (PyData.shownAll [.int l.a, .int l.b, oD l.t, oD l.k])).length ≤ 60
      have := tupleText_le (PyData.shownAll [.int l.a, .int l.b, oD l.t, oD l.k])
      have p := piled_le (ds := [.int l.a, .int l.b, oD l.t, oD l.k]) (m := 10) (fun d hd => by
        simp only [List.mem_cons, List.not_mem_nil, or_false] at hd
        rcases hd with rfl | rfl | rfl | rfl <;> assumption)
      have e : ([.int l.a, .int l.b, oD l.t, oD l.k] : List PyData).length = 4 := rfl
      rw [e] at p
      omega
    · show (PyData.showableAll [.int l.a, .int l.b, oD l.t, oD l.k]) = true
      refine showable_all fun d hd => ?_
      simp only [List.mem_cons, List.not_mem_nil, or_false] at hd
      rcases hd with rfl | rfl | rfl | rfl
      · exact showable_int (by omega) (by omega)
      · exact showable_int (by omega) (by omega)
      · exact showable_o h.t
      · exact showable_o h.k
  have p := piled_le (ds := N.ls.map lnkD) (m := 60) fun d hd => (hl d hd).1
  rw [List.length_map] at p
  have q := listText_le (PyData.shownAll (N.ls.map lnkD))
  have s1 := shown_int (i := N.n) (by omega) (by omega)
  refine ⟨?_, PyData.hasDict_of_canLay _ (lay_net N).1, Nat.le_trans (lay_net N).2 (by decide), ?_⟩
  · show (PyData.showableAll [.int N.n, .list (N.ls.map lnkD)]) = true
    refine showable_all fun d hd => ?_
    simp only [List.mem_cons, List.not_mem_nil, or_false] at hd
    rcases hd with rfl | rfl
    · exact showable_int (by omega) (by omega)
    · exact showable_all fun d hd => (hl d hd).2
  · show (tupleText (PyData.shownAll [.int N.n, .list (N.ls.map lnkD)])).length ≤ 200000
    have := tupleText_le (PyData.shownAll [.int N.n, .list (N.ls.map lnkD)])
    have p2 := piled_le (ds := [.int N.n, .list (N.ls.map lnkD)]) (m := 99902) (fun d hd => by
      simp only [List.mem_cons, List.not_mem_nil, or_false] at hd
      rcases hd with rfl | rfl
      · omega
      · show (listText (PyData.shownAll (N.ls.map lnkD))).length ≤ 99902
        omega)
    have e : ([.int N.n, .list (N.ls.map lnkD)] : List PyData).length = 2 := rfl
    rw [e] at p2
    omega
theorem dictText_le (ts : List Str) : (dictText ts).length ≤ piled ts + 2 := by
  unfold dictText
  rw [strLen_append, strLen_append]
  have e1 : ("{" : Str).length = 1 := by decide +kernel
  have e2 : ("}" : Str).length = 1 := by decide +kernel
  by_cases h : ts = []
  · subst h
    have e3 : (Str.join ", " []).length = 0 := by decide +kernel
    omega
  · have := join_length_add ts h
    omega
/-- what is asked of a dict of turns that is shown -/
structure TdOk (kvs : List (List L2.Key × V)) : Prop where
  sh : (PyData.dict (tdD kvs)).showable = true
  dep : (PyData.dict (tdD kvs)).depth ≤ 50
  len : (PyData.dict (tdD kvs)).shown.length ≤ 50000
  fl : ∀ p ∈ kvs, flatO p.2
theorem TrnOk.shows {kvs : List (List L2.Key × V)} (h : TrnOk kvs) : TdOk kvs := by
  have key : ∀ ks : List (List L2.Key × V), (∀ p ∈ ks, ∃ (a b c : Int) (o : Option Int), p = ([Sum.inl a, Sum.inl b, Sum.inl c], oV o) ∧ ((0 ≤ a ∧ a ≤ 40) ∧ (0 ≤ b ∧ b ≤ 40) ∧ (0 ≤ c ∧ c ≤ 40)) ∧ ∀ x, o = some x → 0 ≤ x ∧ x ≤ 1000000) →
      PyData.showableKv (tdD ks) = true ∧ PyData.depthKv (tdD ks) ≤ 1 ∧ piled (PyData.shownKv (tdD ks)) ≤ ks.length * 100 ∧ ∀ p ∈ ks, flatO p.2 := fun ks => by
    induction ks with
    | nil => exact fun _ => ⟨rfl, Nat.zero_le _, Nat.le_refl _, fun p hp => (nomatch hp)⟩
    | cons p ks ih =>
      intro hk
      obtain ⟨i1, i2, i3, i4⟩ := ih fun z hz => hk z (List.mem_cons_of_mem _ hz)
      obtain ⟨a, b, c, o, rfl, ⟨ha, hb, hc⟩, ho⟩ := hk p List.mem_cons_self
      have sa := shown_int (i := a) (by omega) (by omega)
      have sb := shown_int (i := b) (by omega) (by omega)
      have sc := shown_int (i := c) (by omega) (by omega)
      have ev : valD (oV o) = oD o := by cases o <;> rfl
      have so : (oD o).shown.length ≤ 10 ∧ (oD o).showable = true ∧ (oD o).depth = 0 := by
        cases o with
        | none => exact ⟨by show ("None" : Str).length ≤ 10; decide +kernel, rfl, rfl⟩
        | some x =>
          have := ho x rfl
          exact ⟨shown_int (by omega) (by omega), showable_int (by omega) (by omega), rfl⟩
      have each : ∀ d ∈ [PyData.int a, PyData.int b, PyData.int c], d.shown.length ≤ 10 ∧ d.showable = true := fun d hd => by
        simp only [List.mem_cons, List.not_mem_nil, or_false] at hd
        rcases hd with rfl | rfl | rfl
        · exact ⟨sa, showable_int (by omega) (by omega)⟩
        · exact ⟨sb, showable_int (by omega) (by omega)⟩
        · exact ⟨sc, showable_int (by omega) (by omega)⟩
      have tt := tupleText_le (PyData.shownAll [.int a, .int b, .int c])
      have tp := piled_le (ds := [.int a, .int b, .int c]) (m := 10) fun d hd => (each d hd).1
      have e3 : ([.int a, .int b, .int c] : List PyData).length = 3 := rfl
      rw [e3] at tp
      refine ⟨?_, ?_, ?_, fun z hz => ?_⟩
      · show (PyData.showableAll [.int a, .int b, .int c] && (valD (oV o)).showable && PyData.showableKv (tdD ks)) = true
        rw [showable_all fun d hd => (each d hd).2, ev, so.2.1, i1]
        rfl
      · show max (max (PyData.tuple [.int a, .int b, .int c]).depth (valD (oV o)).depth) (PyData.depthKv (tdD ks)) ≤ 1
        rw [ev, so.2.2]
        have : (PyData.tuple [.int a, .int b, .int c]).depth = 1 := rfl
        omega
      · show piled (((PyData.tuple [.int a, .int b, .int c]).shown ++ ": " ++ (valD (oV o)).shown) :: PyData.shownKv (tdD ks)) ≤ _
        rw [piled_cons, ev, strLen_append, strLen_append, List.length_cons, Nat.succ_mul]
        have ec : (": " : Str).length = 2 := by decide +kernel
        have et : (PyData.tuple [.int a, .int b, .int c]).shown.length ≤ 40 := by
          show (tupleText (PyData.shownAll [.int a, .int b, .int c])).length ≤ 40
          omega
        have := so.1
        omega
      · rcases List.mem_cons.mp hz with rfl | hz
        · cases o with
          | none => exact .inl rfl
          | some x => exact .inr ⟨x, rfl⟩
        · exact i4 z hz
  obtain ⟨k1, k2, k3, k4⟩ := key kvs h.at_
  have hl := h.len
  refine ⟨k1, ?_, ?_, k4⟩
  · show PyData.depthKv (tdD kvs) + 1 ≤ 50
    omega
  · show (dictText (PyData.shownKv (tdD kvs))).length ≤ 50000
    have := dictText_le (PyData.shownKv (tdD kvs))
    omega
section
variable {K : PySem.W.Frag} {σ : L2.St} {H : Hp}
/-- repr((net, turns)) -/
theorem ve_reprTD {ta tb : TE} {p td : Addr} {N : Net} {kvs : List (List L2.Key × V)} (h1 : Vl ta σ H (.ref p)) (h2 : Vl tb σ H (.ref td)) (ok : NetOk N) (hN : Dp K H (.ref p) (netD N)) (ht : H td = some (.dT kvs)) (hk : TdOk kvs) :
    Ve (tCB (rReprTD K) (tCons (tTup (tCons ta (tCons tb tNil))) tNil)) σ H (.str (PyData.tuple [netD N, .dict (tdD kvs)]).shown) := fun Q q => h1 _ (h2 _ ⟨by show 2 ≤ sizeLine; decide, fun T nT => by
  have sN := showOk_net ok
  have l1 := sN.len
  have l2 := hk.len
  refine ⟨T, .ref p, td, netD N, kvs, rfl, upd_same, Dp.to hN (same_upd nT), sN.sh, sN.nd, Nat.le_trans sN.dep (by decide), same_upd nT _ _ ht, hk.fl, hk.sh, hk.dep, ?_, Nat.le_trans l1 (by decide), Nat.le_trans l2 (by decide), q _ (same_upd nT)⟩
  have tt := tupleText_le (PyData.shownAll [netD N, .dict (tdD kvs)])
  have tp := piled_le (ds := [netD N, .dict (tdD kvs)]) (m := 200000) fun d hd => by
    simp only [List.mem_cons, List.not_mem_nil, or_false] at hd
    rcases hd with rfl | rfl
    · exact l1
    · exact Nat.le_trans l2 (by decide)
  have e2 : ([netD N, .dict (tdD kvs)] : List PyData).length = 2 := rfl
  rw [e2] at tp
  show (tupleText (PyData.shownAll [netD N, .dict (tdD kvs)])).length ≤ sizeLine
  exact Nat.le_trans (m := 500000) (by omega) (by decide)⟩)
end
theorem last_at9 {xs : List V} {x : V} (h : xs[xs.length - 1]? = some x) (hl : 1 ≤ xs.length) : atI xs (-1) = some x := by
  have e : ixN xs.length (-1) = some (xs.length - 1) := by
    unfold ixN
    rw [if_neg (by omega), if_pos (by omega)]
    congr 1
    omega
  unfold atI
  rw [e]
  exact h
/-! ### the law of sums of runs -/
section
variable {K : PySem.W.Frag} {σ : L2.St} {H : Hp} {ta tb te t0 t1 : TE} {D : Ends} {tw : TS} {P P1 : Int → Prop}
theorem vi_div9 {m : Int} (ha : Vi ta σ H P1) (hb : Vl tb σ H (.int m)) (hc : 0 < m ∧ m < 1073741824) (h : ∀ r, P1 r → P (r / m)) : Vi (tOp (rI CDiv fun i j => .int (i / j)) ta tb) σ H P := fun Q q => ha _ fun r hr => hb _ ⟨r, m, rfl, rfl, hc, q _ (h r hr)⟩
theorem vi_mod9 {m : Int} (ha : Vi ta σ H P1) (hb : Vl tb σ H (.int m)) (hc : 0 < m) (h : ∀ r, P1 r → P (r % m)) : Vi (tOp (rI (fun _ j => 0 < j) fun i j => .int (i % j)) ta tb) σ H P := fun Q q => ha _ fun r hr => hb _ ⟨r, m, rfl, rfl, hc, q _ (h r hr)⟩
theorem vi_int9 (ha : Vi ta σ H P) : Vi (tCB (fun xs H Q => (∃ i, xs = [V.int i] ∧ Q (V.int i) H) ∨ ∃ k, xs = [V.bl k] ∧ Q (V.int (if k then 1 else 0)) H) (tCons ta tNil)) σ H P := fun Q q => ha _ fun r hr => .inl ⟨r, rfl, q r hr⟩
/-- xs[e] of a list of ints, e not told -/
theorem vi_ix9 {a : Addr} {ts : List V} {L : List (Int × Int)} (ha : Vl ta σ H (.ref a)) (hx : H a = some (.lst ts)) (hT : TupsAt H ts L) (hi : Vi tb σ H fun r => 0 ≤ r ∧ r < ((L.length : Nat) : Int)) : Vi (tOp (rIxT K) (tOp (rIxL K) ta tb) (tC (.int 0))) σ H (fun _ => True) := fun Q q => ha _ (hi _ fun r hr => by
  obtain ⟨i, rfl⟩ := Int.eq_ofNat_of_zero_le hr.1
  have il : i < L.length := by omega
  have hg : L[i]? = some (L[i]'il) := List.getElem?_eq_getElem il
  obtain ⟨t, h1, h2⟩ := hT.at_ i (L[i]'il).1 (L[i]'il).2 hg
  exact ⟨a, ts, (i : Nat), .ref t, rfl, rfl, .of hx, atI_nat h1, t, _, 0, .int (L[i]'il).1, rfl, rfl, .of h2, atI_nat (j := 0) rfl, q _ trivial⟩)
/-- xs.append(e), e not told -/
theorem g_appI9 {a : Addr} {rs : List Int} (ha : Vl ta σ H (.ref a)) (hx : H a = some (.lst (rs.map V.int))) (hz : rs.length ≤ 1000) (hi : Vi te σ H P) (k : ∀ r, P r → D.nx σ (upd H a (.lst ((rs ++ [r]).map V.int)))) : tDrop (tBM K "list" rAppend ta (tCons te tNil)) D σ H := ha _ ⟨.inl ⟨rfl, _, .inl (.inl hx)⟩, hi _ fun r hr => ⟨a, rs.map V.int, .int r, rfl, rfl, hx, by rw [List.length_map]; exact Nat.lt_of_le_of_lt hz (by decide), by
  have := k r hr
  rw [List.map_append] at this
  exact this⟩⟩
theorem g_setL9 {a : Addr} {xs : List V} {v : V} {k : Nat} (hv : Vl te σ H v) (h0 : Vl t0 σ H (.ref a)) (h1 : Vl t1 σ H (.int (k : Nat))) (ha : H a = some (.lst xs)) (hk : k < xs.length) (q : D.nx σ (upd H a (.lst (xs.set k v)))) : tAsg te (gSub t0 t1 rSetL) D σ H := hv _ (h0 _ (h1 _ ⟨a, xs, (k : Nat), k, rfl, rfl, ha, by
  unfold ixN
  rw [if_pos (by omega), if_pos (by omega)]
  rw [Int.toNat_natCast], q⟩))
end
abbrev sLaw : Stmt := topS 17
theorem scLaw : FnScope ["script", "draws", "net", "turns", "kept", "turn", "run", "k", "able", "cell", "told", "due"] ["script"] (defScope sLaw) := ⟨rfl, rfl, rfl, by decide +kernel, rfl, by decide +kernel, by decide +kernel⟩
def spLaw (K : PySem.W.Frag) : Sp := fun vs H Q _ => ∃ (a : Addr) (ns : List Int), vs = [.ref a] ∧ SqL K H a (ns.map V.int) ∧ ns.length ≤ 63 ∧ ∀ H', Q (.bl true) H'
section
variable {P : Program} {w : World} {K : PySem.W.Frag} {mg : Str → Option Value} {base : Heap}
theorem ok_law {f : Addr} {fd : FuncData} {k1 k2 k3 k4 k5 k6 k7 : Nat} (l1 : k1 ≤ 8) (l2 : k2 ≤ 8) (l3 : k3 ≤ 8) (l4 : k4 ≤ 8) (l5 : k5 ≤ 8) (l6 : k6 ≤ 8) (l7 : k7 ≤ 8) (F : Fun K "law" "law" sLaw f fd) (c_law_draws : Kal P w K mg base 1 "_law_draws" ["script"] (spDraws K)) (c_law_net : Kal P w K mg base k1 "_law_net" ["draws", "first", "most"] (spNet K)) (c_law_turns : Kal P w K mg base k2 "_law_turns" ["draws", "first", "net"] (spTurns9 K))
    (c_law_at : Kal P w K mg base k3 "_law_at" ["draws", "k", "many"] (spAt K)) (c_law_open : Kal P w K mg base k4 "_law_open" ["net", "place"] (spLOpen K)) (c_run_sum : Kal P w K mg base k5 "run_sum" ["net", "turns", "run"] (spRunSum K)) (c_law_sum : Kal P w K mg base k6 "_law_sum" ["net", "turns", "run"] (spRunSum K)) (c_law_is_integer : Kal P w K mg base k7 "_law_is_integer" ["actual"] spIsI)
    (ml : mg "len" = none) (mr : mg "range" = none) (mi : mg "int" = none) (mL : mg "list" = none) (mrepr : mg "repr" = none) : FnG P w K mg base f fd ["script"] (spLaw K) := by
  refine okG (k := 8) F scLaw ⟨rfl, by decide, by decide⟩ (fun vs H Q E h => ?_) (fun cdv s H vs Q E hr h => ?_)
  · obtain ⟨a, ns, rfl, _⟩ := h
    rfl
  · obtain ⟨a, ns, rfl, hS, hlen, q⟩ := h
    have hu := hu_of hr
    refine ⟨_, pss_cons (ps_set (i := 1) scLaw.nd rfl (.inl rfl) (pe_k c_law_draws hr (by first | decide | omega) (by rfl) (pa_cons (pv 0) pa_nil)))
      (pss_cons (ps_set (i := 2) scLaw.nd rfl (.inl rfl) (pe_k c_law_net hr (by first | decide | omega) (by rfl) (pa_cons (pv 1) (pa_cons pe_int (pa_cons pe_int pa_nil)))))
      (pss_cons (ps_set (i := 3) scLaw.nd rfl (.inl rfl) (pe_k c_law_turns hr (by first | decide | omega) (by rfl) (pa_cons (pv 1) (pa_cons pe_int (pa_cons (pv 2) pa_nil)))))
      (pss_cons (ps_set (i := 4) scLaw.nd rfl (.inl rfl) (pe_callB (call_reprTD rfl hr.units) (by rfl) mrepr (by decide +kernel) (pa_cons (pe_tup (pa_cons (pv 2) (pa_cons (pv 3) pa_nil))) pa_nil)))
      (pss_cons (ps_for PassesOwn.never rfl (pi_range1 (by rfl) mr (pa_cons pe_int pa_nil)) (pg_name (i := 5) scLaw.nd rfl (.inl rfl))
      (pss_cons (ps_set (i := 6) scLaw.nd rfl (.inl rfl) (pe_lst (pa_cons (pe_k c_law_at hr (by first | decide | omega) (by rfl) (pa_cons (pv 1) (pa_cons (pe_op op_add pe_int (pv 5)) (pa_cons (pe_ix ix_tup (pv 2) pe_int (fun _ _ => rfl)) pa_nil)))) pa_nil)))
        (pss_cons (ps_for PassesOwn.never rfl (pi_range1 (by rfl) mr (pa_cons (pe_k c_law_at hr (by first | decide | omega) (by rfl) (pa_cons (pv 1) (pa_cons (pe_op op_add pe_int (pv 5)) (pa_cons pe_int pa_nil)))) pa_nil)) (pg_name (i := 7) scLaw.nd rfl (.inl rfl))
        (pss_cons (ps_set (i := 8) scLaw.nd rfl (.inl rfl) (pe_k c_law_open hr (by first | decide | omega) (by rfl) (pa_cons (pv 2) (pa_cons (pe_ix ix_list (pv 6) (pe_un un_neg pe_int) (fun _ _ => rfl)) pa_nil))))
          (pss_one (ps_if (pt_cmpR (op_neD hr.units) (pv 8) (pe_lst pa_nil) (nomark _))
          (pss_one (ps_expr (pe_bm PySem.F.plainAttrs_list PySem.F.slot_list_append PySem.F.type_list_append mt_append (pv 6) (pa_cons (pe_ix ix_tup (pe_ix ix_list (pv 8) (pe_op op_mod (pe_callTy call_int1 (by rfl) mi (by decide +kernel) (pa_cons (pe_op op_fdiv (pe_k c_law_at hr (by first | decide | omega) (by rfl) (pa_cons (pv 1) (pa_cons (pe_op op_add pe_int (pv 5)) (pa_cons pe_int pa_nil)))) (pe_op op_add (pv 7) pe_int)) pa_nil)) (pe_callB call_len_seq (by rfl) ml PySem.boot_len (pa_cons (pv 8) pa_nil))) (fun _ _ => rfl)) pe_int (fun _ _ => rfl)) pa_nil))))
          pss_nil))))
        (pss_cons (ps_set (i := 9) scLaw.nd rfl (.inl rfl) (pe_k c_law_at hr (by first | decide | omega) (by rfl) (pa_cons (pv 1) (pa_cons (pe_op op_add pe_int (pv 5)) (pa_cons pe_int pa_nil)))))
        (Evl.pss_cut (ps_if (pt_cmpR op_eq (pe_op op_mod (pe_callTy call_int1 (by rfl) mi (by decide +kernel) (pa_cons (pv 9) pa_nil)) pe_int) pe_int (nomark _))
        (pss_one (ps_asg (pe_op op_sub (pe_op op_mod (pe_callTy call_int1 (by rfl) mi (by decide +kernel) (pa_cons (pe_op op_fdiv (pv 9) pe_int) pa_nil)) (pe_op op_add (pe_ix ix_tup (pv 2) pe_int (fun _ _ => rfl)) pe_int)) pe_int) (pg_sub (pv 6) (pe_op op_mod (pe_callTy call_int1 (by rfl) mi (by decide +kernel) (pa_cons (pe_op op_fdiv (pv 9) pe_int) pa_nil)) (pe_callB call_len_seq (by rfl) ml PySem.boot_len (pa_cons (pv 6) pa_nil))) set_list)))
        pss_nil)
        (Evl.pss_cut (ps_if (pt_cmpR op_eq (pe_op op_mod (pe_callTy call_int1 (by rfl) mi (by decide +kernel) (pa_cons (pv 9) pa_nil)) pe_int) pe_int (nomark _))
        (pss_one (ps_set (i := 6) scLaw.nd rfl (.inl rfl) (pe_lst pa_nil)))
        pss_nil)
        (pss_cons (ps_set (i := 10) scLaw.nd rfl (.inl rfl) (pe_k c_run_sum hr (by first | decide | omega) (by rfl) (pa_cons (pv 2) (pa_cons (pv 3) (pa_cons (pe_callTy call_list_of (by rfl) mL (by decide +kernel) (pa_cons (pv 6) pa_nil)) pa_nil)))))
        (pss_cons (ps_set (i := 11) scLaw.nd rfl (.inl rfl) (pe_k c_law_sum hr (by first | decide | omega) (by rfl) (pa_cons (pv 2) (pa_cons (pv 3) (pa_cons (pv 6) pa_nil)))))
        (pss_one (ps_if (PW.pt (pw_or (pt_cmpR op_ne (pv 10) (pv 11) (nomark _)) (pw_or (PW.pt (pw_and (pt_cmpR op_notN (pv 10) pe_non (nomark _)) (pw_and1 (pt_not (pt_val (pe_k c_law_is_integer hr (by first | decide | omega) (by rfl) (pa_cons (pv 10) pa_nil))))))) (pw_or1 (pt_cmpR op_ne (pe_callB (call_reprTD rfl hr.units) (by rfl) mrepr (by decide +kernel) (pa_cons (pe_tup (pa_cons (pv 2) (pa_cons (pv 3) pa_nil))) pa_nil)) (pv 4) (nomark _))))))
        (pss_one (ps_ret pe_bl))
        pss_nil))))))))))
      (pss_one (ps_ret pe_bl)))))), ?_⟩
    refine q_asgE ⟨.ref a, rfl, a, ns, rfl, hS, hlen, fun H1 d ds s1 nd hd hok => ?_⟩
    have hD1 : SqL K H1 d (ds.map V.int) := .of hd
    refine q_asgE ⟨.ref d, rfl, d, ds, 0, 6, rfl, hD1, by decide, by decide, by decide, fun H2 v N s2 hN ok hn => ?_⟩
    obtain ⟨p, c, xs, rfl, hp, hc, hx⟩ := id hN
    have n1 := ok.n1
    have n40 := ok.n40
    have l16 := ok.len
    refine q_asgE ⟨.ref d, rfl, .ref p, rfl, d, .ref p, N, ds, 30, rfl, s2.seq hD1, by decide, hN.dp, ok, fun H3 td kvs s3 etd hT => ?_⟩
    have hN3 := hN.to s3
    have hD3 := (s2.trans s3).seq hD1
    have hp3 := s3 _ _ hp
    have tok := hT.shows
    have rp : ∀ σ : L2.St, ∀ H', Same H3 H' → σ[2]? = some (some (.ref p)) → σ[3]? = some (some (.ref td)) → Ve (tCB (rReprTD K) (tCons (tTup (tCons (tVar 2) (tCons (tVar 3) tNil))) tNil)) σ H' (.str (PyData.tuple [netD N, .dict (tdD kvs)]).shown) := fun σ H' s' e1 e2 => ve_reprTD (vl_var e1) (vl_var e2) ok (hN3.to s').dp (s' _ _ etd) tok
    refine q_asgV (rp _ H3 (Same.refl _) rfl rfl) fun H4 s4 => ?_
    generalize hks : (PyData.tuple [netD N, .dict (tdD kvs)]).shown = ks at rp ⊢
    refine q_forR (n := 4) (va_cons vl_c va_nil) ⟨by decide, by decide⟩
      (fun i σ H7 => ∃ y5 y6 y7 y8 y9 y10 y11, σ = [some (.ref a), some (.ref d), some (.ref p), some (.ref td), some (.str ks), y5, y6, y7, y8, y9, y10, y11] ∧ Same H3 H7)
      ⟨_, _, _, _, _, _, _, rfl, s4⟩ (fun i σ H7 hi hP => ?_) (fun σ H7 hP => g_ret vl_c (q _))
    obtain ⟨y5, y6, y7, y8, y9, y10, y11, rfl, s7⟩ := hP
    -- run
    refine q_asgE ⟨.ref d, rfl, (vl_I0 (g := fun i j => .int (i + j)) vl_c (vl_var rfl)) _ ((vl_ixT (K := K) (vl_var rfl) vl_c (.of (s7 _ _ hp3)) (atI_nat (j := 0) rfl)) _ ⟨d, ds, 42 + (i : Int), N.n, rfl, s7.seq hD3, by omega, by omega, fun r0 hr0 => ⟨by show 1 ≤ sizeLine; decide, fun Z nZ => ?_⟩⟩)⟩
    have sZ := same_upd (o := .lst [.int r0]) nZ
    have nZ3 : H3 Z = none := by
      cases e : H3 Z with
      | none => rfl
      | some u => rw [s7 _ _ e] at nZ; cases nZ
    refine q_forRI (P := fun n => 0 ≤ n ∧ n < 8) (vi_call (va_cons (vl_var rfl) (va_cons (vl_I0 (g := fun i j => .int (i + j)) vl_c (vl_var rfl)) (va_cons vl_c va_nil))) fun Q E q => ⟨d, ds, 46 + (i : Int), 8, rfl, (s7.trans sZ).seq hD3, by omega, by decide, q⟩) (fun n hn => ⟨by omega, by omega⟩)
      (fun j σ H8 => ∃ (y7 y8 : Option V) (rs : List Int), σ = [some (.ref a), some (.ref d), some (.ref p), some (.ref td), some (.str ks), some (.int (i : Int)), some (.ref Z), y7, y8, y9, y10, y11] ∧ Same H3 (but H8 Z) ∧ H8 Z = some (.lst (rs.map V.int)) ∧ 1 ≤ rs.length ∧ rs.length ≤ 1 + j)
      ⟨_, _, [r0], rfl, same_but (s7.trans sZ) nZ3, upd_same, Nat.le_refl _, Nat.le_refl _⟩ (fun n hn j σ H8 hj hP => ?_) (fun n hn σ H8 hP => ?_)
    · obtain ⟨y7, y8, rs, rfl, s8, eZ, r1, r2⟩ := hP
      have s38 := s8.trans but_same
      have hgl : rs[rs.length - 1]? = some (rs[rs.length - 1]'(by omega)) := List.getElem?_eq_getElem (by omega)
      generalize rs[rs.length - 1]'(by omega) = x at hgl
      refine q_asgE ⟨.ref p, rfl, (vl_ixL (K := K) (xs := rs.map V.int) (vl_var rfl) (vl_neg vl_c) (.of eZ) (last_at9 (x := .int x) (by rw [List.length_map, List.getElem?_map, hgl]; rfl) (by rw [List.length_map]; exact r1))) _ ⟨.ref p, N, x, rfl, (hN3.to s38).dp, ok, fun H9 qa ts L s9 ea hTs hL => ?_⟩⟩
      refine g_whenx (ax_neNil (K := K) (ds := L.map pairD2) (vl_var rfl) (.of ea) hTs.dp (shaped_pairs L)) (fun hb H10 s10 => ?_) (fun hb H10 s10 => ⟨_, _, rs, rfl, s8.trans (but_mono (s9.trans s10)), s10 _ _ (s9 _ _ eZ), r1, by omega⟩)
      have Lp : 0 < L.length := by
        rw [Bool.not_eq_true', decide_eq_false_iff_not] at hb
        cases L with
        | nil => exact absurd rfl hb
        | cons z l => exact Nat.succ_pos _
      have s30 := s38.trans (s9.trans s10)
      have eZ10 := s10 _ _ (s9 _ _ eZ)
      refine g_appI9 (K := K) (vl_var rfl) eZ10 (by omega) (vi_ix9 (K := K) (vl_var rfl) (s10 _ _ ea) (hTs.to s10) (vi_mod9 (P1 := fun _ => True) (vi_int9 (vi_div9 (m := (j : Int) + 1) (P1 := fun _ => True) (vi_call (P := fun _ => True) (va_cons (vl_var rfl) (va_cons (vl_I0 (g := fun i j => .int (i + j)) vl_c (vl_var rfl)) (va_cons vl_c va_nil))) fun Q E q => ⟨d, ds, 50 + (i : Int), 60000, rfl, s30.seq hD3, by omega, by decide, fun r _ => q r trivial⟩) (vl_I0 (g := fun i j => .int (i + j)) (vl_var rfl) vl_c) (by omega) fun _ _ => trivial)) (vl_lenL (K := K) (vl_var rfl) (.of (s10 _ _ ea))) (by rw [hTs.len]; omega) fun r _ => ?_)) fun r _ => ?_
      · rw [hTs.len]
        exact ⟨Int.emod_nonneg _ (by omega), Int.emod_lt_of_pos _ (by omega)⟩
      · refine ⟨_, _, rs ++ [r], rfl, ?_, upd_same, ?_, ?_⟩
        · rw [but_upd]
          exact s8.trans (but_mono (s9.trans s10))
        · rw [List.length_append]
          exact Nat.le_add_left _ _
        · rw [List.length_append]
          show rs.length + 1 ≤ _
          omega
    · obtain ⟨y7, y8, rs, rfl, s8, eZ, r1, r2⟩ := hP
      have s38 := s8.trans but_same
      refine q_asgI (P := fun r => 0 ≤ r ∧ r < 60000) (vi_call (va_cons (vl_var rfl) (va_cons (vl_I0 (g := fun i j => .int (i + j)) vl_c (vl_var rfl)) (va_cons vl_c va_nil))) fun Q E q => ⟨d, ds, 54 + (i : Int), 60000, rfl, s38.seq hD3, by omega, by decide, q⟩) (fun cell hcell => ?_)
      refine q_cut (M := fun σ' H' => ∃ rs' : List Int, σ' = [some (.ref a), some (.ref d), some (.ref p), some (.ref td), some (.str ks), some (.int (i : Int)), some (.ref Z), y7, y8, some (.int cell), y10, y11] ∧ Same H3 (but H' Z) ∧ H' Z = some (.lst (rs'.map V.int)) ∧ rs'.length ≤ 100) ?_ (fun σ' H9 hM => ?_)
      · refine g_when (b := decide (V.int (cell % 3) = V.int 0)) (an_test (vl_eq (vl_I (vl_int1 (vl_var rfl)) vl_c (by decide)) vl_c rfl)) (fun _ => ?_) (fun _ => ⟨rs, rfl, s8, eZ, by omega⟩)
        have m0 := Int.emod_nonneg (cell / 3) (show ((rs.length : Nat) : Int) ≠ 0 by omega)
        have m1 := Int.emod_lt_of_pos (cell / 3) (show (0 : Int) < ((rs.length : Nat) : Int) by omega)
        obtain ⟨m, em⟩ := Int.eq_ofNat_of_zero_le m0
        refine g_setL9 (k := m) (vl_I0 (g := fun i j => .int (i - j)) (vl_I (vl_int1 (vl_I (vl_var rfl) vl_c ⟨by decide, by decide⟩)) (vl_I0 (g := fun i j => .int (i + j)) (vl_ixT (K := K) (vl_var rfl) vl_c (.of (s38 _ _ hp3)) (atI_nat (j := 0) rfl)) vl_c) (by show (0 : Int) < N.n + 2; omega)) vl_c) (vl_var rfl) ((vl_I (vl_int1 (vl_I (vl_var rfl) vl_c ⟨by decide, by decide⟩)) (vl_lenI (K := K) (vl_var rfl) (.of eZ)) (by show (0 : Int) < ((rs.length : Nat) : Int); omega)).is (congrArg V.int em)) eZ (by rw [List.length_map]; omega) ?_
        refine ⟨rs.set m (cell / 7 % (N.n + 2) - 1), rfl, ?_, ?_, by rw [List.length_set]; omega⟩
        · rw [but_upd]
          exact s8
        · rw [upd_same, List.map_set]
      obtain ⟨rs', rfl, s9, e9, r9⟩ := hM
      refine q_cut (M := fun σ' H' => ∃ (R : Addr) (rs' : List Int), σ' = [some (.ref a), some (.ref d), some (.ref p), some (.ref td), some (.str ks), some (.int (i : Int)), some (.ref R), y7, y8, some (.int cell), y10, y11] ∧ Same H3 H' ∧ H' R = some (.lst (rs'.map V.int)) ∧ rs'.length ≤ 100) ?_ (fun σ' H10 hM => ?_)
      · refine g_when (b := decide (V.int (cell % 31) = V.int 1)) (an_test (vl_eq (vl_I (vl_int1 (vl_var rfl)) vl_c (by decide)) vl_c rfl)) (fun _ => ?_) (fun _ => ⟨Z, rs', rfl, s9.trans but_same, e9, r9⟩)
        exact ⟨Nat.zero_le _, fun R nR => ⟨R, [], rfl, (s9.trans but_same).trans (same_upd nR), upd_same, Nat.zero_le _⟩⟩
      obtain ⟨R, rs2, rfl, s10, eR, r10⟩ := hM
      have hNt : ∀ {H'}, Same H10 H' → Dp K H' (.ref p) (netD N) := fun s' => (hN3.to (s10.trans s')).dp
      refine q_asgE ⟨.ref p, rfl, .ref td, rfl, .ref R, rfl, R, _, rfl, .inl (.of eR), fun l nl => ⟨.ref p, N, td, l, kvs, rs2, rfl, hNt (same_upd nl), ok, same_upd nl _ _ (s10 _ _ etd), hT, .of upd_same, by omega, fun H11 s11 => ?_⟩⟩
      have t11 := (same_upd nl).trans s11
      refine q_asgE ⟨.ref p, rfl, .ref td, rfl, .ref R, rfl, .ref p, N, td, R, kvs, rs2, rfl, hNt t11, ok, t11 _ _ (s10 _ _ etd), hT, .of (t11 _ _ eR), by omega, fun H12 s12 => ?_⟩
      have t12 := t11.trans s12
      generalize resR N kvs rs2 = o
      have sco : scal (oV o) (oV o) = true := by cases o <;> rfl
      refine g_whenx (b := false) (Ax.is (ax_or (k := !decide (oV o = oV o)) (ax_of (an_test (vl_ne (vl_var rfl) (vl_var rfl) sco))) fun _ H13 s13 => ax_or (k := false) (Ax.is (ax_and (k := !decide (oV o = .non)) (m := false) (ax_of (an_test (vl_notN (vl_var rfl)))) fun hb H14 s14 => ?_) (by rw [Bool.and_false]))
        (fun _ H14 s14 => ax_neV2 (rp _ H14 (s10.trans (t12.trans (s13.trans s14))) rfl rfl) (fun _ _ => vl_var rfl) rfl)) (by rw [decide_eq_true rfl, decide_eq_true rfl]; rfl)) (fun z => nomatch z) (fun _ H13 s13 => ⟨_, _, _, _, _, _, _, rfl, s10.trans (t12.trans s13)⟩)
      cases o with
      | none => exact absurd hb (by decide)
      | some z => exact (ax_not (b := true) (ax_of (an_B fun Q q => ⟨.int z, rfl, z, rfl, q⟩))).is rfl
end
/-! ### what the top has written; the law's own head -/
theorem df_mk {K : PySem.W.Frag} {h : Heap} {mg : Str → Option Value} {x : Str} {st : Stmt} {ps : List Str} {f : Addr} {oc : Value} {od an : Option Addr} {osl : Array (Option Value)} {kV doc pm cdv ct : Value} (X : K.In h) (G : h.Ns mainGlobals mg)
    (a : PySem.W.nsIn K mainGlobals x = some (some (.ref f))) (l : K.lookup f = some ⟨oc, od, .func (PySem.W.fnOf x x (defArgs st) (defBody st) (defScope st) .none kV doc pm an cdv ct), osl⟩) (c : PySem.W.codeIn K cdv x = true) (k : PySem.W.keepIn K (.ref f) = true)
    (hb : ∀ (kV doc pm : Value) (an : Option Addr) (cdv ct : Value) (us : List Value), us.length = ps.length → bindArgs (PySem.W.fnOf x x (defArgs st) (defBody st) (defScope st) .none kV doc pm an cdv ct) ⟨us, []⟩ = pure (ps.zip us)) : Df K mg x st ps :=
  ⟨f, _, fun_mk l c k, PySem.W.mg_of X G a, (fun_mk l c k).binds hb⟩
theorem all_mk {l : PySem.W.OpenLaw} {w : World} {K : PySem.W.Frag} {h : Heap} {mg : Str → Option Value} {fa f0 f1 f2 f3 f4 f5 f6 f7 f8 f9 f10 f11 : Addr} (X : K.In h) (G : h.Ns mainGlobals mg) (hfa : mg "law" = some (.ref fa))
    {od0 an0 od1 an1 od2 an2 od3 an3 od4 an4 od5 an5 od6 an6 od7 an7 od8 an8 od9 an9 od10 an10 od11 an11 : Option Addr} {sl0 sl1 sl2 sl3 sl4 sl5 sl6 sl7 sl8 sl9 sl10 sl11 : Array (Option Value)} {oc0 kV0 dc0 pm0 cd0 ct0 oc1 kV1 dc1 pm1 cd1 ct1 oc2 kV2 dc2 pm2 cd2 ct2 oc3 kV3 dc3 pm3 cd3 ct3 oc4 kV4 dc4 pm4 cd4 ct4 oc5 kV5 dc5 pm5 cd5 ct5 oc6 kV6 dc6 pm6 cd6 ct6 oc7 kV7 dc7 pm7 cd7 ct7 oc8 kV8 dc8 pm8 cd8 ct8 oc9 kV9 dc9 pm9 cd9 ct9 oc10 kV10 dc10 pm10 cd10 ct10 oc11 kV11 dc11 pm11 cd11 ct11 : Value}
    (a0 : PySem.W.nsIn K mainGlobals "link_ways" = some (some (.ref f0))) (l0 : K.lookup f0 = some ⟨oc0, od0, .func (PySem.W.fnOf "link_ways" "link_ways" (defArgs sLinkWays) (defBody sLinkWays) (defScope sLinkWays) .none kV0 dc0 pm0 an0 cd0 ct0), sl0⟩) (c0 : PySem.W.codeIn K cd0 "link_ways" = true) (k0 : PySem.W.keepIn K (.ref f0) = true)
    (a1 : PySem.W.nsIn K mainGlobals "run_sum" = some (some (.ref f1))) (l1 : K.lookup f1 = some ⟨oc1, od1, .func (PySem.W.fnOf "run_sum" "run_sum" (defArgs sRunSum) (defBody sRunSum) (defScope sRunSum) .none kV1 dc1 pm1 an1 cd1 ct1), sl1⟩) (c1 : PySem.W.codeIn K cd1 "run_sum" = true) (k1 : PySem.W.keepIn K (.ref f1) = true)
    (a2 : PySem.W.nsIn K mainGlobals "_law_draws" = some (some (.ref f2))) (l2 : K.lookup f2 = some ⟨oc2, od2, .func (PySem.W.fnOf "_law_draws" "_law_draws" (defArgs sDraws) (defBody sDraws) (defScope sDraws) .none kV2 dc2 pm2 an2 cd2 ct2), sl2⟩) (c2 : PySem.W.codeIn K cd2 "_law_draws" = true) (k2 : PySem.W.keepIn K (.ref f2) = true)
    (a3 : PySem.W.nsIn K mainGlobals "_law_at" = some (some (.ref f3))) (l3 : K.lookup f3 = some ⟨oc3, od3, .func (PySem.W.fnOf "_law_at" "_law_at" (defArgs sAt) (defBody sAt) (defScope sAt) .none kV3 dc3 pm3 an3 cd3 ct3), sl3⟩) (c3 : PySem.W.codeIn K cd3 "_law_at" = true) (k3 : PySem.W.keepIn K (.ref f3) = true)
    (a4 : PySem.W.nsIn K mainGlobals "_law_is_integer" = some (some (.ref f4))) (l4 : K.lookup f4 = some ⟨oc4, od4, .func (PySem.W.fnOf "_law_is_integer" "_law_is_integer" (defArgs sIsI) (defBody sIsI) (defScope sIsI) .none kV4 dc4 pm4 an4 cd4 ct4), sl4⟩) (c4 : PySem.W.codeIn K cd4 "_law_is_integer" = true) (k4 : PySem.W.keepIn K (.ref f4) = true)
    (a5 : PySem.W.nsIn K mainGlobals "_law_price" = some (some (.ref f5))) (l5 : K.lookup f5 = some ⟨oc5, od5, .func (PySem.W.fnOf "_law_price" "_law_price" (defArgs sPrice2) (defBody sPrice2) (defScope sPrice2) .none kV5 dc5 pm5 an5 cd5 ct5), sl5⟩) (c5 : PySem.W.codeIn K cd5 "_law_price" = true) (k5 : PySem.W.keepIn K (.ref f5) = true)
    (a6 : PySem.W.nsIn K mainGlobals "_law_net" = some (some (.ref f6))) (l6 : K.lookup f6 = some ⟨oc6, od6, .func (PySem.W.fnOf "_law_net" "_law_net" (defArgs sNet2) (defBody sNet2) (defScope sNet2) .none kV6 dc6 pm6 an6 cd6 ct6), sl6⟩) (c6 : PySem.W.codeIn K cd6 "_law_net" = true) (k6 : PySem.W.keepIn K (.ref f6) = true)
    (a7 : PySem.W.nsIn K mainGlobals "_law_open" = some (some (.ref f7))) (l7 : K.lookup f7 = some ⟨oc7, od7, .func (PySem.W.fnOf "_law_open" "_law_open" (defArgs sLOpen9) (defBody sLOpen9) (defScope sLOpen9) .none kV7 dc7 pm7 an7 cd7 ct7), sl7⟩) (c7 : PySem.W.codeIn K cd7 "_law_open" = true) (k7 : PySem.W.keepIn K (.ref f7) = true)
    (a8 : PySem.W.nsIn K mainGlobals "_law_near" = some (some (.ref f8))) (l8 : K.lookup f8 = some ⟨oc8, od8, .func (PySem.W.fnOf "_law_near" "_law_near" (defArgs sLNear9) (defBody sLNear9) (defScope sLNear9) .none kV8 dc8 pm8 an8 cd8 ct8), sl8⟩) (c8 : PySem.W.codeIn K cd8 "_law_near" = true) (k8 : PySem.W.keepIn K (.ref f8) = true)
    (a9 : PySem.W.nsIn K mainGlobals "_law_turns" = some (some (.ref f9))) (l9 : K.lookup f9 = some ⟨oc9, od9, .func (PySem.W.fnOf "_law_turns" "_law_turns" (defArgs sTurns9) (defBody sTurns9) (defScope sTurns9) .none kV9 dc9 pm9 an9 cd9 ct9), sl9⟩) (c9 : PySem.W.codeIn K cd9 "_law_turns" = true) (k9 : PySem.W.keepIn K (.ref f9) = true)
    (a10 : PySem.W.nsIn K mainGlobals "_law_sum" = some (some (.ref f10))) (l10 : K.lookup f10 = some ⟨oc10, od10, .func (PySem.W.fnOf "_law_sum" "_law_sum" (defArgs sLSum9) (defBody sLSum9) (defScope sLSum9) .none kV10 dc10 pm10 an10 cd10 ct10), sl10⟩) (c10 : PySem.W.codeIn K cd10 "_law_sum" = true) (k10 : PySem.W.keepIn K (.ref f10) = true)
    (a11 : PySem.W.nsIn K mainGlobals "law" = some (some (.ref f11))) (l11 : K.lookup f11 = some ⟨oc11, od11, .func (PySem.W.fnOf "law" "law" (defArgs sLaw) (defBody sLaw) (defScope sLaw) .none kV11 dc11 pm11 an11 cd11 ct11), sl11⟩) (c11 : PySem.W.codeIn K cd11 "law" = true) (k11 : PySem.W.keepIn K (.ref f11) = true)
    (z0 : PySem.W.nsIn K mainGlobals "range" = some none) (z1 : PySem.W.nsIn K mainGlobals "min" = some none) (z2 : PySem.W.nsIn K mainGlobals "len" = some none) (z3 : PySem.W.nsIn K mainGlobals "abs" = some none) (z4 : PySem.W.nsIn K mainGlobals "int" = some none) (z5 : PySem.W.nsIn K mainGlobals "bool" = some none) (z6 : PySem.W.nsIn K mainGlobals "list" = some none) (z7 : PySem.W.nsIn K mainGlobals "isinstance" = some none) (z8 : PySem.W.nsIn K mainGlobals "sorted" = some none) (z9 : PySem.W.nsIn K mainGlobals "repr" = some none) (z10 : PySem.W.nsIn K mainGlobals "zip" = some none) (z11 : PySem.W.nsIn K mainGlobals "sum" = some none) :
    ∃ fd : FuncData, (∀ (s : Shared) (v : Value), BindsTo s fd ⟨[v], []⟩ [("script", v)]) ∧ ∀ base : Heap, K.In base → base.Ns mainGlobals mg → FnG l.prog w K mg base fa fd ["script"] (spLaw K) := by
  have e := hfa.symm.trans (PySem.W.mg_of X G a11)
  cases e
  have D_link_ways : Df K mg "link_ways" sLinkWays ["net"] := df_mk X G a0 l0 c0 k0 (fun _ _ _ _ _ _ us hl => match us, hl with | [_], _ => rfl)
  have D_run_sum : Df K mg "run_sum" sRunSum ["net", "turns", "run"] := df_mk X G a1 l1 c1 k1 (fun _ _ _ _ _ _ us hl => match us, hl with | [_, _, _], _ => rfl)
  have D__law_draws : Df K mg "_law_draws" sDraws ["script"] := df_mk X G a2 l2 c2 k2 (fun _ _ _ _ _ _ us hl => match us, hl with | [_], _ => rfl)
  have D__law_at : Df K mg "_law_at" sAt ["draws", "k", "many"] := df_mk X G a3 l3 c3 k3 (fun _ _ _ _ _ _ us hl => match us, hl with | [_, _, _], _ => rfl)
  have D__law_is_integer : Df K mg "_law_is_integer" sIsI ["actual"] := df_mk X G a4 l4 c4 k4 (fun _ _ _ _ _ _ us hl => match us, hl with | [_], _ => rfl)
  have D__law_price : Df K mg "_law_price" sPrice2 ["cell"] := df_mk X G a5 l5 c5 k5 (fun _ _ _ _ _ _ us hl => match us, hl with | [_], _ => rfl)
  have D__law_net : Df K mg "_law_net" sNet2 ["draws", "first", "most"] := df_mk X G a6 l6 c6 k6 (fun _ _ _ _ _ _ us hl => match us, hl with | [_, _, _], _ => rfl)
  have D__law_open : Df K mg "_law_open" sLOpen9 ["net", "place"] := df_mk X G a7 l7 c7 k7 (fun _ _ _ _ _ _ us hl => match us, hl with | [_, _], _ => rfl)
  have D__law_near : Df K mg "_law_near" sLNear9 ["net", "place"] := df_mk X G a8 l8 c8 k8 (fun _ _ _ _ _ _ us hl => match us, hl with | [_, _], _ => rfl)
  have D__law_turns : Df K mg "_law_turns" sTurns9 ["draws", "first", "net"] := df_mk X G a9 l9 c9 k9 (fun _ _ _ _ _ _ us hl => match us, hl with | [_, _, _], _ => rfl)
  have D__law_sum : Df K mg "_law_sum" sLSum9 ["net", "turns", "run"] := df_mk X G a10 l10 c10 k10 (fun _ _ _ _ _ _ us hl => match us, hl with | [_, _, _], _ => rfl)
  have b_range := PySem.W.mg_none_of X G z0
  have b_min := PySem.W.mg_none_of X G z1
  have b_len := PySem.W.mg_none_of X G z2
  have b_abs := PySem.W.mg_none_of X G z3
  have b_int := PySem.W.mg_none_of X G z4
  have b_bool := PySem.W.mg_none_of X G z5
  have b_list := PySem.W.mg_none_of X G z6
  have b_isinstance := PySem.W.mg_none_of X G z7
  have b_sorted := PySem.W.mg_none_of X G z8
  have b_repr := PySem.W.mg_none_of X G z9
  have b_zip := PySem.W.mg_none_of X G z10
  have b_sum := PySem.W.mg_none_of X G z11
  have F_law := fun_mk (st := sLaw) l11 c11 k11
  refine ⟨PySem.W.fnOf "law" "law" (defArgs sLaw) (defBody sLaw) (defScope sLaw) .none kV11 dc11 pm11 an11 cd11 ct11, fun s v => .of_eq rfl, fun base _ _ => ?_⟩
  have cD := kal_of D__law_draws (fun f fd F => ok_draws (P := l.prog) (w := w) (base := base) (k := 0) F b_range b_min b_len b_abs b_int)
  have cA := kal_of D__law_at (fun f fd F => ok_at (P := l.prog) (w := w) (base := base) (k := 0) F b_len b_int)
  have cPr := kal_of D__law_price (fun f fd F => ok_price2 (P := l.prog) (w := w) (base := base) (K := K) (k := 0) F b_int)
  have cN := kal_of D__law_net (fun f fd F => ok_net2 F cA cPr b_range b_int)
  have cI := kal_of D__law_is_integer (fun f fd F => ok_isI (P := l.prog) (w := w) (base := base) (k := 0) F b_isinstance b_int b_bool)
  have cLw := kal_of D_link_ways (fun f fd F => ok_linkWays (P := l.prog) (w := w) (base := base) (K := K) (mg := mg) (k := 0) F)
  have cOp := kal_of D__law_open (fun f fd F => ok_lOpen (P := l.prog) (w := w) (base := base) (K := K) (k := 0) F b_sorted)
  have cNr := kal_of D__law_near (fun f fd F => ok_lNear9 (P := l.prog) (w := w) (base := base) (K := K) (mg := mg) (k := 0) F)
  have cTu := kal_of D__law_turns (fun f fd F => ok_turns9 (k0 := 1) (by decide) (by decide) F cA cNr b_len b_range b_int)
  have cRs := kal_of D_run_sum (fun f fd F => ok_runSum F cLw b_zip b_sum)
  have cLs := kal_of D__law_sum (fun f fd F => ok_lSum9 F cOp b_len b_range)
  exact ok_law (by decide) (by decide) (by decide) (by decide) (by decide) (by decide) (by decide) F_law cD cN cTu cA cOp cRs cLs cI b_len b_range b_int b_list b_repr
end Ovc
open PySem PySem.W PyProof.Rows
set_option maxHeartbeats 0 in
theorem PySem.Challenge.cw_overpasses_k39_sums_of_runs_holds : PySem.Challenge.rw_overpasses_k39_sums_of_runs.Holds := by
  w_on; o_law; k_head; (case hw => w_witness2)
  k_fill
  refine Ovc.walkG (l := PySem.Challenge.rw_overpasses_k39_sums_of_runs) (n := 63) (x := "script") (sp := fun w => Ovc.spLaw _) rfl (by decide) rfl (fun w h Y => PySem.W.kIn_of Y) ?F (fun _ _ a ns hl _ hS => ⟨a, ns, rfl, hS, hl, fun _ => rfl⟩)
  case F =>
    intro w mg fa h KX G hmg
    refine' Ovc.all_mk KX G hmg ?a0 ?l0 ?c0 ?k0 ?a1 ?l1 ?c1 ?k1 ?a2 ?l2 ?c2 ?k2 ?a3 ?l3 ?c3 ?k3 ?a4 ?l4 ?c4 ?k4 ?a5 ?l5 ?c5 ?k5 ?a6 ?l6 ?c6 ?k6 ?a7 ?l7 ?c7 ?k7 ?a8 ?l8 ?c8 ?k8 ?a9 ?l9 ?c9 ?k9 ?a10 ?l10 ?c10 ?k10 ?a11 ?l11 ?c11 ?k11 ?z0 ?z1 ?z2 ?z3 ?z4 ?z5 ?z6 ?z7 ?z8 ?z9 ?z10 ?z11
    (case a0 => k_is)
    (case l0 => k_is)
    (case c0 => k_is)
    (case k0 => k_is)
    (case a1 => k_is)
    (case l1 => k_is)
    (case c1 => k_is)
    (case k1 => k_is)
    (case a2 => k_is)
    (case l2 => k_is)
    (case c2 => k_is)
    (case k2 => k_is)
    (case a3 => k_is)
    (case l3 => k_is)
    (case c3 => k_is)
    (case k3 => k_is)
    (case a4 => k_is)
    (case l4 => k_is)
    (case c4 => k_is)
    (case k4 => k_is)
    (case a5 => k_is)
    (case l5 => k_is)
    (case c5 => k_is)
    (case k5 => k_is)
    (case a6 => k_is)
    (case l6 => k_is)
    (case c6 => k_is)
    (case k6 => k_is)
    (case a7 => k_is)
    (case l7 => k_is)
    (case c7 => k_is)
    (case k7 => k_is)
    (case a8 => k_is)
    (case l8 => k_is)
    (case c8 => k_is)
    (case k8 => k_is)
    (case a9 => k_is)
    (case l9 => k_is)
    (case c9 => k_is)
    (case k9 => k_is)
    (case a10 => k_is)
    (case l10 => k_is)
    (case c10 => k_is)
    (case k10 => k_is)
    (case a11 => k_is)
    (case l11 => k_is)
    (case c11 => k_is)
    (case k11 => k_is)
    (case z0 => k_is)
    (case z1 => k_is)
    (case z2 => k_is)
    (case z3 => k_is)
    (case z4 => k_is)
    (case z5 => k_is)
    (case z6 => k_is)
    (case z7 => k_is)
    (case z8 => k_is)
    (case z9 => k_is)
    (case z10 => k_is)
    (case z11 => k_is)
