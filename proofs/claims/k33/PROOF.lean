import PyProof.Rows.All
import Wide.All
import OpenK.AllK
import Wide.FinOn
import PySem.Challenge.RW_overpasses_k33_answers_by_labels
import HandS.Base
import HandS.Call
import HandS.List
import HandS.Comp
import HandS.Dict
import HandS.Ends
import HandS.Iter
import HandS.Text
import HandS.Words
import HandS.Evl
import HandS.IsInst
import HandS.Style
import HandS.Exc
import HandS.TryOnly
import HandS.TryMany
import HandS.ExcOwn
import HandS.WordsExc
import HandS.TupLe
import HandS.Conv
import HandS.Walk
import HandS.WordsDict
import HandS.More
import HandS.Sort
import HandS.Deep
import HandS.DictComp
import HandS.SortKw
import KE.DataMinMax
import KE.LtData
import PyProof.Rows.RowBridgeK
set_option Elab.async false
set_option linter.all false
set_option maxRecDepth 100000
set_option maxHeartbeats 2000000
namespace Ovc
open PySem PySem.Spec PyProof.Rows L2
def topS (i : Nat) : Stmt := PySem.Challenge.pw_overpasses_k33_answers_by_labels.main.body.getD i (.Pass ⟨0, 0, 0, 0⟩)
/-! ### heaps -/
theorem same_upd {H : Hp} {p : Addr} {o : HO} (h : H p = none) : Same H (upd H p o) := fun b x e => by
  rw [upd_ne (ne_of_none e h)]
  exact e
theorem same_upd' {G H : Hp} {p : Addr} {o : HO} (s : Same G H) (h : G p = none) : Same G (upd H p o) := fun b x e => by
  rw [upd_ne (ne_of_none e h)]
  exact s b x e
/-- all of H but what stands at o -/
def but (H : Hp) (o : Addr) : Hp := fun b => if b = o then none else H b
theorem but_at {H : Hp} {o : Addr} : but H o o = none := if_pos rfl
theorem but_ne {H : Hp} {o b : Addr} (h : b ≠ o) : but H o b = H b := if_neg h
theorem but_same {H : Hp} {o : Addr} : Same (but H o) H := fun b x e => by
  by_cases h : b = o
  · rw [h, but_at] at e
    cases e
  · rw [but_ne h] at e
    exact e
theorem same_but {G H : Hp} {o : Addr} (s : Same G H) (n : G o = none) : Same G (but H o) := fun b x e => by
  rw [but_ne (ne_of_none e n)]
  exact s b x e
theorem but_mono {H H' : Hp} {o : Addr} (s : Same H H') : Same (but H o) (but H' o) := fun b x e => by
  by_cases h : b = o
  · rw [h, but_at] at e
    cases e
  · rw [but_ne h] at e ⊢
    exact s b x e
theorem but_upd {H : Hp} {o : Addr} {u : HO} : but (upd H o u) o = but H o := by
  funext b
  by_cases h : b = o
  · rw [h, but_at, but_at]
  · rw [but_ne h, but_ne h, upd_ne h]
/-- a store at o, seen from what stands beside it -/
theorem but_upd_same {H : Hp} {o : Addr} {u : HO} : Same (but H o) (upd H o u) := fun b x e => by
  by_cases h : b = o
  · rw [h, but_at] at e
    cases e
  · rw [but_ne h] at e
    rw [upd_ne h]
    exact e
theorem seqT {K : PySem.W.Frag} {H H' : Hp} {a : Addr} {xs : List V} (e : Same H H') (h : SqT K H a xs) : SqT K H' a xs := by
  rcases h with (h | ⟨o, h⟩) | h
  · exact .inl (.inl (e _ _ h))
  · exact .inl (.inr ⟨o, e _ _ h⟩)
  · exact .inr h
mutual
theorem dpS {K : PySem.W.Frag} {H H' : Hp} (s : Same H H') : ∀ (d : PyData) (v : V), Dp K H v d → Dp K H' v d
  | .none, _, h => by
    cases h
    exact .non
  | .bool b, _, h => by
    cases h
    exact .bl b
  | .int i, _, h => by
    cases h
    exact .int i
  | .str x, _, h => by
    cases h
    exact .str x
  | .list ds, _, h => by
    cases h with
    | lst hs ha => exact .lst (s.seq hs) (dpSAll s ds _ ha)
  | .tuple ds, _, h => by
    cases h with
    | tup hs ha => exact .tup (seqT s hs) (dpSAll s ds _ ha)
  | .dict _, _, h => by cases h
theorem dpSAll {K : PySem.W.Frag} {H H' : Hp} (s : Same H H') : ∀ (ds : List PyData) (vs : List V), DpAll K H vs ds → DpAll K H' vs ds
  | [], _, h => by
    cases h
    exact .nil
  | d :: ds, _, h => by
    cases h with
    | cons h1 h2 => exact .cons (dpS s d _ h1) (dpSAll s ds _ h2)
end
theorem Dp.to {K : PySem.W.Frag} {H H' : Hp} {v : V} {d : PyData} (h : Dp K H v d) (s : Same H H') : Dp K H' v d := dpS s d v h
theorem DpAll.to {K : PySem.W.Frag} {H H' : Hp} {vs : List V} {ds : List PyData} (h : DpAll K H vs ds) (s : Same H H') : DpAll K H' vs ds := dpSAll s ds vs h
theorem DpAll.len {K : PySem.W.Frag} {H : Hp} : ∀ {vs : List V} {ds : List PyData}, DpAll K H vs ds → vs.length = ds.length
  | _, _, .nil => rfl
  | _, _, .cons _ t => by
    rw [List.length_cons, List.length_cons, DpAll.len t]
theorem DpAll.get {K : PySem.W.Frag} {H : Hp} : ∀ {vs : List V} {ds : List PyData} {i : Nat} {d : PyData}, DpAll K H vs ds → ds[i]? = some d → ∃ v, vs[i]? = some v ∧ Dp K H v d
  | _, _, i, d, .nil, e => by simp at e
  | _, _, 0, d, .cons h _, e => by
    have e' := Option.some.inj e
    subst e'
    exact ⟨_, rfl, h⟩
  | _, _, i + 1, d, .cons _ t, e => DpAll.get (i := i) t e
theorem DpAll.app {K : PySem.W.Frag} {H : Hp} : ∀ {vs ws : List V} {ds es : List PyData}, DpAll K H vs ds → DpAll K H ws es → DpAll K H (vs ++ ws) (ds ++ es)
  | _, _, _, _, .nil, t => t
  | _, _, _, _, .cons h r, t => .cons h (DpAll.app r t)
theorem DpAll.take {K : PySem.W.Frag} {H : Hp} : ∀ {vs : List V} {ds : List PyData} (n : Nat), DpAll K H vs ds → DpAll K H (vs.take n) (ds.take n)
  | _, _, 0, _ => .nil
  | _, _, _ + 1, .nil => .nil
  | _, _, n + 1, .cons h t => .cons h (DpAll.take n t)
theorem DpAll.drop {K : PySem.W.Frag} {H : Hp} : ∀ {vs : List V} {ds : List PyData} (n : Nat), DpAll K H vs ds → DpAll K H (vs.drop n) (ds.drop n)
  | _, _, 0, h => h
  | _, _, _ + 1, .nil => .nil
  | _, _, n + 1, .cons _ t => DpAll.drop n t
theorem DpAll.one {K : PySem.W.Frag} {H : Hp} {v : V} {d : PyData} (h : Dp K H v d) : DpAll K H [v] [d] := .cons h .nil
theorem Dp.int_inv {K : PySem.W.Frag} {H : Hp} {v : V} {i : Int} (h : Dp K H v (.int i)) : v = .int i := by
  cases h
  rfl
theorem DpAll.ints {K : PySem.W.Frag} {H : Hp} : ∀ ns : List Int, DpAll K H (ns.map V.int) (ns.map PyData.int)
  | [] => .nil
  | n :: ns => .cons (.int n) (DpAll.ints ns)
theorem DpAll.ints_inv {K : PySem.W.Frag} {H : Hp} : ∀ {ns : List Int} {vs : List V}, DpAll K H vs (ns.map PyData.int) → vs = ns.map V.int
  | [], _, h => by
    cases h
    rfl
  | n :: ns, _, h => by
    cases h with
    | cons h1 h2 =>
      rw [Dp.int_inv h1, DpAll.ints_inv h2]
      rfl
theorem Dp.lst_inv {K : PySem.W.Frag} {H : Hp} {v : V} {ds : List PyData} (h : Dp K H v (.list ds)) : ∃ a xs, v = .ref a ∧ SqL K H a xs ∧ DpAll K H xs ds := by
  cases h with
  | lst hs ha => exact ⟨_, _, rfl, hs, ha⟩
theorem Dp.tup_inv {K : PySem.W.Frag} {H : Hp} {v : V} {ds : List PyData} (h : Dp K H v (.tuple ds)) : ∃ a xs, v = .ref a ∧ SqT K H a xs ∧ DpAll K H xs ds := by
  cases h with
  | tup hs ha => exact ⟨_, _, rfl, hs, ha⟩
/-! ### an int or None -/
def oV : Option Int → V
  | none => .non
  | some i => .int i
def oD : Option Int → PyData
  | none => .none
  | some i => .int i
theorem Dp.o {K : PySem.W.Frag} {H : Hp} : ∀ o : Option Int, Dp K H (oV o) (oD o)
  | none => .non
  | some i => .int i
theorem Dp.o_inv {K : PySem.W.Frag} {H : Hp} {v : V} : ∀ {o : Option Int}, Dp K H v (oD o) → v = oV o
  | none, h => by
    cases h
    rfl
  | some i, h => by
    cases h
    rfl
theorem oV_non {o : Option Int} : decide (oV o = .non) = o.isNone := by
  cases o <;> rfl
theorem eqv_o : ∀ a b : Option Int, PyData.eqv (oD a) (oD b) = decide (a = b)
  | none, none => by rfl
  | none, some _ => by rfl
  | some _, none => by rfl
  | some a, some b => by
    show (a == b) = _
    by_cases h : a = b
    · subst h
      rw [decide_eq_true rfl]
      exact beq_self_eq_true a
    · rw [decide_eq_false (fun e => h (Option.some.inj e))]
      exact beq_eq_false_iff_ne.mpr h
theorem shaped_o (a : Option Int) : SeqAt.shaped (oD a) = true := by
  cases a <;> rfl
/-! ### links and nets -/
structure Lnk where
  a : Int
  b : Int
  t : Option Int
  k : Option Int
structure Net where
  n : Int
  ls : List Lnk
def lnkV (l : Lnk) : List V := [.int l.a, .int l.b, oV l.t, oV l.k]
def lnkD (l : Lnk) : PyData := .tuple [.int l.a, .int l.b, oD l.t, oD l.k]
def netD (N : Net) : PyData := .tuple [.int N.n, .list (N.ls.map lnkD)]
theorem Dp.lnk_inv {K : PySem.W.Frag} {H : Hp} {v : V} {l : Lnk} (h : Dp K H v (lnkD l)) : ∃ a, v = .ref a ∧ SqT K H a (lnkV l) := by
  obtain ⟨a, xs, rfl, hs, ha⟩ := Dp.tup_inv h
  cases ha with
  | cons h1 r1 =>
    cases r1 with
    | cons h2 r2 =>
      cases r2 with
      | cons h3 r3 =>
        cases r3 with
        | cons h4 r4 =>
          cases r4
          rw [Dp.int_inv h1, Dp.int_inv h2, Dp.o_inv h3, Dp.o_inv h4] at hs
          exact ⟨a, rfl, hs⟩
theorem Dp.lnk {K : PySem.W.Frag} {H : Hp} {a : Addr} {l : Lnk} (h : SqT K H a (lnkV l)) : Dp K H (.ref a) (lnkD l) :=
  .tup h (.cons (.int _) (.cons (.int _) (.cons (Dp.o _) (.cons (Dp.o _) .nil))))
theorem Dp.net_inv {K : PySem.W.Frag} {H : Hp} {v : V} {N : Net} (h : Dp K H v (netD N)) : ∃ p q xs, v = .ref p ∧ SqT K H p [.int N.n, .ref q] ∧ SqL K H q xs ∧ DpAll K H xs (N.ls.map lnkD) := by
  obtain ⟨a, xs, rfl, hs, ha⟩ := Dp.tup_inv h
  cases ha with
  | cons h1 r1 =>
    cases r1 with
    | cons h2 r2 =>
      cases r2
      obtain ⟨q, ys, rfl, hl, hy⟩ := Dp.lst_inv h2
      rw [Dp.int_inv h1] at hs
      exact ⟨a, q, ys, rfl, hs, hl, hy⟩
theorem Dp.net {K : PySem.W.Frag} {H : Hp} {p q : Addr} {xs : List V} {N : Net} (h : SqT K H p [.int N.n, .ref q]) (hq : SqL K H q xs) (hx : DpAll K H xs (N.ls.map lnkD)) : Dp K H (.ref p) (netD N) :=
  .tup h (.cons (.int _) (.cons (.lst hq hx) .nil))
/-! ### pure expressions: what they evaluate to, the heap as it is -/
def Vl (te : TE) (σ : L2.St) (H : Hp) (v : V) : Prop := ∀ Q : VK, Q v H → te σ H Q
def An (t : TT) (σ : L2.St) (H : Hp) (b : Bool) : Prop := ∀ Q : Bool → Hp → Prop, Q b H → t σ H Q
def Va (ta : TA) (σ : L2.St) (H : Hp) (vs : List V) : Prop := ∀ Q : List V → Hp → Prop, Q vs H → ta σ H Q
section
variable {K : PySem.W.Frag} {σ : L2.St} {H : Hp} {i : Nat} {v x y z : V} {ta tb te tv : TE} {b : Bool} {a : Addr} {t u c : TT} {tr : TA} {D : Ends} {tz tw : TS}
theorem va_nil : Va tNil σ H [] := fun _ q => q
theorem va_cons {vs : List V} (h : Vl ta σ H x) (hr : Va tr σ H vs) : Va (tCons ta tr) σ H (x :: vs) := fun Q q => h _ (hr _ q)
theorem vl_var (h : σ[i]? = some (some v)) : Vl (tVar i) σ H v := fun _ q => ⟨v, h, q⟩
theorem vl_c : Vl (tC v) σ H v := fun _ q => q
theorem vl_op {r : R2} (ha : Vl ta σ H x) (hb : Vl tb σ H y) (hr : ∀ Q : VK, Q z H → r x y H Q) : Vl (tOp r ta tb) σ H z := fun Q q => ha _ (hb _ (hr _ q))
theorem vl_I0 {g : Int → Int → V} {p q : Int} (ha : Vl ta σ H (.int p)) (hb : Vl tb σ H (.int q)) : Vl (tOp (rI0 g) ta tb) σ H (g p q) := vl_op ha hb fun _ k => ⟨p, q, rfl, rfl, k⟩
theorem vl_I {C : Int → Int → Prop} {g : Int → Int → V} {p q : Int} (ha : Vl ta σ H (.int p)) (hb : Vl tb σ H (.int q)) (hc : C p q) : Vl (tOp (rI C g) ta tb) σ H (g p q) := vl_op ha hb fun _ k => ⟨p, q, rfl, rfl, hc, k⟩
theorem vl_un {r : V → Hp → VK → Prop} (ha : Vl ta σ H x) (hr : ∀ Q : VK, Q z H → r x H Q) : Vl (tUn r ta) σ H z := fun Q q => ha _ (hr _ q)
theorem vl_neg {p : Int} (ha : Vl ta σ H (.int p)) : Vl (tUn (rU fun i => .int (-i)) ta) σ H (.int (-p)) := vl_un ha fun _ k => ⟨p, rfl, k⟩
theorem vl_cb {r : List V → Hp → VK → Prop} {vs : List V} (h : Va tr σ H vs) (hr : ∀ Q : VK, Q z H → r vs H Q) : Vl (tCB r tr) σ H z := fun Q q => h _ (hr _ q)
theorem vl_int1 {p : Int} (ha : Vl ta σ H (.int p)) : Vl (tCB (fun xs H Q => (∃ i, xs = [V.int i] ∧ Q (V.int i) H) ∨ ∃ k, xs = [V.bl k] ∧ Q (V.int (if k then 1 else 0)) H) (tCons ta tNil)) σ H (.int p) :=
  vl_cb (va_cons ha va_nil) fun _ k => .inl ⟨p, rfl, k⟩
theorem vl_int1b {k : Bool} (ha : Vl ta σ H (.bl k)) : Vl (tCB (fun xs H Q => (∃ i, xs = [V.int i] ∧ Q (V.int i) H) ∨ ∃ k, xs = [V.bl k] ∧ Q (V.int (if k then 1 else 0)) H) (tCons ta tNil)) σ H (.int (if k then 1 else 0)) :=
  vl_cb (va_cons ha va_nil) fun _ q => .inr ⟨k, rfl, q⟩
theorem vl_abs {p : Int} (ha : Vl ta σ H (.int p)) : Vl (tCB (fun xs H Q => ∃ i, xs = [V.int i] ∧ Q (V.int (if i < 0 then -i else i)) H) (tCons ta tNil)) σ H (.int (if p < 0 then -p else p)) :=
  vl_cb (va_cons ha va_nil) fun _ k => ⟨p, rfl, k⟩
theorem vl_min2 {p q : Int} (ha : Vl ta σ H (.int p)) (hb : Vl tb σ H (.int q)) : Vl (tCB (fun xs H Q => ∃ i j, xs = [V.int i, V.int j] ∧ Q (V.int (if j < i then j else i)) H) (tCons ta (tCons tb tNil))) σ H (.int (if q < p then q else p)) :=
  vl_cb (va_cons ha (va_cons hb va_nil)) fun _ k => ⟨p, q, rfl, k⟩
theorem vl_max2 {p q : Int} (ha : Vl ta σ H (.int p)) (hb : Vl tb σ H (.int q)) : Vl (tCB (fun xs H Q => ∃ i j, xs = [V.int i, V.int j] ∧ Q (V.int (if j > i then j else i)) H) (tCons ta (tCons tb tNil))) σ H (.int (if q > p then q else p)) :=
  vl_cb (va_cons ha (va_cons hb va_nil)) fun _ k => ⟨p, q, rfl, k⟩
theorem vl_lenL {xs : List V} (ha : Vl ta σ H (.ref a)) (h : SqL K H a xs) : Vl (tCB (fun xs H Q => ∃ p ys, xs = [V.ref p] ∧ (SqL K H p ys ∨ SqT K H p ys) ∧ Q (V.int ys.length) H) (tCons ta tNil)) σ H (.int xs.length) :=
  vl_cb (va_cons ha va_nil) fun _ k => ⟨a, xs, rfl, .inl h, k⟩
theorem vl_ixL {xs : List V} {p : Int} (ha : Vl ta σ H (.ref a)) (hb : Vl tb σ H (.int p)) (h : SqL K H a xs) (hg : atI xs p = some z) : Vl (tOp (rIxL K) ta tb) σ H z :=
  vl_op ha hb fun _ k => ⟨a, xs, p, z, rfl, rfl, h, hg, k⟩
theorem vl_ixT {xs : List V} {p : Int} (ha : Vl ta σ H (.ref a)) (hb : Vl tb σ H (.int p)) (h : SqT K H a xs) (hg : atI xs p = some z) : Vl (tOp (rIxT K) ta tb) σ H z :=
  vl_op ha hb fun _ k => ⟨a, xs, p, z, rfl, rfl, h, hg, k⟩
theorem vl_eq (ha : Vl ta σ H x) (hb : Vl tb σ H y) (hs : scal x y = true) : Vl (tOp rEq ta tb) σ H (.bl (decide (x = y))) := vl_op ha hb fun _ k => ⟨hs, k⟩
theorem vl_ne (ha : Vl ta σ H x) (hb : Vl tb σ H y) (hs : scal x y = true) : Vl (tOp rNe ta tb) σ H (.bl (!decide (x = y))) := vl_op ha hb fun _ k => ⟨hs, k⟩
theorem vl_isN (ha : Vl ta σ H x) : Vl (tOp (fun x y H Q => y = V.non ∧ Q (V.bl (decide (x = V.non))) H) ta (tC .non)) σ H (.bl (decide (x = .non))) := vl_op ha vl_c fun _ k => ⟨rfl, k⟩
theorem vl_notN (ha : Vl ta σ H x) : Vl (tOp (fun x y H Q => y = V.non ∧ Q (V.bl (!decide (x = V.non))) H) ta (tC .non)) σ H (.bl (!decide (x = .non))) := vl_op ha vl_c fun _ k => ⟨rfl, k⟩
theorem vl_chain {r r' : R2} {tc : TE} {w : V} {k m : Bool} (ha : Vl ta σ H x) (hb : Vl tb σ H y) (hr : ∀ Q : VK, Q (.bl k) H → r x y H Q) (hc : Vl tc σ H w) (hr' : ∀ Q : VK, Q (.bl m) H → r' y w H Q) : Vl (tChain r r' ta tb tc) σ H (.bl (k && m)) := fun Q q =>
  ha _ (hb _ (hr _ ⟨k, rfl, by
    cases k with
    | true => exact iteT (hc _ (hr' _ q))
    | false => exact iteF q⟩))
theorem vl_chainI {g g' : Int → Int → Bool} {tc : TE} {p q s : Int} (ha : Vl ta σ H (.int p)) (hb : Vl tb σ H (.int q)) (hc : Vl tc σ H (.int s)) :
    Vl (tChain (rI0 fun i j => .bl (g i j)) (rI0 fun i j => .bl (g' i j)) ta tb tc) σ H (.bl (g p q && g' q s)) :=
  vl_chain ha hb (fun _ k => ⟨p, q, rfl, rfl, k⟩) hc (fun _ k => ⟨q, s, rfl, rfl, k⟩)
theorem vl_if {b : Bool} (h : An t σ H b) (h1 : b = true → Vl ta σ H v) (h2 : b = false → Vl tb σ H v) : Vl (tIf t ta tb) σ H v := fun Q q => h _ (by
  cases b with
  | true => exact iteT (h1 rfl _ q)
  | false => exact iteF (h2 rfl _ q))
theorem an_test {b : Bool} (h : Vl te σ H (.bl b)) : An (tTest te) σ H b := fun Q q => h _ ⟨b, rfl, q⟩
theorem an_B {b : Bool} (h : Vl te σ H (.bl b)) : An (tB te) σ H b := fun Q q => h _ ⟨b, rfl, q⟩
theorem an_not (h : An t σ H b) : An (tNot t) σ H (!b) := fun Q q => h _ q
theorem an_and {k m : Bool} (h1 : An t σ H k) (h2 : k = true → An u σ H m) : An (tAnd t u) σ H (k && m) := fun Q q => h1 _ (by
  cases k with
  | true => exact iteT (h2 rfl _ q)
  | false => exact iteF q)
theorem an_or {k m : Bool} (h1 : An t σ H k) (h2 : k = false → An u σ H m) : An (tOr t u) σ H (k || m) := fun Q q => h1 _ (by
  cases k with
  | true => exact iteT q
  | false => exact iteF (h2 rfl _ q))
theorem An.is {k m : Bool} (h : An t σ H k) (e : k = m) : An t σ H m := e ▸ h
theorem Vl.is {v w : V} (h : Vl te σ H v) (e : v = w) : Vl te σ H w := e ▸ h
/-! ### statements over them -/
theorem g_seq (h : tz { D with nx := tw D } σ H) : tSeq tz tw D σ H := h
theorem g_asg {i : Nat} (h : Vl te σ H v) (k : D.nx (σ.set i (some v)) H) : tAsg te (gName i) D σ H := h _ k
theorem g_ret (h : Vl te σ H v) (k : D.rt v H) : tRet te D σ H := h _ k
theorem g_if {b : Bool} (h : An t σ H b) (h1 : b = true → tz D σ H) (h2 : b = false → tw D σ H) : tIfS t tz tw D σ H := h _ (by
  cases b with
  | true => exact iteT (h1 rfl)
  | false => exact iteF (h2 rfl))
theorem g_app {l : Addr} {xs : List V} (ho : Vl ta σ H (.ref l)) (hl : H l = some (.lst xs)) (h : Vl te σ H v) (hz : xs.length < sizeLine) (k : D.nx σ (upd H l (.lst (xs ++ [v])))) :
    tDrop (tBM K "list" rAppend ta (tCons te tNil)) D σ H := ho _ ⟨.inl ⟨rfl, _, .inl (.inl hl)⟩, h _ ⟨l, xs, v, rfl, rfl, hl, hz, k⟩⟩
theorem at_int {ds : List Int} {k : Int} (h0 : 0 ≤ k) (h1 : k < (ds.length : Int)) : ∃ d, atI (ds.map V.int) k = some (.int d) ∧ ds[k.toNat]? = some d := by
  have hj : k.toNat < ds.length := by omega
  have g : (ds.map V.int)[k.toNat]? = some (.int ds[k.toNat]) := by
    rw [List.getElem?_map, List.getElem?_eq_getElem hj]
    rfl
  have g2 := atI_nat g
  rw [show ((k.toNat : Nat) : Int) = k by omega] at g2
  exact ⟨ds[k.toNat], g2, List.getElem?_eq_getElem hj⟩
/-! ### loops -/
theorem g_forR {j : Nat} {n : Int} (h : Va tr σ H [.int n]) (hn : -(2 ^ 62) ≤ n ∧ n < 2 ^ 62) (Pv : Nat → L2.St → Hp → Prop) (h0 : Pv 0 σ H)
    (hs : ∀ (i : Nat) σ H, (i : Int) < n → Pv i σ H → tz { D with nx := Pv (i + 1), ct := Pv (i + 1), bk := D.nx } (σ.set j (some (.int i))) H) (hd : ∀ σ H, Pv n.toNat σ H → D.nx σ H) :
    tFor (iRng1 tr) (gName j) tz D σ H := h _ ⟨n, rfl, hn.1, hn.2, for_range (lo := 0) (n := n.toNat) Pv h0 (fun i σ H hi p => by
      show tz _ (σ.set j (some (.int (0 + i)))) H
      rw [Int.zero_add]
      exact hs i σ H (by omega) p) hd⟩
theorem g_forR2 {j : Nat} {lo n : Int} (h : Va tr σ H [.int lo, .int n]) (hn : -(2 ^ 62) ≤ lo ∧ lo < 2 ^ 62 ∧ -(2 ^ 62) ≤ n ∧ n < 2 ^ 62) (Pv : Nat → L2.St → Hp → Prop) (h0 : Pv 0 σ H)
    (hs : ∀ (i : Nat) σ H, lo + (i : Int) < n → Pv i σ H → tz { D with nx := Pv (i + 1), ct := Pv (i + 1), bk := D.nx } (σ.set j (some (.int (lo + i)))) H) (hd : ∀ σ H, Pv (n - lo).toNat σ H → D.nx σ H) :
    tFor (iRng2 tr) (gName j) tz D σ H := h _ ⟨lo, n, rfl, hn, for_range (lo := lo) (n := (n - lo).toNat) Pv h0 (fun i σ H hi p => hs i σ H (by omega) p) hd⟩
theorem g_forL {j : Nat} {xs : List V} {tl : TE} (h : Vl tl σ H (.ref a)) (hx : SqL K H a xs) (Pv : Nat → L2.St → Hp → Prop) (h0 : Pv 0 σ H) (hl : ∀ i σ' H', Pv i σ' H' → SqL K H' a xs)
    (hs : ∀ (i : Nat) x σ H, xs[i]? = some x → Pv i σ H → tz { D with nx := Pv (i + 1), ct := Pv (i + 1), bk := D.nx } (σ.set j (some x)) H) (hd : ∀ σ H, Pv xs.length σ H → D.nx σ H) :
    tFor (iList K tl) (gName j) tz D σ H := h _ ⟨a, rfl, ⟨_, hx⟩, for_list (xs := xs) Pv h0 (fun i σ H _ p => hl i σ H p) hs hd⟩
/-- for a, b, there, back in links -/
theorem g_forLnk {j1 j2 j3 j4 : Nat} {Hb : Hp} {xs : List V} {ls : List Lnk} {tl : TE} (h : Vl tl σ H (.ref a)) (hx : SqL K Hb a xs) (hL : DpAll K Hb xs (ls.map lnkD)) (hb : Same Hb H) (Pv : Nat → L2.St → Hp → Prop) (h0 : Pv 0 σ H) (hl : ∀ i σ' H', Pv i σ' H' → Same Hb H')
    (hs : ∀ (i : Nat) l σ H, ls[i]? = some l → Pv i σ H → tz { D with nx := Pv (i + 1), ct := Pv (i + 1), bk := D.nx } ((((σ.set j1 (some (.int l.a))).set j2 (some (.int l.b))).set j3 (some (oV l.t))).set j4 (some (oV l.k))) H) (hd : ∀ σ H, Pv ls.length σ H → D.nx σ H) :
    tFor (iList K tl) (gTup K 4 (gCons (gName j1) (gCons (gName j2) (gCons (gName j3) (gCons (gName j4) gNil))))) tz D σ H := h _ ⟨a, rfl, ⟨_, hb.seq hx⟩, for_list (xs := xs) Pv h0 (fun i σ H _ p => (hl i σ H p).seq hx) (fun i x σ H hi p => by
      have e := DpAll.len hL
      rw [List.length_map] at e
      have hlt : i < xs.length := by
        by_cases hlt : i < xs.length
        · exact hlt
        · rw [List.getElem?_eq_none (by omega)] at hi
          cases hi
      have hg : ls[i]? = some ls[i] := List.getElem?_eq_getElem (by omega)
      obtain ⟨v, hv, dv⟩ := DpAll.get (i := i) (d := lnkD ls[i]) hL (by
        rw [List.getElem?_map, hg]
        rfl)
      cases hi.symm.trans hv
      obtain ⟨t, rfl, ht⟩ := Dp.lnk_inv dv
      exact ⟨t, _, rfl, seqT (hl i σ H p) ht, rfl, _, _, rfl, _, _, rfl, _, _, rfl, _, _, rfl, rfl, hs i _ σ H hg p⟩) (fun σ H p => by
      have e := DpAll.len hL
      rw [List.length_map] at e
      rw [e] at p
      exact hd σ H p)⟩
/-! ### the same with what follows -/
theorem q_asg {i : Nat} (h : Vl te σ H v) (k : tw D (σ.set i (some v)) H) : tSeq (tAsg te (gName i)) tw D σ H := h _ k
theorem q_if {b : Bool} {tu : TS} (h : An t σ H b) (h1 : b = true → tz { D with nx := tw D } σ H) (h2 : b = false → tu { D with nx := tw D } σ H) : tSeq (tIfS t tz tu) tw D σ H := g_if (D := { D with nx := tw D }) h h1 h2
/-- an if without else whose body leaves the def (or the turn) -/
theorem q_when {b : Bool} (h : An t σ H b) (h1 : b = true → tz { D with nx := tw D } σ H) (h2 : b = false → tw D σ H) : tSeq (tIfS t tz tNext) tw D σ H := g_if (D := { D with nx := tw D }) h h1 h2
theorem g_when {b : Bool} (h : An t σ H b) (h1 : b = true → tz D σ H) (h2 : b = false → D.nx σ H) : tIfS t tz tNext D σ H := g_if h h1 h2
theorem q_app {l : Addr} {xs : List V} (ho : Vl ta σ H (.ref l)) (hl : H l = some (.lst xs)) (h : Vl te σ H v) (hz : xs.length < sizeLine) (k : tw D σ (upd H l (.lst (xs ++ [v])))) :
    tSeq (tDrop (tBM K "list" rAppend ta (tCons te tNil))) tw D σ H := g_app (D := { D with nx := tw D }) ho hl h hz k
theorem q_forR {j : Nat} {n : Int} (h : Va tr σ H [.int n]) (hn : -(2 ^ 62) ≤ n ∧ n < 2 ^ 62) (Pv : Nat → L2.St → Hp → Prop) (h0 : Pv 0 σ H)
    (hs : ∀ (i : Nat) σ H, (i : Int) < n → Pv i σ H → tz { D with nx := Pv (i + 1), ct := Pv (i + 1), bk := tw D } (σ.set j (some (.int i))) H) (hd : ∀ σ H, Pv n.toNat σ H → tw D σ H) :
    tSeq (tFor (iRng1 tr) (gName j) tz) tw D σ H := g_forR (D := { D with nx := tw D }) h hn Pv h0 hs hd
theorem q_forR2 {j : Nat} {lo n : Int} (h : Va tr σ H [.int lo, .int n]) (hn : -(2 ^ 62) ≤ lo ∧ lo < 2 ^ 62 ∧ -(2 ^ 62) ≤ n ∧ n < 2 ^ 62) (Pv : Nat → L2.St → Hp → Prop) (h0 : Pv 0 σ H)
    (hs : ∀ (i : Nat) σ H, lo + (i : Int) < n → Pv i σ H → tz { D with nx := Pv (i + 1), ct := Pv (i + 1), bk := tw D } (σ.set j (some (.int (lo + i)))) H) (hd : ∀ σ H, Pv (n - lo).toNat σ H → tw D σ H) :
    tSeq (tFor (iRng2 tr) (gName j) tz) tw D σ H := g_forR2 (D := { D with nx := tw D }) h hn Pv h0 hs hd
theorem q_forL {j : Nat} {xs : List V} {tl : TE} (h : Vl tl σ H (.ref a)) (hx : SqL K H a xs) (Pv : Nat → L2.St → Hp → Prop) (h0 : Pv 0 σ H) (hl : ∀ i σ' H', Pv i σ' H' → SqL K H' a xs)
    (hs : ∀ (i : Nat) x σ H, xs[i]? = some x → Pv i σ H → tz { D with nx := Pv (i + 1), ct := Pv (i + 1), bk := tw D } (σ.set j (some x)) H) (hd : ∀ σ H, Pv xs.length σ H → tw D σ H) :
    tSeq (tFor (iList K tl) (gName j) tz) tw D σ H := g_forL (D := { D with nx := tw D }) h hx Pv h0 hl hs hd
theorem q_forLnk {j1 j2 j3 j4 : Nat} {Hb : Hp} {xs : List V} {ls : List Lnk} {tl : TE} (h : Vl tl σ H (.ref a)) (hx : SqL K Hb a xs) (hL : DpAll K Hb xs (ls.map lnkD)) (hb : Same Hb H) (Pv : Nat → L2.St → Hp → Prop) (h0 : Pv 0 σ H) (hl : ∀ i σ' H', Pv i σ' H' → Same Hb H')
    (hs : ∀ (i : Nat) l σ H, ls[i]? = some l → Pv i σ H → tz { D with nx := Pv (i + 1), ct := Pv (i + 1), bk := tw D } ((((σ.set j1 (some (.int l.a))).set j2 (some (.int l.b))).set j3 (some (oV l.t))).set j4 (some (oV l.k))) H) (hd : ∀ σ H, Pv ls.length σ H → tw D σ H) :
    tSeq (tFor (iList K tl) (gTup K 4 (gCons (gName j1) (gCons (gName j2) (gCons (gName j3) (gCons (gName j4) gNil))))) tz) tw D σ H := g_forLnk (D := { D with nx := tw D }) h hx hL hb Pv h0 hl hs hd
theorem q_asgT2 {i j : Nat} {p : Addr} (h : Vl te σ H (.ref p)) (hp : SqT K H p [x, y]) (k : tw D ((σ.set i (some x)).set j (some y)) H) : tSeq (tAsg te (gTup K 2 (gCons (gName i) (gCons (gName j) gNil)))) tw D σ H :=
  h _ ⟨p, _, rfl, hp, rfl, _, _, rfl, _, _, rfl, rfl, k⟩
theorem q_dnewT {i : Nat} (k : ∀ p, H p = none → tw D (σ.set i (some (.ref p))) (upd H p (.dT []))) : tSeq (tAsg tDNewT (gName i)) tw D σ H := k
theorem q_lnew {i : Nat} (k : ∀ p, H p = none → tw D (σ.set i (some (.ref p))) (upd H p (.lst []))) : tSeq (tAsg (tLst tNil) (gName i)) tw D σ H := ⟨Nat.zero_le _, k⟩
theorem q_dput {td ty : TE} {o : Addr} {kvs : List (List Key × V)} {y1 y2 : Int} (hv : Vl te σ H v) (ho : Vl td σ H (.ref o)) (h1 : Vl ta σ H (.int y1)) (h2 : Vl tb σ H (.int y2)) (hd : H o = some (.dT kvs)) (hl : kvs.length < sizeLine)
    (k : ∀ T, H T = none → o ≠ T → tw D σ (upd (upd H T (.tup [.int y1, .int y2])) o (.dT (putK kvs [.inl y1, .inl y2] v)))) : tSeq (sDPut td (tTup (tCons ta (tCons tb tNil))) te) tw D σ H :=
  hv _ (ho _ (h1 _ (h2 _ ⟨by show 2 ≤ sizeLine; decide, fun T nT => by
    have oT : o ≠ T := ne_of_none hd nT
    exact ⟨o, _, rfl, DPut.t (k := [.inl y1, .inl y2]) (by rw [upd_ne oT]; exact hd) upd_same hl, k T nT oT⟩⟩)))
theorem q_dgetT {i : Nat} {td : TE} {o : Addr} {kvs : List (List Key × V)} {y1 y2 : Int} (ho : Vl td σ H (.ref o)) (h1 : ∀ H, Vl ta σ H (.int y1)) (h2 : ∀ H, Vl tb σ H (.int y2)) (hd : H o = some (.dT kvs))
    (k : ∀ T, H T = none → tw D (σ.set i (some ((valV kvs [.inl y1, .inl y2]).getD .non))) (upd H T (.tup [.int y1, .int y2]))) : tSeq (tAsg (tDGet1 td (tTup (tCons ta (tCons tb tNil)))) (gName i)) tw D σ H :=
  ho _ ⟨o, rfl, .inr ⟨_, .inl hd⟩, h1 _ _ (h2 _ _ ⟨by show 2 ≤ sizeLine; decide, fun T nT => by
    have oT : o ≠ T := ne_of_none hd nT
    exact ⟨_, DGet.t (k := [.inl y1, .inl y2]) (by rw [upd_ne oT]; exact hd) upd_same, k T nT⟩⟩)⟩
theorem q_asgE {i : Nat} (h : te σ H fun v H' => tw D (σ.set i (some v)) H') : tSeq (tAsg te (gName i)) tw D σ H := h
theorem g_asgE {i : Nat} (h : te σ H fun v H' => D.nx (σ.set i (some v)) H') : tAsg te (gName i) D σ H := h
theorem q_cut {M : L2.St → Hp → Prop} (h : tz { D with nx := M } σ H) (k : ∀ σ' H', M σ' H' → tw D σ' H') : Evl.tCut tz tw D σ H := ⟨M, h, k⟩
end
/-! ### defs that may be called by their names -/
structure Df (K : PySem.W.Frag) (mg : Str → Option Value) (x : Str) (st : Stmt) (ps : List Str) : Prop where
  ex : ∃ (f : Addr) (fd : FuncData), Fun K x x st f fd ∧ mg x = some (.ref f) ∧ Binds K fd ps []
structure Kal (P : Program) (w : World) (K : PySem.W.Frag) (mg : Str → Option Value) (base : Heap) (k : Nat) (x : Str) (ps : List Str) (sp : Sp) : Prop where
  ex : ∃ (f : Addr) (fd : FuncData), FnOk P w K mg base CX0 k f fd ps sp ∧ mg x = some (.ref f) ∧ PySem.W.keepIn K (.ref f) = true ∧ Binds K fd ps []
theorem kal_of {P : Program} {w : World} {K : PySem.W.Frag} {mg : Str → Option Value} {base : Heap} {k : Nat} {x : Str} {st : Stmt} {ps : List Str} {sp : Sp} (A : Df K mg x st ps)
    (ok : ∀ f fd, Fun K x x st f fd → FnOk P w K mg base CX0 k f fd ps sp) : Kal P w K mg base k x ps sp := by
  obtain ⟨f, fd, F, g, b⟩ := A.ex
  exact ⟨f, fd, ok f fd F, g, F.kp, b⟩
theorem pe_k {X : Cx} {k j : Nat} {x : Str} {ps : List Str} {sp : Sp} {p pos : Pos} {e : Expr} {es : List Expr} {t : TA} (c : Kal X.prog X.w X.K X.mg X.base k x ps sp) (hr : Room j X.A) (hk : k ≤ j) (hg : Gl X x) (ha : PA X (e :: es) t)
    (hdb : (x == ("__debug__" : Str)) = false := by decide) (he : starEach (e :: es) X.env = (false, eval e X.env) :: starEach es X.env := by rfl) (hpl : (backTo pos (starEach es X.env)).any (·.1) = false := by rfl) :
    PE X (.Call (.Name x p) (e :: es) [] pos) (tCall sp [] E0 t) := by
  obtain ⟨f, fd, F, hm, kp, b⟩ := c.ex
  exact pe_call F (hr.mono hk) hg hm kp b .nil pass0 ha hdb he hpl
/-! ### values that are not told: ints of which P holds -/
def Vi (te : TE) (σ : L2.St) (H : Hp) (P : Int → Prop) : Prop := ∀ Q : VK, (∀ r, P r → Q (.int r) H) → te σ H Q
section
variable {K : PySem.W.Frag} {σ : L2.St} {H : Hp} {i : Nat} {ta tb te : TE} {tr : TA} {D : Ends} {tz tw tu : TS} {P P1 P2 : Int → Prop}
theorem vi_of {n : Int} (h : Vl te σ H (.int n)) : Vi te σ H (fun r => r = n) := fun _ q => h _ (q n rfl)
theorem vi_I0 {g : Int → Int → Int} (ha : Vi ta σ H P1) (hb : Vi tb σ H P2) (h : ∀ p q, P1 p → P2 q → P (g p q)) : Vi (tOp (rI0 fun i j => .int (g i j)) ta tb) σ H P := fun _ k =>
  ha _ fun p hp => hb _ fun q hq => ⟨p, q, rfl, rfl, k _ (h p q hp hq)⟩
theorem vi_call {sp : Sp} {vs : List V} (h : Va tr σ H vs) (hs : ∀ Q E, (∀ r, P r → Q (.int r) H) → sp vs H Q E) : Vi (tCall sp [] E0 tr) σ H P := fun Q q => h _ (by
  show sp (vs ++ []) H Q E0
  rw [List.append_nil]
  exact hs Q E0 q)
theorem vi_mono (h : Vi te σ H P1) (hh : ∀ r, P1 r → P r) : Vi te σ H P := fun Q q => h Q fun r hr => q r (hh r hr)
theorem g_asgI {i : Nat} (h : Vi te σ H P) (k : ∀ r, P r → D.nx (σ.set i (some (.int r))) H) : tAsg te (gName i) D σ H := h _ k
theorem q_asgI {i : Nat} (h : Vi te σ H P) (k : ∀ r, P r → tw D (σ.set i (some (.int r))) H) : tSeq (tAsg te (gName i)) tw D σ H := h _ k
theorem g_retI (h : Vi te σ H P) (k : ∀ r, P r → D.rt (.int r) H) : tRet te D σ H := h _ k
end
local macro_rules
  | `(tactic| walk_at "ev") => `(tactic| repeat' (first
    | exact vl_c | exact vl_var rfl | apply vl_I0 | apply vl_I | apply vl_int1 | apply vl_abs | apply vl_min2 | apply vl_max2 | apply vl_neg | apply vl_chainI
    | apply vl_lenL | apply vl_ixL | apply vl_ixT | apply vl_isN | apply vl_notN | apply vl_eq | apply vl_ne
    | apply an_test | apply an_B | apply an_not
    | exact (show (0 : Int) < _ by decide) | exact (show (0 : Int) < _ ∧ _ < (1073741824 : Int) from ⟨by decide, by decide⟩)))
abbrev sDraws : Stmt := topS 3
theorem scDraws : FnScope ["script", "draws", "k", "rest", "turn", "mixed"] ["script"] (defScope sDraws) := ⟨rfl, rfl, rfl, by decide +kernel, rfl, by decide +kernel, by decide +kernel⟩
structure DrawsOk (m : Nat) (ds : List Int) : Prop where
  len : ds.length ≤ m
  all : ∀ d ∈ ds, 0 ≤ d ∧ d < 65536
theorem DrawsOk.app {m : Nat} {ds : List Int} {d : Int} (h : DrawsOk m ds) (h0 : 0 ≤ d) (h1 : d < 65536) : DrawsOk (m + 1) (ds ++ [d]) where
  len := by
    rw [List.length_append]
    exact Nat.succ_le_succ h.len
  all := fun e he => by
    rcases List.mem_append.mp he with h' | h'
    · exact h.all e h'
    · rw [List.mem_singleton.mp h']
      exact ⟨h0, h1⟩
theorem DrawsOk.mono {m n : Nat} {ds : List Int} (h : DrawsOk m ds) (le : m ≤ n) : DrawsOk n ds := ⟨Nat.le_trans h.len le, h.all⟩
def spDraws (K : PySem.W.Frag) : Sp := fun vs H Q _ => ∃ (a : Addr) (ns : List Int), vs = [.ref a] ∧ SqL K H a (ns.map V.int) ∧ ns.length ≤ 63 ∧
  ∀ H' p ds, Same H H' → H p = none → H' p = some (.lst (ds.map V.int)) → DrawsOk 3780 ds → Q (.ref p) H'
section
variable {P : Program} {w : World} {K : PySem.W.Frag} {mg : Str → Option Value} {base : Heap}
theorem ok_draws {f : Addr} {fd : FuncData} {k : Nat} (F : Fun K "_law_draws" "_law_draws" sDraws f fd) (mr : mg "range" = none) (mm : mg "min" = none) (ml : mg "len" = none) (ma : mg "abs" = none) (mi : mg "int" = none) :
    FnOk P w K mg base CX0 (k + 1) f fd ["script"] (spDraws K) := by
  refine F.ok scDraws (fun vs H Q E h => ?_) (fun cdv A outer s H vs Q E hr h => ?_)
  · obtain ⟨a, ns, rfl, _⟩ := h
    rfl
  · obtain ⟨a, ns, rfl, hS, hlen, q⟩ := h
    refine ⟨_, pss_cons (ps_set (i := 1) scDraws.nd rfl (.inl rfl) (pe_lst pa_nil))
      (pss_cons (ps_for PassesOwn.never rfl (pi_range1 (by rfl) mr (pa_cons (pe_callB (call_min2 rfl) (by rfl) mm (by decide +kernel) (pa_cons pe_int (pa_cons (pe_callB call_len_seq (by rfl) ml PySem.boot_len (pa_cons (pv 0) pa_nil)) pa_nil))) pa_nil)) (pg_name (i := 2) scDraws.nd rfl (.inl rfl))
        (pss_cons (ps_set (i := 3) scDraws.nd rfl (.inl rfl) (pe_callB call_abs (by rfl) ma (by decide +kernel) (pa_cons (pe_ix ix_list (pv 0) (pv 2) (fun _ _ => rfl)) pa_nil)))
        (pss_one (ps_if (pt_cmpR op_ge (pv 3) (pe_op op_pow pe_int pe_int) (nomark _))
          (pss_one (ps_for PassesOwn.never rfl (pi_range1 (by rfl) mr (pa_cons pe_int pa_nil)) (pg_name (i := 4) scDraws.nd rfl (.inl rfl))
            (pss_one (ps_if (pt_cmpR op_gt (pv 3) pe_int (nomark _))
              (pss_cons (ps_expr (pe_bm PySem.F.plainAttrs_list PySem.F.slot_list_append PySem.F.type_list_append mt_append (pv 1) (pa_cons (pe_op op_mod (pe_callTy call_int1 (by rfl) mi (by decide +kernel) (pa_cons (pv 3) pa_nil)) pe_int) pa_nil)))
              (pss_one (ps_set (i := 3) scDraws.nd rfl (.inl rfl) (pe_op op_fdiv (pv 3) pe_int)))) pss_nil))))
          (pss_cons (ps_set (i := 5) scDraws.nd rfl (.inl rfl) (pe_op op_mod (pe_callTy call_int1 (by rfl) mi (by decide +kernel) (pa_cons (pe_op op_add (pe_op op_mul (pv 3) pe_int) (pe_op op_mul (pe_op op_add (pv 2) pe_int) pe_int)) pa_nil)) pe_int))
          (pss_cons (ps_set (i := 5) scDraws.nd rfl (.inl rfl) (pe_op op_mod (pe_callTy call_int1 (by rfl) mi (by decide +kernel) (pa_cons (pe_op op_add (pe_op op_add (pe_op op_mul (pv 5) pe_int) (pe_op op_mul pe_int (pv 2))) pe_int) pa_nil)) pe_int))
          (pss_cons (ps_expr (pe_bm PySem.F.plainAttrs_list PySem.F.slot_list_append PySem.F.type_list_append mt_append (pv 1) (pa_cons (pe_op op_mod (pe_callTy call_int1 (by rfl) mi (by decide +kernel) (pa_cons (pv 5) pa_nil)) pe_int) pa_nil)))
          (pss_one (ps_expr (pe_bm PySem.F.plainAttrs_list PySem.F.slot_list_append PySem.F.type_list_append mt_append (pv 1) (pa_cons (pe_op op_mod (pe_callTy call_int1 (by rfl) mi (by decide +kernel) (pa_cons (pe_op op_fdiv (pv 5) pe_int) pa_nil)) pe_int) pa_nil)))))))))))
      (pss_one (ps_ret (pv 1)))), ?_⟩
    -- draws = []
    refine ⟨Nat.zero_le _, fun o no => ?_⟩
    have s1 : Same H (upd H o (.lst [])) := same_upd no
    have hS1 := s1.seq hS
    refine (q_forR (n := if (ns.length : Int) < 63 then (ns.length : Int) else 63) (va_cons (vl_min2 vl_c ((vl_lenL (vl_var rfl) hS1).is (by rw [List.length_map]))) va_nil) ⟨by split <;> omega, by split <;> omega⟩
      (fun i σ H3 => ∃ y2 y3 y4 y5 ds, σ = [some (.ref a), some (.ref o), y2, y3, y4, y5] ∧ Same H H3 ∧ H3 o = some (.lst (ds.map V.int)) ∧ DrawsOk (60 * i) ds)
      ⟨none, none, none, none, [], rfl, s1, upd_same, Nat.zero_le _, fun _ h => by cases h⟩ (fun i σ H3 hi hP => ?_) (fun σ H3 hP => ?_))
    · obtain ⟨y2, y3, y4, y5, ds, rfl, sm, ho, hd⟩ := hP
      have hi2 : i < ns.length := by
        split at hi <;> omega
      have hA := sm.seq hS
      have g1 : (ns.map V.int)[i]? = some (.int ns[i]) := by
        rw [List.getElem?_map, List.getElem?_eq_getElem hi2]
        rfl
      -- rest = abs(script[k])
      refine (q_asg (v := .int (if ns[i] < 0 then -ns[i] else ns[i])) (vl_abs (vl_ixL (vl_var rfl) (vl_var rfl) hA (atI_nat g1))) ?_)
      generalize hr0 : (if ns[i] < 0 then -ns[i] else ns[i]) = r
      have hr1 : 0 ≤ r := by
        rw [← hr0]
        split <;> omega
      refine g_if (b := decide ((10 : Int) ^ (18 : Int).toNat ≤ r)) (by exact an_test (vl_I0 (vl_var rfl) (vl_I vl_c vl_c ⟨by decide, by decide, by decide⟩))) (fun _ => ?_) (fun hlt => ?_)
      · refine g_forR (n := 60) (va_cons vl_c va_nil) ⟨by decide, by decide⟩
          (fun j σ H4 => ∃ y4 r ds', σ = [some (.ref a), some (.ref o), some (.int i), some (.int r), y4, y5] ∧ Same H H4 ∧ H4 o = some (.lst (ds'.map V.int)) ∧ DrawsOk (60 * i + j) ds')
          ⟨y4, r, ds, rfl, sm, ho, hd⟩ (fun j σ H4 hj hP => ?_) (fun σ H4 hP => ?_)
        · obtain ⟨z4, r', ds', rfl, sm', ho', hd'⟩ := hP
          refine g_if (by walk_at "ev") (fun _ => ?_) (fun _ => ?_)
          · have h0 : 0 ≤ r' % 65536 := Int.emod_nonneg _ (by decide)
            have h1 : r' % 65536 < 65536 := Int.emod_lt_of_pos _ (by decide)
            refine (q_app (vl_var rfl) ho' (v := .int (r' % 65536)) (by walk_at "ev") ?_ ?_)
            · rw [List.length_map]
              have := hd'.len
              exact Nat.lt_of_le_of_lt this (Nat.lt_of_le_of_lt (show 60 * i + j ≤ 10000 by omega) (by decide))
            · refine g_asg (v := .int (r' / 65536)) (by walk_at "ev") ?_
              refine ⟨_, _, ds' ++ [r' % 65536], rfl, same_upd' sm' no, ?_, hd'.app h0 h1⟩
              rw [upd_same, List.map_append]
              rfl
          · exact ⟨_, _, ds', rfl, sm', ho', hd'.mono (Nat.le_succ _)⟩
        · obtain ⟨z4, r', ds', rfl, sm', ho', hd'⟩ := hP
          exact ⟨_, _, _, _, ds', rfl, sm', ho', hd'⟩
      · have hlt : r < 1000000000000000000 := by
          have := of_decide_eq_false hlt
          have e : (10 : Int) ^ (18 : Int).toNat = 1000000000000000000 := by decide
          omega
        refine (q_asg (v := .int ((r * 48271 + ((i : Int) + 1) * 69621) % 2147483647)) (by walk_at "ev"; exact .inl ⟨by omega, by omega⟩; exact .inl ⟨by omega, by omega⟩) ?_)
        generalize hm : (r * 48271 + ((i : Int) + 1) * 69621) % 2147483647 = m
        have hm0 : 0 ≤ m := by
          rw [← hm]
          exact Int.emod_nonneg _ (by decide)
        have hm1 : m < 2147483647 := by
          rw [← hm]
          exact Int.emod_lt_of_pos _ (by decide)
        refine (q_asg (v := .int ((m * 16807 + 11 * (i : Int) + 5) % 2147483629)) (by walk_at "ev"; exact .inl ⟨by omega, by omega⟩; exact .inl ⟨by decide, by decide⟩) ?_)
        generalize (m * 16807 + 11 * (i : Int) + 5) % 2147483629 = m2
        have h0 : 0 ≤ m2 % 65536 := Int.emod_nonneg _ (by decide)
        have h1 : m2 % 65536 < 65536 := Int.emod_lt_of_pos _ (by decide)
        have h2 : 0 ≤ (m2 / 65536) % 32768 := Int.emod_nonneg _ (by decide)
        have h3 : (m2 / 65536) % 32768 < 65536 := Int.lt_trans (Int.emod_lt_of_pos _ (by decide)) (by decide)
        have hl := hd.len
        refine (q_app (vl_var rfl) ho (v := .int (m2 % 65536)) (by walk_at "ev") ?_ ?_)
        · rw [List.length_map]
          exact Nat.lt_of_le_of_lt (show ds.length ≤ 10000 by omega) (by decide)
        · refine g_app (vl_var rfl) upd_same (v := .int ((m2 / 65536) % 32768)) (by walk_at "ev") ?_ ?_
          · rw [List.length_append, List.length_map]
            exact Nat.lt_of_le_of_lt (show ds.length + 1 ≤ 10000 by omega) (by decide)
          · refine ⟨_, _, _, _, (ds ++ [m2 % 65536]) ++ [(m2 / 65536) % 32768], rfl, same_upd' (same_upd' sm no) no, ?_, ((hd.app h0 h1).app h2 h3).mono (by omega)⟩
            rw [upd_same, List.map_append, List.map_append]
            rfl
    · obtain ⟨y2, y3, y4, y5, ds, rfl, sm, ho, hd⟩ := hP
      refine g_ret (vl_var rfl) (q H3 o ds sm no ho (hd.mono ?_))
      split <;> omega
end
abbrev sAt : Stmt := topS 4
abbrev sIsI : Stmt := topS 5
theorem scAt : FnScope ["draws", "k", "many"] ["draws", "k", "many"] (defScope sAt) := ⟨rfl, rfl, rfl, by decide +kernel, rfl, by decide +kernel, by decide +kernel⟩
theorem scIsI : FnScope ["actual"] ["actual"] (defScope sIsI) := ⟨rfl, rfl, rfl, by decide +kernel, rfl, by decide +kernel, by decide +kernel⟩
local macro_rules
  | `(tactic| walk_at "ev") => `(tactic| repeat' (first
    | exact vl_c | exact vl_var rfl | apply vl_I0 | apply vl_I | apply vl_int1 | apply vl_abs | apply vl_min2 | apply vl_max2 | apply vl_neg | apply vl_chainI
    | apply vl_lenL | apply vl_ixL | apply vl_ixT | apply vl_isN | apply vl_notN | apply vl_eq | apply vl_ne
    | apply an_test | apply an_B | apply an_not
    | exact (show (0 : Int) < _ by decide) | exact (show (0 : Int) < _ ∧ _ < (1073741824 : Int) from ⟨by decide, by decide⟩)))
/-- an int in [0, m) for draws, k, m -/
def spAt (K : PySem.W.Frag) : Sp := fun vs H Q _ => ∃ (a : Addr) (ds : List Int) (k m : Int), vs = [.ref a, .int k, .int m] ∧ SqL K H a (ds.map V.int) ∧ 0 ≤ k ∧ 0 < m ∧ ∀ r, 0 ≤ r ∧ r < m → Q (.int r) H
def spIsI : Sp := fun vs H Q _ => ∃ i : Int, vs = [.int i] ∧ Q (.bl true) H
section
variable {P : Program} {w : World} {K : PySem.W.Frag} {mg : Str → Option Value} {base : Heap}
theorem ok_isI {f : Addr} {fd : FuncData} {k : Nat} (F : Fun K "_law_is_integer" "_law_is_integer" sIsI f fd) (ms : mg "isinstance" = none) (mi : mg "int" = none) (mb : mg "bool" = none) :
    FnOk P w K mg base CX0 (k + 1) f fd ["actual"] spIsI := by
  refine F.ok scIsI (fun vs H Q E h => ?_) (fun cdv A outer s H vs Q E hr h => ?_)
  · obtain ⟨i, rfl, _⟩ := h
    rfl
  · obtain ⟨i, rfl, q⟩ := h
    refine ⟨_, pss_one (ps_ret (pe_and (pe_callB call_isi (by rfl) ms (by decide +kernel) (pa_cons (pv 0) (pa_cons (pe_bltn (v := .ty "int") (by rfl) mi (by decide +kernel) rfl) pa_nil)))
      (pe_one (pe_not (pe_callB call_isi (by rfl) ms (by decide +kernel) (pa_cons (pv 0) (pa_cons (pe_bltn (v := .ty "bool") (by rfl) mb (by decide +kernel) rfl) pa_nil))))))), ?_⟩
    refine ⟨.int i, rfl, .int i, .ty "int", .type "int", .type "int", true, rfl, .ty _, .base (.int _), kit_ty (by decide +kernel), true, rfl, iteT ?_⟩
    exact ⟨.int i, rfl, .int i, .ty "bool", .type "int", .type "bool", false, rfl, .ty _, .base (.int _), kit_ty (by decide +kernel), false, rfl, q⟩
theorem ok_at {f : Addr} {fd : FuncData} {k : Nat} (F : Fun K "_law_at" "_law_at" sAt f fd) (ml : mg "len" = none) (mi : mg "int" = none) :
    FnOk P w K mg base CX0 (k + 1) f fd ["draws", "k", "many"] (spAt K) := by
  refine F.ok scAt (fun vs H Q E h => ?_) (fun cdv A outer s H vs Q E hr h => ?_)
  · obtain ⟨a, ds, k, m, rfl, _⟩ := h
    rfl
  · obtain ⟨a, ds, k, m, rfl, hS, hk, hm, q⟩ := h
    refine ⟨_, pss_cons (ps_if (pt_cmpR op_lt (pv 1) (pe_callB call_len_seq (by rfl) ml PySem.boot_len (pa_cons (pv 0) pa_nil)) (nomark _))
        (pss_one (ps_ret (pe_op op_mod (pe_callTy call_int1 (by rfl) mi (by decide +kernel) (pa_cons (pe_ix ix_list (pv 0) (pv 1) (fun _ _ => rfl)) pa_nil)) (pv 2)))) pss_nil)
      (pss_one (ps_ret pe_int)), ?_⟩
    refine q_when (b := decide (k < (ds.length : Int))) (by exact an_test (vl_I0 (vl_var rfl) ((vl_lenL (vl_var rfl) hS).is (by rw [List.length_map])))) (fun hb => ?_) (fun _ => ?_)
    · have hb := of_decide_eq_true hb
      obtain ⟨d, g', _⟩ := at_int hk hb
      refine g_ret (v := .int (d % m)) ?_ (q _ ⟨Int.emod_nonneg _ (by omega), Int.emod_lt_of_pos _ hm⟩)
      exact vl_I (vl_int1 (vl_ixL (vl_var rfl) (vl_var rfl) hS g')) (vl_var rfl) hm
    · exact g_ret vl_c (q 0 ⟨by omega, by omega⟩)
end
def PriceOk (o : Option Int) : Prop := ∀ x, o = some x → 1 ≤ x ∧ x ≤ 1000000
structure LnkOk (n : Int) (l : Lnk) : Prop where
  a0 : 0 ≤ l.a
  ab : l.a < l.b
  bn : l.b < n
  t : PriceOk l.t
  k : PriceOk l.k
def LnkLt (x y : Lnk) : Prop := x.a < y.a ∨ (x.a = y.a ∧ x.b < y.b)
structure NetOk (N : Net) : Prop where
  n1 : 1 ≤ N.n
  n40 : N.n ≤ 40
  ok : ∀ l ∈ N.ls, LnkOk N.n l
  lt : N.ls.Pairwise LnkLt
  len : N.ls.length ≤ 1600
/-- a net that stands in H by itself -/
def NetAt (K : PySem.W.Frag) (H : Hp) (v : V) (N : Net) : Prop := ∃ p q xs, v = .ref p ∧ H p = some (.tup [.int N.n, .ref q]) ∧ H q = some (.lst xs) ∧ DpAll K H xs (N.ls.map lnkD)
theorem NetAt.dp {K : PySem.W.Frag} {H : Hp} {v : V} {N : Net} (h : NetAt K H v N) : Dp K H v (netD N) := by
  obtain ⟨p, q, xs, rfl, hp, hq, hx⟩ := h
  exact Dp.net (.of hp) (.of hq) hx
theorem NetAt.to {K : PySem.W.Frag} {H H' : Hp} {v : V} {N : Net} (h : NetAt K H v N) (s : Same H H') : NetAt K H' v N := by
  obtain ⟨p, q, xs, rfl, hp, hq, hx⟩ := h
  exact ⟨p, q, xs, rfl, s _ _ hp, s _ _ hq, DpAll.to hx s⟩
def spPrice (K : PySem.W.Frag) : Sp := fun vs H Q _ => ∃ (a : Addr) (ds : List Int) (k : Int), vs = [.ref a, .int k] ∧ SqL K H a (ds.map V.int) ∧ 0 ≤ k ∧ ∀ H' o, Same H H' → PriceOk o → Q (oV o) H'
def spNet (K : PySem.W.Frag) : Sp := fun vs H Q _ => ∃ (a : Addr) (ds : List Int) (k m : Int), vs = [.ref a, .int k, .int m] ∧ SqL K H a (ds.map V.int) ∧ 0 ≤ k ∧ 1 ≤ m ∧ m ≤ 40 ∧
  ∀ H' v N, Same H H' → NetAt K H' v N → NetOk N → N.n ≤ m → Q v H'
section
variable {P : Program} {w : World} {K : PySem.W.Frag} {mg : Str → Option Value} {base : Heap}
end
/-! ### data that is the same is equal -/
theorem lay_o : ∀ o : Option Int, (oD o).canLay0 = true ∧ (oD o).depth = 0
  | none => ⟨rfl, rfl⟩
  | some _ => ⟨rfl, rfl⟩
theorem lay_lnks : ∀ ls : List Lnk, PyData.canLayAll0 (ls.map lnkD) = true ∧ PyData.depthAll (ls.map lnkD) ≤ 1
  | [] => ⟨rfl, Nat.zero_le _⟩
  | l :: ls => by
    have h1 := lay_o l.t
    have h2 := lay_o l.k
    have ih := lay_lnks ls
    constructor
    · show (((true && (true && ((oD l.t).canLay0 && ((oD l.k).canLay0 && true)))) && PyData.canLayAll0 (ls.map lnkD)) = true)
      rw [h1.1, h2.1, ih.1]
      rfl
    · show max (max 0 (max 0 (max (oD l.t).depth (max (oD l.k).depth 0))) + 1) (PyData.depthAll (ls.map lnkD)) ≤ 1
      rw [h1.2, h2.2]
      have := ih.2
      simp only [Nat.max_self, Nat.zero_add]
      omega
theorem shaped_net (N : Net) : SeqAt.shaped (netD N) = true := by
  have h := lay_lnks N.ls
  show ((true && (PyData.canLayAll0 (N.ls.map lnkD) && true)) && decide (max 0 (max (PyData.depthAll (N.ls.map lnkD) + 1) 0) + 1 ≤ 64)) = true
  rw [h.1, decide_eq_true (show max 0 (max (PyData.depthAll (N.ls.map lnkD) + 1) 0) + 1 ≤ 64 by
    have := h.2
    omega)]
  rfl
theorem eqv_net (N : Net) : PyData.eqv (netD N) (netD N) = true := SeqAt.eqv_refl _ (Bool.and_eq_true_iff.mp (shaped_net N)).1
/-! ### new lists -/
def Vn (te : TE) (σ : L2.St) (H : Hp) (xs : List V) : Prop := ∀ Q : VK, (∀ p H', Same H H' → H p = none → H' p = some (.lst xs) → Q (.ref p) H') → te σ H Q
section
variable {K : PySem.W.Frag} {σ : L2.St} {H : Hp} {ta tb te : TE} {tr : TA} {xs ys : List V} {a : Addr} {D : Ends} {tw : TS}
theorem vn_lst (h : Va tr σ H xs) (hz : xs.length ≤ sizeLine) : Vn (tLst tr) σ H xs := fun Q q => h _ ⟨hz, fun p np => q p _ (same_upd np) np upd_same⟩
theorem vn_slice {tl th : TO} {lo hi : Option Int} (h : Vl te σ H (.ref a)) (hl : ∀ Q : Option Int → Hp → Prop, Q lo H → tl σ H Q) (hh : ∀ Q : Option Int → Hp → Prop, Q hi H → th σ H Q) (hx : SqL K H a xs) : Vn (tSl (rSlL K) te tl th) σ H (cutV xs lo hi) := fun Q q =>
  h _ (hl _ (hh _ ⟨a, xs, rfl, hx, fun p np => q p _ (same_upd np) np upd_same⟩))
theorem vn_rev (h : Vl te σ H (.ref a)) (hx : SqL K H a xs) : Vn (tRevL K te) σ H xs.reverse := fun Q q => h _ ⟨a, xs, rfl, hx, fun p np => q p _ (same_upd np) np upd_same⟩
theorem vn_cat (ha : Vn ta σ H xs) (hb : ∀ H', Same H H' → Vn tb σ H' ys) (hz : xs.length + ys.length ≤ sizeLine) : Vn (tOp rCat ta tb) σ H (xs ++ ys) := fun Q q => ha _ fun p H1 s1 np hp => hb H1 s1 _ fun r H2 s2 nr hr =>
  ⟨p, r, xs, ys, rfl, rfl, s2 _ _ hp, hr, hz, fun t nt => q t _ ((s1.trans s2).trans (same_upd nt)) (Same.free (s1.trans s2) nt) upd_same⟩
theorem vn_listOf (h : Vl te σ H (.ref a)) (hx : SqL K H a xs) : Vn (tCB (fun xs H Q => ∃ p ys, xs = [V.ref p] ∧ (SqL K H p ys ∨ SqT K H p ys) ∧ ∀ l, H l = none → Q (V.ref l) (upd H l (.lst ys))) (tCons te tNil)) σ H xs := fun Q q =>
  h _ ⟨a, xs, rfl, .inl hx, fun p np => q p _ (same_upd np) np upd_same⟩
theorem q_asgN {i : Nat} (h : Vn te σ H xs) (k : ∀ p H', Same H H' → H p = none → H' p = some (.lst xs) → tw D (σ.set i (some (.ref p))) H') : tSeq (tAsg te (gName i)) tw D σ H := h _ k
end
theorem cut_to {xs : List V} {n : Nat} (h : n ≤ xs.length) : cutV xs none (some (n : Int)) = xs.take n := by
  unfold cutV
  rw [HT.sIx_none, HT.sIx_nat, Nat.min_eq_left h, Nat.sub_zero, List.drop_zero]
theorem cut_from {xs : List V} {n : Nat} (h : n ≤ xs.length) : cutV xs (some (n : Int)) none = xs.drop n := by
  unfold cutV
  rw [HT.sIx_none, HT.sIx_nat, Nat.min_eq_left h]
  exact List.take_of_length_le (by rw [List.length_drop]; exact Nat.le_refl _)
/-- lists of lists of ints -/
theorem Dp.ints {K : PySem.W.Frag} {H : Hp} {p : Addr} {ns : List Int} (h : SqL K H p (ns.map V.int)) : Dp K H (.ref p) (.list (ns.map PyData.int)) := .lst h (DpAll.ints ns)
theorem Dp.ints_inv {K : PySem.W.Frag} {H : Hp} {v : V} {ns : List Int} (h : Dp K H v (.list (ns.map PyData.int))) : ∃ p, v = .ref p ∧ SqL K H p (ns.map V.int) := by
  obtain ⟨a, xs, rfl, hs, ha⟩ := Dp.lst_inv h
  rw [DpAll.ints_inv ha] at hs
  exact ⟨a, rfl, hs⟩
end Ovc
namespace PySem
namespace LowX
open PySem.W PySem.Calls PyProof.Rows PySem.HandSPX
/-! ### the text of __init__ -/
def iA (p1 p2 : Pos) : Arguments := { posonlyargs := [], args := [{ arg := "self", annotation := none, pos := p1 }, { arg := "at", annotation := none, pos := p2 }], vararg := none, kwonlyargs := [], kw_defaults := [], kwarg := none, defaults := [] }
def iB (q1 q2 q3 q4 : Pos) : List Stmt := [.Assign [.Attribute (.Name "self" q1) "at" q2] (.Name "at" q3) q4]
def iS : Scope := { kind := .function, names := [(PySem.Str.ofString "self", .local), (PySem.Str.ofString "at", .local)], isGenerator := false, isCoroutine := false, more := [] }
/-- what the written part says of Low, at C, and of its __init__, at fI -/
structure LowTxt (K : Frag) (mg : Str → Option Value) (xN : Str) (C fI : Addr) : Prop where
  gC : mg xN = some (.ref C)
  cls : ∃ nm q N bs bm sn sub ab col dd k0 k1 k2 k3 k5, K.lookup C = some (excClassObj nm q C N bs bm true sn sub ab col dd k0 k1 k2 k3 k5 "ValueError.__new__") ∧ refsVE bm = true
  sa : findIn K (.ref C) "__setattr__" = some (some (.builtin "object.__setattr__"))
  ga : findIn K (.ref C) "__getattribute__" = some (some (.builtin "BaseException.__getattribute__"))
  gg : findIn K (.ref C) "__getattr__" = some none
  noN : findIn K (.ref C) "at" = some none
  iC : findIn K (.ref C) "__init__" = some (some (.ref fI))
  tC : typeIn K (.ref fI) = some (.type "function")
  kC : keepIn K (.ref C) = true
  exC : subIn K (.ref C) (.type "BaseException") = some true
  tyC : typeIn K (.ref C) = some (.type "type")
  hdC : hasDictIn K C = true
  te : exmOne K (.ref C) (.ref C) = some true
  fn : ∃ (oc : Value) (od : Option Addr) (doc pm : Value) (an : Option Addr) (cdv ct : Value) (osl : Array (Option Value)) (p1 p2 q1 q2 q3 q4 : Pos),
    K.lookup fI = some ⟨oc, od, .func (fnOf "__init__" "OverpassesError.__init__" (iA p1 p2) (iB q1 q2 q3 q4) iS .none .none doc pm an cdv ct), osl⟩ ∧ codeIn K cdv "OverpassesError.__init__" = true
theorem one_size (v : Value) : [v].length ≤ sizeLine := by
  rw [sizeLine_eq]
  exact (by decide : 1 ≤ 16777216)
theorem kept_but {K : Frag} {h h' : Heap} {x : Addr} (X : K.In h) (hx : K.lookup x = none) (k : ∀ b o, b ≠ x → h.get? b = some o → h'.get? b = some o) : K.In h' := fun a o e =>
  k a o (fun z => by rw [z, hx] at e; cases e) (X a o e)
theorem ldC {M : Model} {s : Shared} {name : Str} {scope : Scope} {L a : Addr} {cd : Value} {m : Str → Option Value} {x : Str} {pos : Pos} {v : Value} {Q : Value → Shared → Prop} {A : Around} {E : Value → Shared → Prop} (hn : s.heap.Ns L m) (hv : m x = some v) (h : Q v s)
    (hk : scope.kind = .function := by rfl) (hl : (envOfC name scope L a cd).kindOf x = some .local := by rfl) (hd : (x == ("__debug__" : Str)) = false := by decide) :
    wpAny M A (eval (.Name x pos) (envOfC name scope L a cd)) Q E s := wpAny_Name (wpAny_loadName_local hk hl hn hv h) hd
/-- what __init__ leaves of a fresh exception at x -/
structure InitEnd (h h' : Heap) (x C dx t1 : Addr) (v : Value) : Prop where
  keep : ∀ b o, b ≠ x → h.get? b = some o → h'.get? b = some o
  obj : h'.get? x = some { cls := .ref C, dict := some dx, data := .fields #[.ref t1, .none, .none, .none, .bool false, .none] }
  dbig : h.objs.size ≤ dx
  dne : dx ≠ x
  ns : h'.Ns1 dx (fun y => if y = "at" then some v else none)
/-- a made Low -/
structure OwnMade (h h' : Heap) (e C d : Addr) (v : Value) : Prop where
  keep : ∀ b o, h.get? b = some o → h'.get? b = some o
  new : h.objs.size ≤ e
  obj : ∃ oe vs, h'.get? e = some oe ∧ oe.cls = .ref C ∧ oe.dict = some d ∧ oe.data = .fields vs ∧ vs[1]? = some .none
  dbig : h.objs.size ≤ d
  dne : d ≠ e
  ns : h'.Ns1 d (fun y => if y = "at" then some v else none)
section
variable {prog : Program} {w : World} {A : Around} {E : Value → Shared → Prop} {R : Result → Shared → Prop} {s : Shared} {K : Frag} {mg : Str → Option Value} {xN : Str} {C fI : Addr}
theorem low_init (T : LowTxt K mg xN C fI) {x t0 : Addr} {v : Value} (X : K.In s.heap) (hlim : s.heap.NoLimit) (hx : s.heap.get? x = some (excO C t0)) (hnx : K.lookup x = none) (hroom : A.depth < recursionLimit)
    (hq : ∀ h' tk dx, InitEnd s.heap h' x C dx t0 v → R (.ok (.ret .none)) { s with heap := h', toks := tk }) :
    codeAny (model prog w) A (.call (.ref fI) ⟨[.ref x, v], []⟩) R s := by
  obtain ⟨oc, od, doc, pm, an, cdv, ct, osl, p1, p2, q1, q2, q3, q4, ho, hcd⟩ := T.fn
  obtain ⟨nm, q, N, bs, bm, sn, sub, ab, col, dd, k0, k1, k2, k3, k5, hC, hbm⟩ := T.cls
  have hcl : clsIn K C = some { name := nm, bases := bs, mro := .ref C :: bm, ns := N, qualname := q, hasDict := true, slotNames := sn, subclasses := sub, abstract := ab, collection := col, hasDel := false } := by unfold clsIn; rw [hC] <;> rfl
  refine Att.call_fn (binds := [("self", .ref x), ("at", v)]) X hlim ho hcd hroom (BindsTo.of_eq (by first | rfl | with_unfolding_all rfl)) (by first | rfl | decide | with_unfolding_all rfl) (fun s₁ IC => ?_) rfl rfl rfl
  obtain ⟨h₁, tk₁, rfl⟩ := IC.toInCall.same
  have k : ∀ b o, s.heap.get? b = some o → h₁.get? b = some o := IC.toInCall.keep
  have hn := IC.toInCall.ns
  have hxL : s.heap.objs.size ≠ x := Nat.ne_of_gt (Heap.lt_size hx)
  have X₁ : K.In h₁ := X.keeps k
  have hx₁ := k _ _ hx
  -- self.by = by
  show wpAny _ _ (execs _ _) _ _ _
  refine wpAny_execs_cons (plainObj_wpAny_Assign_Attribute ?_)
  refine ldC (v := v) hn (by first | rfl | with_unfolding_all rfl | kernel_rfl) (ldC (v := .ref x) hn (by first | rfl | with_unfolding_all rfl | kernel_rfl) ?_)
  refine set_plain X₁ (ox := excO C t0) (od := none) ⟨hx₁, rfl, rfl, trivial⟩ T.sa ?_
  refine exc_osa X₁ hx₁ hcl (show refsVE (.ref C :: bm) = true from hbm) rfl T.noN (fun h₃ tk₃ dx k₃ dn dne hx₃ hn₃ => ?_)
  show wpAny _ _ (execs _ _) _ _ _
  have z : s.heap.objs.size < h₁.objs.size := hn.lt
  exact wpAny_execs_nil (hq h₃ tk₃ dx ⟨fun b o hb e => k₃ b o hb (k b o e), hx₃, Nat.le_of_lt (Nat.lt_of_lt_of_le z dn), dne, hn₃⟩)
theorem low_made (T : LowTxt K mg xN C fI) {v : Value} (X : K.In s.heap) (hlim : s.heap.NoLimit) (hroom : A.depth + 1 < recursionLimit)
    (hq : ∀ h' tk e d, OwnMade s.heap h' e C d v → R (.ok (.ret (.ref e))) { s with heap := h', toks := tk }) :
    codeAny (model prog w) A (.call (.ref C) ⟨[v], []⟩) R s := by
  obtain ⟨nm, q, N, bs, bm, sn, sub, ab, col, dd, k0, k1, k2, k3, k5, hC, hbm⟩ := T.cls
  obtain ⟨hp, g, dr, tk, os⟩ := s
  have k : ∀ b o, hp.get? b = some o → ((hp.push (kdv_tup [v])).push (excO C hp.objs.size)).get? b = some o := fun b o e => Heap.get?_push_of_some _ (Heap.get?_push_of_some _ e)
  have hget : ((hp.push (kdv_tup [v])).push (excO C hp.objs.size)).get? (hp.objs.size + 1) = some (excO C hp.objs.size) := by heap_get
  have hnx : K.lookup (hp.objs.size + 1) = none := by
    cases e : K.lookup (hp.objs.size + 1) with
    | none => rfl
    | some o =>
      have z : hp.get? (hp.objs.size + 1) = some o := X _ _ e
      exact absurd (Nat.lt_of_succ_lt (Heap.lt_size z)) (Nat.lt_irrefl _)
  refine call_own F.excBase_ValueError (fun X => refsVE_contains X bm hbm) (X _ _ hC) (looks_findIn X T.iC) (fun self => bind_fn X self T.tC) (one_size v) ?_
  refine low_init (s := ⟨(hp.push (kdv_tup [v])).push (excO C hp.objs.size), g, dr, tk, os⟩) T (X.keeps k) (hlim.keeps k) hget hnx ?_ fun h' tk' dx ⟨k', hx, dn, dne, hns⟩ => ?_
  · show A.depth + 1 < recursionLimit
    exact hroom
  · have old : ∀ b o, hp.get? b = some o → h'.get? b = some o := fun b o e => k' b o (Nat.ne_of_lt (Nat.lt_succ_of_lt (Heap.lt_size e))) (k b o e)
    have z : hp.objs.size + 1 + 1 ≤ dx := by
      first
        | (simpa only [Heap.size_push] using dn)
        | exact dn
        | (have q := dn; rw [Heap.size_push, Heap.size_push] at q; exact q)
    exact ⟨rfl, hq h' tk' (hp.objs.size + 1) dx ⟨old, Nat.le_succ _, ⟨_, _, hx, rfl, rfl, rfl, rfl⟩, Nat.le_trans (Nat.le_trans (Nat.le_succ _) (Nat.le_succ _)) z, dne, hns⟩⟩
end
end LowX
end PySem
namespace L2
open PySem PySem.Spec PyProof.Rows
theorem relO_low {v : V} {v' : Value} (r : RelV v v') (f : Str) : RelO (List.lookup f [(("at" : Str), v)]) (if f = "at" then some v' else none) := by
  by_cases hw : f = "at"
  · subst hw
    rw [if_pos rfl]
    have q : List.lookup ("at" : Str) [(("at" : Str), v)] = some v := by simp [List.lookup]
    rw [q]
    exact r
  · rw [if_neg hw]
    have qw : (f == ("at" : Str)) = false := by simpa using hw
    have q2 : List.lookup f [(("at" : Str), v)] = none := by simp [List.lookup, qw]
    rw [q2]
    trivial
section
variable {X : Cx} {xN : Str} {C fI : Addr}
/-- Low(e) -/
def tMkLow (C : Addr) (ta : TA) : St → Hp → XK → Prop := fun σ H Q => ta σ H fun vs H1 => ∃ v, vs = [v] ∧ ∀ d, H1 d = none → Q (.ref C) (some d) (upd H1 d (.xd [(("at" : Str), v)]))
theorem pmk_low {a : Expr} {ta : TA} {p pos : Pos} {k : Nat} (T : PySem.LowX.LowTxt X.K X.mg xN C fI) (hr : Room k X.A) (ha : PA X [a] ta) (hg : Gl X xN := by rfl) (hdb : (xN == ("__debug__" : Str)) = false := by decide)
    (he : starEach (a :: []) X.env = (false, eval a X.env) :: starEach [] X.env := by rfl) (hpl : (backTo pos (starEach [] X.env)).any (·.1) = false := by rfl) :
    PMk X (.Call (.Name xN p) [a] [] pos) (tMkLow C ta) := by
  intro pins s σ H Q I h
  refine wpAny_Call_Name_kw (ld_glob I hg T.gC ?_ hdb)
  refine PySem.W.callWith_K (h₀ := X.base) I.ok.mod.kin T.kC (thn (ha.run pos pins s σ H _ I h) fun us s1 hh => ?_) he hpl
  obtain ⟨vs, H1, I1, r1, v, ev, q1⟩ := hh
  subst ev
  refine ⟨I1.kIn, ?_⟩
  cases r1 with
  | cons rv rn =>
    rename_i v' us'
    cases rn
    show wpAny _ _ (call (.ref C) [v']) _ _ _
    have hlim := I1.nolimit
    obtain ⟨hp, g, dr, tk, os⟩ := s1
    refine wpAny_call (PySem.LowX.low_made T I1.kIn hlim (by have := hr.dp; omega) fun h' tk' e d M => ?_)
    show MkP X pins σ Q (.ref e) ⟨h', g, dr, tk', os⟩
    obtain ⟨oe, fv, hoe, hc, hd, hdat, h1⟩ := M.obj
    have hns := M.ns
    obtain ⟨G', g1, g2⟩ := restrict h' fun b => decide (b ≠ e)
    have gk : ∀ b, b ≠ e → G'.get? b = h'.get? b := fun b hb => g1 b (decide_eq_true hb)
    have ge : G'.get? e = none := g2 e (by simp)
    have old : ∀ b o, hp.get? b = some o → G'.get? b = some o := fun b o q => (gk b (Nat.ne_of_lt (Nat.lt_of_lt_of_le (Heap.lt_size q) M.new))).trans (M.keep b o q)
    have ob : ObjOk X.prog X.w (upd H1 d (.xd [(("at" : Str), v)])) G' d (.xd [(("at" : Str), v)]) :=
      ⟨_, hns.at (fun o q => (gk d M.dne).trans q), fun f => relO_low rv f⟩
    have J : Inv X pins σ (upd H1 d (.xd [(("at" : Str), v)])) ⟨G', g, dr, tk', os⟩ := I1.laid (t' := tk') old M.dbig ob
    refine ⟨e, oe, fv, ⟨G', g, dr, tk', os⟩, _, .ref C, some d, rfl, J, fun b o q => ?_, ge, hoe, ⟨hc, hd⟩, hdat, h1, ?_, rfl, I1.bare, raises_own T.exC T.tyC, q1 d (I1.hok.fresh M.dbig)⟩
    · by_cases hb : b = e
      · have q' : G'.get? b = some o := q
        rw [hb, ge] at q'; cases q'
      · exact (gk b hb).symm.trans q
    · rw [upd_ne (Ne.symm M.dne)]
      exact I1.hok.fresh M.new
/-- raise Low(e) -/
def tRaiseLow (C : Addr) (W : WX) (ta : TA) : TS := fun _ σ H => tMkLow C ta σ H fun cls d H' => W cls d σ H'
theorem ps_raiseLow {a : Expr} {ta : TA} {W : WX} {p pos pos2 : Pos} {k : Nat} (hc : X.calm = true) (T : PySem.LowX.LowTxt X.K X.mg xN C fI) (hr : Room k X.A) (tk : Takes X W) (ha : PA X [a] ta) (hg : Gl X xN := by rfl) (hdb : (xN == ("__debug__" : Str)) = false := by decide)
    (he : starEach (a :: []) X.env = (false, eval a X.env) :: starEach [] X.env := by rfl) (hpl : (backTo pos (starEach [] X.env)).any (·.1) = false := by rfl) :
    PS X (.Raise (some (.Call (.Name xN p) [a] [] pos)) none pos2) (tRaiseLow C W ta) := ps_raise hc tk (pmk_low T hr ha hg hdb he hpl)
/-- low.by, low the exception that the suite holds (at a; its class cls, its dict d) -/
def tByLow (C : Addr) (a : Addr) (cls : Value) (d : Option Addr) (te : TE) : TE := fun σ H Q => te σ H fun x H1 => x = .ref a ∧ cls = .ref C ∧ ∃ (dd : Addr) (v : V), d = some dd ∧ H1 dd = some (.xd [(("at" : Str), v)]) ∧ Q v H1
theorem pe_byLow {a : Addr} {oe : Obj} {cls : Value} {d : Option Addr} {pn : List (Addr × Obj)} {e : Expr} {te : TE} {pos : Pos} (T : PySem.LowX.LowTxt X.K X.mg xN C fI) (hz : Zc cls d oe) (hf : ∃ vs, oe.data = .fields vs) (he : PE (X.suite a ((a, oe) :: pn)) e te)
    (hb : attributeBase e "at" X.env (eval e X.env) = eval e X.env := by rfl) :
    PE (X.suite a ((a, oe) :: pn)) (.Attribute e "at" pos) (tByLow C a cls d te) := by
  refine ⟨fun pins s σ H Q I h => ?_⟩
  refine attr_of hb (thn (he.run pins s σ H _ I h) fun u s1 hh => ?_)
  obtain ⟨x, H1, I1, rx, ex, ec, dd, v, ed, ea, q⟩ := hh
  subst ex
  obtain rfl : u = Value.ref a := rx
  subst ec
  subst ed
  obtain ⟨ha, _⟩ := I1.pin (a, oe) (List.mem_append_left _ List.mem_cons_self)
  obtain ⟨vs, hd⟩ := hf
  have hx : ObjOk X.prog X.w H1 s1.heap dd (.xd [(("at" : Str), v)]) := I1.hok dd _ ea
  obtain ⟨mA, hns, hr⟩ := hx
  obtain ⟨od, ho, hl⟩ := lookIn_ns hns
  have l : List.lookup ("at" : Str) [(("at" : Str), v)] = some v := by simp [List.lookup]
  obtain ⟨u, hu, ru⟩ := RelO.some_of (v := v) (o := mA "at") (by rw [← l]; exact hr "at")
  have J : PySem.W.InstAt s1.heap a oe C (some od) := ⟨ha, hz.1, by unfold PySem.W.notCls; rw [hd] <;> rfl, by rw [hz.2]; exact ho⟩
  exact HandSPX.exc_get I1.kIn J T.ga T.gg T.exC (PySem.W.findObj_own T.hdC T.noN rfl (by rw [hl, hu])) (handed_of ru) ⟨v, H1, I1.tok _, ru, q⟩
end
end L2

namespace L2
open PySem PySem.Spec PyProof.Rows
/-- an if whose test is known -/
theorem if_true_of {c : Bool} {A B : Prop} (hc : c = true) (h : A) : if c = true then A else B := by
  rw [if_pos hc]
  exact h
theorem if_false_of {c : Bool} {A B : Prop} (hc : c = false) (h : B) : if c = true then A else B := by
  rw [hc, if_neg Bool.false_ne_true]
  exact h
end L2
namespace Ovc
open PySem PySem.Spec PyProof.Rows L2
/-! ### try with several clauses, each with a name or without one -/
/-- the ends of a suite whose name's slot is emptied behind it -/
def endsAs (i : Nat) (D : Ends) : Ends := { nx := fun σ H => D.nx (σ.set i none) H, rt := D.rt, bk := fun σ H => D.bk (σ.set i none) H, ct := fun σ H => D.ct (σ.set i none) H }
abbrev Clause := Value × Option Nat × (Addr → Value → Option Addr → TS)
def runClause (q : Clause) (a : Addr) (cls : Value) (d : Option Addr) (D : Ends) (σ : L2.St) (H : Hp) : Prop :=
  match q.2.1 with
  | none => q.2.2 a cls d D σ H
  | some i => q.2.2 a cls d (endsAs i D) (σ.set i (some (.ref a))) H
def wClauses (K : PySem.W.Frag) (Wout : WX) (D : Ends) : List Clause → WX
  | [] => Wout
  | q :: r => fun cls d σ H => ∃ b, PySem.W.exmOne K cls q.1 = some b ∧ (b = true → ∀ a, H a = none → runClause q a cls d D σ H) ∧ (b = false → wClauses K Wout D r cls d σ H)
inductive ClOk (X : Cx) : List ExceptHandler → List Clause → Prop
  | nil : ClOk X [] []
  | bare {x : Str} {c : Value} {ts : Addr → Value → Option Addr → TS} {st₀ : Stmt} {sts : List Stmt} {p1 p2 : Pos} {hds : List ExceptHandler} {l : List Clause} (hc : Names X x c)
      (suite : ∀ (a : Addr) (ob : Obj) (cls : Value) (d : Option Addr) (pn : List (Addr × Obj)), Zc cls d ob → (∃ fv, ob.data = .fields fv) → PSs (X.suite a ((a, ob) :: pn)) (st₀ :: sts) (ts a cls d)) (more : ClOk X hds l) :
      ClOk X (.ExceptHandler (some (.Name x p1)) none (st₀ :: sts) p2 :: hds) ((c, none, ts) :: l)
  | named {x n : Str} {c : Value} {i : Nat} {ts : Addr → Value → Option Addr → TS} {st₀ : Stmt} {sts : List Stmt} {p1 p2 : Pos} {hds : List ExceptHandler} {l : List Clause} (hN : X.N.Nodup) (hi : X.N[i]? = some n) (hln : X.env.kindOf n = some .local) (hc : Names X x c)
      (suite : ∀ (a : Addr) (ob : Obj) (cls : Value) (d : Option Addr) (pn : List (Addr × Obj)), Zc cls d ob → (∃ fv, ob.data = .fields fv) → PSs (X.suite a ((a, ob) :: pn)) (st₀ :: sts) (ts a cls d)) (more : ClOk X hds l) :
      ClOk X (.ExceptHandler (some (.Name x p1)) (some n) (st₀ :: sts) p2 :: hds) ((c, some i, ts) :: l)
section
variable {X : Cx} {body : List Stmt} {hd₀ : ExceptHandler} {hds : List ExceptHandler} {l : List Clause} {pos : Pos} {tb : WX → TS} {Wout : WX}
theorem ps_try_cl (hsk : X.stack = X.env :: X.outer) (hfm : X.env.frame = some X.env.locals) (tk : Takes X Wout)
    (hb : ∀ (W : WX) (pn : List (Addr × Obj)) (xe : Value → Shared → Prop), Takes (X.tr pn xe) W → PassesOwn (model X.prog X.w) X.A X.env xe → PSs (X.tr pn xe) body (tb W))
    (hcl : ClOk X (hd₀ :: hds) l) : PS X (.Try body (hd₀ :: hds) [] [] pos) (fun D σ H => tb (wClauses X.K Wout D l) D σ H) := by
  refine ⟨fun pins s σ H D I0 hr => ?_⟩
  have okX := I0.ok
  have frA : X.A.frames = some (X.env :: X.outer) := by rw [okX.frames, hsk]
  refine wpAny_Try_except (wpAny_mono ((hb (wClauses X.K Wout D l) (X.pn ++ pins) (fun e t₁ => wpAny (model X.prog X.w) X.A (noteFrame e X.env) (fun _ t₂ => wpAny (model X.prog X.w) X.A (setFlight e none) (fun _ t₃ =>
    wpAny (model X.prog X.w) X.A (handleBy e X.env (hd₀ :: hds)) (SP X pins D) X.xe t₃) X.xe t₂) X.xe t₁) (fun u t xx => ?caught) PassesOwn.looking).run [] s σ H D (I0.toTry _) hr) (fun fl t hsp => ?after) (fun e t he => he))
  case after =>
    cases fl with
    | next => exact let ⟨σ1, H1, I1, z⟩ := hsp; wpAny_execs_nil ⟨σ1, H1, I1.ofTry okX, z⟩
    | brk => exact let ⟨σ1, H1, I1, z⟩ := hsp; ⟨σ1, H1, I1.ofTry okX, z⟩
    | cont => exact let ⟨σ1, H1, I1, z⟩ := hsp; ⟨σ1, H1, I1.ofTry okX, z⟩
    | ret u => exact let ⟨v, σ1, H1, I1, r, z⟩ := hsp; ⟨v, σ1, H1, I1.ofTry okX, r, z⟩
  case caught =>
    obtain ⟨a, B, sI, pins1, σ1, H1, cls, d, rfl, I1', nb, up, sky, na, os, ag, wish⟩ := xx
    have I1 : Inv X pins σ1 H1 sI := I1'.ofTry okX
    have skyF : Sky B (X.env :: X.outer) a (Zc cls d) X.env.locals t.heap := by rw [← hsk]; exact sky
    refine Sky.land Zc.steady frA hfm skyF fun h3 fl3 up3 => ?_
    have I3 : Inv X pins σ1 H1 { t with heap := h3 } := I1.landed nb fl3.1 (up.trans up3) os ag
    obtain ⟨ob3, fv3, at3, z3, dat3⟩ := fl3.there
    have off : a ∉ frs (X.env :: X.outer) := fun hm => by
      obtain ⟨_, o', e', hnf⟩ := fl3.2.2.1.mem hm
      rw [at3] at e'
      cases e'
      exact hnf _ dat3
    have offL : a ≠ X.env.locals := fun z => off (List.mem_filterMap.mpr ⟨X.env, List.mem_cons_self, by rw [hfm, z]⟩)
    have offF : a ∉ X.fs := fun hm => let ⟨en, hen, z⟩ := List.mem_filterMap.mp hm; off (List.mem_filterMap.mpr ⟨en, List.mem_cons_of_mem _ hen, z⟩)
    have SU3 := I3.suite at3 dat3 na offL offF
    have test : ∀ {x : Str} {c : Value} {p1 : Pos} {Q : Value → Shared → Prop} {E : Value → Shared → Prop}, Names X x c → Q c { t with heap := h3 } →
        wpAny (model X.prog X.w) (X.A.mark (some (.ref a))) (eval (.Name x p1) X.env) Q E { t with heap := h3 } := fun {x c p1 Q E} hc z => by
      obtain ⟨hg, hdb, hm | ⟨hm, hv, hne⟩⟩ := hc
      · exact ld_glob (X := X.suite a ((a, ob3) :: (X.pn ++ pins))) SU3 hg hm z hdb
      · exact ld_blt (X := X.suite a ((a, ob3) :: (X.pn ++ pins))) SU3 hg hm hv z hne hdb
    have looks : PySem.W.Looks (model X.prog X.w) h3 (typeOf (.ref a)) cls := fun A Q E s1 keep z => wpAny_typeOf_ref (keep _ _ at3) (by rw [z3.1]; exact z)
    suffices go : ∀ {hs1 : List ExceptHandler} {l1 : List Clause}, ClOk X hs1 l1 → wClauses X.K Wout D l1 cls d σ1 H1 → wpAny (model X.prog X.w) X.A (handleBy (.ref a) X.env hs1) (SP X pins D) X.xe { t with heap := h3 } from go hcl wish
    intro hs1 l1 hk
    induction hk with
    | nil =>
      intro wo
      refine wpAny_handleBy_nil ?_
      obtain ⟨k1, k2, k3, ob, fv, T, oT, tv, heT, hzT, hdT, hT1, hTr⟩ := id fl3
      unfold PySem.passOn
      refine wpAny_bind (wpAny_field heT hdT hT1 ?_)
      rw [if_neg (show ¬ (Value.ref T == Value.none) = true from by simp)]
      have fin : wpAny (model X.prog X.w) X.A (setFlight (.ref a) X.env.frame) (fun _ t4 => wpAny (model X.prog X.w) X.A (throw (.ref a) : Sem Flow) (SP X pins D) X.xe t4) X.xe { t with heap := h3 } := by
        rw [hfm]
        exact HandSPX.setFlight_upZ fl3 fun h4 held4 up4 => wpAny_throw (tk _ _ ⟨a, B, sI, pins, σ1, H1, cls, d, rfl, I1, nb, (up.trans up3).trans up4, .inr (.inr (by rw [hsk]; exact held4)), na, os, ag, wo⟩)
      first | exact wpAny_bind (wpAny_pure (wpAny_bind fin)) | exact wpAny_bind fin
    | @bare x c ts st₀ sts p1 p2 hs2 l2 hc suite more ih =>
      rintro ⟨b, hb1, yes, no⟩
      refine wpAny_handleBy_cons (codeAny_handlers_test (test hc ((PySem.W.exm_one (M := model X.prog X.w) I3.kIn looks hb1).here ?_))) (by intro q; cases q)
      cases b with
      | false => exact ih (no rfl)
      | true =>
        refine codeAny_handlers_suite (HandSPX.lands_againZ fl3 fun h4 fl4 up4 => ?_)
        have I4 : Inv X pins σ1 H1 { t with heap := h4 } := I1.landed nb fl4.1 ((up.trans up3).trans up4) os ag
        obtain ⟨ob4, fv4, at4, z4, dat4⟩ := fl4.there
        refine wpAny_mono ((suite a ob4 cls d (X.pn ++ pins) z4 ⟨_, dat4⟩).run [] _ _ H1 _ (I4.suite at4 dat4 na offL offF) (yes rfl a na)) (fun f t6 hsp => ?_) (fun _ _ z => False.elim z)
        cases f with
        | next => exact let ⟨σ6, H6, S6, z6⟩ := hsp; ⟨_, _, S6.unsuite okX, z6⟩
        | brk => exact let ⟨σ6, H6, S6, z6⟩ := hsp; ⟨_, _, S6.unsuite okX, z6⟩
        | cont => exact let ⟨σ6, H6, S6, z6⟩ := hsp; ⟨_, _, S6.unsuite okX, z6⟩
        | ret u => exact let ⟨v6, σ6, H6, S6, r6, z6⟩ := hsp; ⟨_, _, _, S6.unsuite okX, r6, z6⟩
    | @named x n c i ts st₀ sts p1 p2 hs2 l2 hN hi hln hc suite more ih =>
      rintro ⟨b, hb1, yes, no⟩
      refine wpAny_handleBy_cons (codeAny_handlers_test (test hc ((PySem.W.exm_one (M := model X.prog X.w) I3.kIn looks hb1).here ?_))) (by intro q; cases q)
      cases b with
      | false => exact ih (no rfl)
      | true =>
        refine codeAny_handlers_suite_as (HandSPX.lands_againZ fl3 fun h4 fl4 up4 => ?_)
        have I4 : Inv X pins σ1 H1 { t with heap := h4 } := I1.landed nb fl4.1 ((up.trans up3).trans up4) os ag
        obtain ⟨ob4, fv4, at4, z4, dat4⟩ := fl4.there
        refine store_ok (X := X.suite a ((a, ob4) :: (X.pn ++ pins))) (v := .ref a) (I4.suite at4 dat4 na offL offF) hN hi (.inl hln) rfl (fun t5 S5 => ?_) (.inr hln)
        refine wpAny_mono ((suite a ob4 cls d (X.pn ++ pins) z4 ⟨_, dat4⟩).run [] t5 _ H1 _ S5 (yes rfl a na)) (fun f t6 hsp => ?_) (fun _ _ z => False.elim z)
        have off6 : ∀ {σ6 : L2.St} {H6 : Hp} {Q : Shared → Prop}, Inv (X.suite a ((a, ob4) :: (X.pn ++ pins))) [] σ6 H6 t6 → (∀ t7, Inv X pins (σ6.set i none) H6 t7 → Q t7) →
            wpAny (model X.prog X.w) X.A (do bindName X.env n .none; unbindBehindTheSuite X.env n p2) (fun _ t7 => Q t7) X.xe t6 := fun {σ6 H6 Q} S6 hq => gone_ok (S6.unsuite okX) hN hi hln hq
        cases f with
        | next => exact let ⟨σ6, H6, S6, z6⟩ := hsp; off6 S6 fun t7 I7 => ⟨_, _, I7, z6⟩
        | brk => exact let ⟨σ6, H6, S6, z6⟩ := hsp; off6 S6 fun t7 I7 => ⟨_, _, I7, z6⟩
        | cont => exact let ⟨σ6, H6, S6, z6⟩ := hsp; off6 S6 fun t7 I7 => ⟨_, _, I7, z6⟩
        | ret u => exact let ⟨v6, σ6, H6, S6, r6, z6⟩ := hsp; off6 S6 fun t7 I7 => ⟨_, _, _, I7, r6, z6⟩
end
/-! ### a < b < c < d as a test -/
def tTest3 (r1 r2 r3 : R2) (ta tb tc td : TE) : TT := fun σ H Q => ta σ H fun x H1 => tb σ H1 fun y H2 => r1 x y H2 fun z H3 => ∃ k, z = .bl k ∧
  (if k = true then tc σ H3 fun u H4 => r2 y u H4 fun z2 H5 => ∃ k2, z2 = .bl k2 ∧ (if k2 = true then td σ H5 fun v H6 => r3 u v H6 fun z3 H7 => ∃ k3, z3 = .bl k3 ∧ Q k3 H7 else Q false H5) else Q false H3)
theorem pt_chain3 {X : Cx} {a b c d : Expr} {ta tb tc td : TE} {o1 o2 o3 : CmpOp} {r1 r2 r3 : R2} {pos : Pos} (h1 : OpR X (compareOp o1) r1) (h2 : OpR X (compareOp o2) r2) (h3 : OpR X (compareOp o3) r3) (ha : PE X a ta) (hb : PE X b tb) (hc : PE X c tc) (hd : PE X d td)
    (hm : lastMarks [o1, o2, o3] [b, c, d] = false := by with_unfolding_all rfl) : PT X (.Compare a [o1, o2, o3] [b, c, d] pos) (tTest3 r1 r2 r3 ta tb tc td) := by
  refine ⟨fun pins s σ H Q I0 hr => isTrue_chain (thn (ha.run pins s σ H _ I0 hr) fun v1 s1 ⟨x, H1, I1, e1, q1⟩ => test_link (thn (hb.run pins s1 σ H1 _ I1 q1) fun v2 s2 ⟨y, H2, I2, e2, q2⟩ =>
    thn (h1 pins s2 σ H2 x y v1 v2 _ I2 e1 e2 q2) fun v3 s3 ⟨z, H3, I3, e3, k, ez, q3⟩ => ?_)) hm⟩
  subst ez
  cases e3
  refine wpAny_truthy_bool ?_
  cases k with
  | false => exact ite_ff ⟨H3, I3, q3⟩
  | true =>
    refine ite_tt (test_link (thn (hc.run pins s3 σ H3 _ I3 q3) fun v4 s4 ⟨u, H4, I4, e4, q4⟩ => thn (h2 pins s4 σ H4 y u v2 v4 _ I4 e2 e4 q4) fun v5 s5 ⟨z2, H5, I5, e5, k2, ez2, q5⟩ => ?_))
    subst ez2
    cases e5
    refine wpAny_truthy_bool ?_
    cases k2 with
    | false => exact ite_ff ⟨H5, I5, q5⟩
    | true =>
      refine ite_tt (test_last (thn (hd.run pins s5 σ H5 _ I5 q5) fun v6 s6 ⟨v, H6, I6, e6, q6⟩ => thn (h3 pins s6 σ H6 u v v4 v6 _ I6 e4 e6 q6) fun v7 s7 ⟨z3, H7, I7, e7, k3, ez3, q7⟩ => ?_))
      subst ez3
      cases e7
      exact wpAny_truthy_bool ⟨H7, I7, q7⟩
theorem an_chain3 {σ : L2.St} {H : Hp} {g1 g2 g3 : Int → Int → Bool} {ta tb tc td : TE} {p q r s : Int} (ha : Vl ta σ H (.int p)) (hb : Vl tb σ H (.int q)) (hc : Vl tc σ H (.int r)) (hd : Vl td σ H (.int s)) :
    An (tTest3 (rI0 fun i j => .bl (g1 i j)) (rI0 fun i j => .bl (g2 i j)) (rI0 fun i j => .bl (g3 i j)) ta tb tc td) σ H (g1 p q && (g2 q r && g3 r s)) := fun Q k =>
  ha _ (hb _ ⟨p, q, rfl, rfl, _, rfl, by
    show if g1 p q = true then _ else _
    revert k
    cases g1 p q with
    | false => exact fun k => iteF k
    | true => exact fun k => iteT (hc _ ⟨q, r, rfl, rfl, _, rfl, by
        show if g2 q r = true then _ else _
        revert k
        cases g2 q r with
        | false => exact fun k => iteF k
        | true => exact fun k => iteT (hd _ ⟨r, s, rfl, rfl, _, rfl, k⟩)⟩)⟩)
/-! ### tests that make objects on their way -/
def Ax (t : TT) (σ : L2.St) (H : Hp) (b : Bool) : Prop := ∀ Q : Bool → Hp → Prop, (∀ H', Same H H' → Q b H') → t σ H Q
section
variable {K : PySem.W.Frag} {σ : L2.St} {H : Hp} {t u : TT} {D : Ends} {tz tu tw : TS} {ta tb tc : TE}
theorem ax_of {b : Bool} (h : An t σ H b) : Ax t σ H b := fun Q q => h Q (q H (Same.refl H))
theorem ax_not {b : Bool} (h : Ax t σ H b) : Ax (tNot t) σ H (!b) := fun Q q => h _ fun H' s => q H' s
theorem ax_and {k m : Bool} (h1 : Ax t σ H k) (h2 : k = true → ∀ H', Same H H' → Ax u σ H' m) : Ax (tAnd t u) σ H (k && m) := fun Q q => h1 _ fun H1 s1 => by
  cases k with
  | true => exact iteT (h2 rfl H1 s1 _ fun H2 s2 => q H2 (s1.trans s2))
  | false => exact iteF (q H1 s1)
theorem ax_or {k m : Bool} (h1 : Ax t σ H k) (h2 : k = false → ∀ H', Same H H' → Ax u σ H' m) : Ax (tOr t u) σ H (k || m) := fun Q q => h1 _ fun H1 s1 => by
  cases k with
  | true => exact iteT (q H1 s1)
  | false => exact iteF (h2 rfl H1 s1 _ fun H2 s2 => q H2 (s1.trans s2))
theorem Ax.is {k m : Bool} (h : Ax t σ H k) (e : k = m) : Ax t σ H m := e ▸ h
theorem g_ifx {b : Bool} (h : Ax t σ H b) (h1 : b = true → ∀ H', Same H H' → tz D σ H') (h2 : b = false → ∀ H', Same H H' → tu D σ H') : tIfS t tz tu D σ H := h _ fun H' s => by
  cases b with
  | true => exact iteT (h1 rfl H' s)
  | false => exact iteF (h2 rfl H' s)
theorem q_ifx {b : Bool} (h : Ax t σ H b) (h1 : b = true → ∀ H', Same H H' → tz { D with nx := tw D } σ H') (h2 : b = false → ∀ H', Same H H' → tu { D with nx := tw D } σ H') : tSeq (tIfS t tz tu) tw D σ H := g_ifx (D := { D with nx := tw D }) h h1 h2
theorem q_whenx {b : Bool} (h : Ax t σ H b) (h1 : b = true → ∀ H', Same H H' → tz { D with nx := tw D } σ H') (h2 : b = false → ∀ H', Same H H' → tw D σ H') : tSeq (tIfS t tz tNext) tw D σ H := g_ifx (D := { D with nx := tw D }) h h1 h2
theorem g_whenx {b : Bool} (h : Ax t σ H b) (h1 : b = true → ∀ H', Same H H' → tz D σ H') (h2 : b = false → ∀ H', Same H H' → D.nx σ H') : tIfS t tz tNext D σ H := g_ifx h h1 h2
theorem lexAt2 {a b c d : Int} : Ob.lexAt (fun j => decide ([a, b].getD j 0 = [c, d].getD j 0)) (fun j => decide ([a, b].getD j 0 ≤ [c, d].getD j 0)) (decide ([a, b].length ≤ [c, d].length)) 0 (min [a, b].length [c, d].length) = decide (a < c ∨ (a = c ∧ b ≤ d)) := by
  show (if decide (a = c) = true then (if decide (b = d) = true then decide (2 ≤ 2) else decide (b ≤ d)) else decide (a ≤ c)) = _
  by_cases h1 : a = c
  · rw [if_pos (decide_eq_true h1)]
    by_cases h2 : b = d
    · rw [if_pos (decide_eq_true h2), decide_eq_true (Nat.le_refl 2), decide_eq_true (.inr ⟨h1, by omega⟩)]
    · rw [if_neg (fun h => h2 (of_decide_eq_true h)), Bool.eq_iff_iff]
      simp only [decide_eq_true_eq]
      omega
  · rw [if_neg (fun h => h1 (of_decide_eq_true h)), Bool.eq_iff_iff]
    simp only [decide_eq_true_eq]
    omega
/-- (a, b) <= t, t a tuple of two ints -/
theorem ax_leT {a b c d : Int} {T : Addr} (ha : Vl ta σ H (.int a)) (hb : Vl tb σ H (.int b)) (hc : ∀ H', Same H H' → Vl tc σ H' (.ref T)) (hT : SqT K H T [.int c, .int d]) : Ax (tTest (tOp (rLeT K) (tTup (tCons ta (tCons tb tNil))) tc)) σ H (decide (a < c ∨ (a = c ∧ b ≤ d))) := fun Q q =>
  ha _ (hb _ ⟨by show 2 ≤ sizeLine; decide, fun S nS => hc _ (same_upd nS) _ ⟨S, T, [a, b], [c, d], rfl, rfl, .of upd_same, seqT (same_upd nS) hT, _, rfl, by
    rw [lexAt2]
    exact q _ (same_upd nS)⟩⟩)
/-- (a, b) == (c, d), the tuples made on the way -/
theorem ax_eqTT {td : TE} {p q r s : Int} (ha : ∀ H', Same H H' → Vl ta σ H' (.int p)) (hb : ∀ H', Same H H' → Vl tb σ H' (.int q)) (hc : ∀ H', Same H H' → Vl tc σ H' (.int r)) (hd : ∀ H', Same H H' → Vl td σ H' (.int s)) :
    Ax (tTest (tOp (rEqD K) (tTup (tCons ta (tCons tb tNil))) (tTup (tCons tc (tCons td tNil))))) σ H (decide (p = r ∧ q = s)) := fun Q k =>
  ha H (Same.refl H) _ (hb H (Same.refl H) _ ⟨by show 2 ≤ sizeLine; decide, fun T nT => by
    have s1 : Same H (upd H T (.tup [.int p, .int q])) := same_upd nT
    refine hc _ s1 _ (hd _ s1 _ ⟨by show 2 ≤ sizeLine; decide, fun S nS => ?_⟩)
    have s2 : Same (upd H T (.tup [.int p, .int q])) (upd (upd H T (.tup [.int p, .int q])) S (.tup [.int r, .int s])) := same_upd nS
    refine ⟨.tuple [.int p, .int q], .tuple [.int r, .int s], .tup (.of (s2 _ _ upd_same)) (.cons (.int _) (.cons (.int _) .nil)), .tup (.of upd_same) (.cons (.int _) (.cons (.int _) .nil)), by rfl, by rfl, _, rfl, ?_⟩
    rw [show PyData.eqv (.tuple [.int p, .int q]) (.tuple [.int r, .int s]) = decide (p = r ∧ q = s) by
      show (p == r && (q == s && true)) = _
      rw [Bool.and_true, Bool.eq_iff_iff]
      simp]
    exact k _ (s1.trans s2)⟩)
/-- t == (c, d), t a tuple of two ints -/
theorem ax_eqRT {p q r s : Int} {T : Addr} (ha : Vl ta σ H (.ref T)) (hT : SqT K H T [.int p, .int q]) (hb : Vl tb σ H (.int r)) (hc : Vl tc σ H (.int s)) :
    Ax (tTest (tOp (rEqD K) ta (tTup (tCons tb (tCons tc tNil))))) σ H (decide (p = r ∧ q = s)) := fun Q k =>
  ha _ (hb _ (hc _ ⟨by show 2 ≤ sizeLine; decide, fun S nS => by
    have s2 : Same H (upd H S (.tup [.int r, .int s])) := same_upd nS
    refine ⟨.tuple [.int p, .int q], .tuple [.int r, .int s], .tup (seqT s2 hT) (.cons (.int _) (.cons (.int _) .nil)), .tup (.of upd_same) (.cons (.int _) (.cons (.int _) .nil)), by rfl, by rfl, _, rfl, ?_⟩
    rw [show PyData.eqv (.tuple [.int p, .int q]) (.tuple [.int r, .int s]) = decide (p = r ∧ q = s) by
      show (p == r && (q == s && true)) = _
      rw [Bool.and_true, Bool.eq_iff_iff]
      simp]
    exact k _ s2⟩))
/-- (a, b) == t, t a tuple of two ints -/
theorem ax_eqTR {p q r s : Int} {T : Addr} (ha : Vl ta σ H (.int p)) (hb : Vl tb σ H (.int q)) (hc : ∀ H', Same H H' → Vl tc σ H' (.ref T)) (hT : SqT K H T [.int r, .int s]) :
    Ax (tTest (tOp (rEqD K) (tTup (tCons ta (tCons tb tNil))) tc)) σ H (decide (p = r ∧ q = s)) := fun Q k =>
  ha _ (hb _ ⟨by show 2 ≤ sizeLine; decide, fun S nS => by
    have s2 : Same H (upd H S (.tup [.int p, .int q])) := same_upd nS
    refine hc _ s2 _ ⟨.tuple [.int p, .int q], .tuple [.int r, .int s], .tup (.of upd_same) (.cons (.int _) (.cons (.int _) .nil)), .tup (seqT s2 hT) (.cons (.int _) (.cons (.int _) .nil)), by rfl, by rfl, _, rfl, ?_⟩
    rw [show PyData.eqv (.tuple [.int p, .int q]) (.tuple [.int r, .int s]) = decide (p = r ∧ q = s) by
      show (p == r && (q == s && true)) = _
      rw [Bool.and_true, Bool.eq_iff_iff]
      simp]
    exact k _ s2⟩)
/-- assignments of a new tuple -/
theorem q_asgTup {i : Nat} {tr : TA} {xs : List V} (h : Va tr σ H xs) (hz : xs.length ≤ sizeLine) (k : ∀ T, H T = none → tw D (σ.set i (some (.ref T))) (upd H T (.tup xs))) : tSeq (tAsg (tTup tr) (gName i)) tw D σ H := h _ ⟨hz, k⟩
theorem g_asgTup {i : Nat} {tr : TA} {xs : List V} (h : Va tr σ H xs) (hz : xs.length ≤ sizeLine) (k : ∀ T, H T = none → D.nx (σ.set i (some (.ref T))) (upd H T (.tup xs))) : tAsg (tTup tr) (gName i) D σ H := h _ ⟨hz, k⟩
end
/-! ### defs that may raise, by their names -/
structure KalX (P : Program) (w : World) (K : PySem.W.Frag) (mg : Str → Option Value) (base : Heap) (k : Nat) (x : Str) (ps : List Str) (sp : Sp) : Prop where
  ex : ∃ (f : Addr) (fd : FuncData), FnOk P w K mg base (L2.CX P w) k f fd ps sp ∧ mg x = some (.ref f) ∧ PySem.W.keepIn K (.ref f) = true ∧ Binds K fd ps []
theorem kalx_of {P : Program} {w : World} {K : PySem.W.Frag} {mg : Str → Option Value} {base : Heap} {k : Nat} {x : Str} {st : Stmt} {ps : List Str} {sp : Sp} (A : Df K mg x st ps)
    (ok : ∀ f fd, Fun K x x st f fd → FnOk P w K mg base (L2.CX P w) k f fd ps sp) : KalX P w K mg base k x ps sp := by
  obtain ⟨f, fd, F, g, b⟩ := A.ex
  exact ⟨f, fd, ok f fd F, g, F.kp, b⟩
/-- called in a def that may raise -/
theorem pe_kx {X : Cx} {k j : Nat} {x : Str} {ps : List Str} {sp : Sp} {p pos : Pos} {e : Expr} {es : List Expr} {t : TA} {E : XK} (c : KalX X.prog X.w X.K X.mg X.base k x ps sp) (hr : Room j X.A) (hk : k ≤ j) (hg : Gl X x) (tk : Takes X (fun cls d _ H => E cls d H)) (ha : PA X (e :: es) t)
    (hdb : (x == ("__debug__" : Str)) = false := by decide) (he : starEach (e :: es) X.env = (false, eval e X.env) :: starEach es X.env := by rfl) (hpl : (backTo pos (starEach es X.env)).any (·.1) = false := by rfl) :
    PE X (.Call (.Name x p) (e :: es) [] pos) (tCall sp [] E t) := by
  obtain ⟨f, fd, F, hm, kp, b⟩ := c.ex
  exact pe_call F (hr.mono hk) hg hm kp b .nil (passes_call tk fun _ _ _ _ h => h) ha hdb he hpl
/-- called within a try -/
theorem pe_ks {X : Cx} {k j : Nat} {x : Str} {ps : List Str} {sp : Sp} {p pos : Pos} {e : Expr} {es : List Expr} {t : TA} {W : WX} (c : KalX X.prog X.w X.K X.mg X.base k x ps sp) (hr : Room j X.A) (hk : k ≤ j) (hg : Gl X x) (tk : Takes X W) (ha : PA X (e :: es) t)
    (hdb : (x == ("__debug__" : Str)) = false := by decide) (he : starEach (e :: es) X.env = (false, eval e X.env) :: starEach es X.env := by rfl) (hpl : (backTo pos (starEach es X.env)).any (·.1) = false := by rfl) :
    PE X (.Call (.Name x p) (e :: es) [] pos) (tCallS sp (WE W) t) := by
  obtain ⟨f, fd, F, hm, kp, b⟩ := c.ex
  exact pe_callS F (hr.mono hk) hg hm kp b (fun σ => passAt tk σ) ha hdb he hpl
/-! ### for link in links -/
section
variable {K : PySem.W.Frag} {σ : L2.St} {H : Hp} {a : Addr} {D : Ends} {tz tw : TS}
theorem g_forLk {j : Nat} {Hb : Hp} {xs : List V} {ls : List Lnk} {tl : TE} (h : Vl tl σ H (.ref a)) (hx : SqL K Hb a xs) (hL : DpAll K Hb xs (ls.map lnkD)) (hb : Same Hb H) (Pv : Nat → L2.St → Hp → Prop) (h0 : Pv 0 σ H) (hl : ∀ i σ' H', Pv i σ' H' → Same Hb H')
    (hs : ∀ (i : Nat) l t σ H, ls[i]? = some l → SqT K Hb t (lnkV l) → Pv i σ H → tz { D with nx := Pv (i + 1), ct := Pv (i + 1), bk := D.nx } (σ.set j (some (.ref t))) H) (hd : ∀ σ H, Pv ls.length σ H → D.nx σ H) :
    tFor (iList K tl) (gName j) tz D σ H := h _ ⟨a, rfl, ⟨_, hb.seq hx⟩, for_list (xs := xs) Pv h0 (fun i σ H _ p => (hl i σ H p).seq hx) (fun i x σ H hi p => by
      have e := DpAll.len hL
      rw [List.length_map] at e
      have hlt := (List.getElem?_eq_some_iff.mp hi).1
      have hg : ls[i]? = some ls[i] := List.getElem?_eq_getElem (by omega)
      obtain ⟨v, hv, dv⟩ := DpAll.get (i := i) (d := lnkD ls[i]) hL (by
        rw [List.getElem?_map, hg]
        rfl)
      cases hi.symm.trans hv
      obtain ⟨t, rfl, ht⟩ := Dp.lnk_inv dv
      exact hs i _ t σ H hg ht p) (fun σ H p => by
      have e := DpAll.len hL
      rw [List.length_map] at e
      rw [e] at p
      exact hd σ H p)⟩
theorem q_forLk {j : Nat} {Hb : Hp} {xs : List V} {ls : List Lnk} {tl : TE} (h : Vl tl σ H (.ref a)) (hx : SqL K Hb a xs) (hL : DpAll K Hb xs (ls.map lnkD)) (hb : Same Hb H) (Pv : Nat → L2.St → Hp → Prop) (h0 : Pv 0 σ H) (hl : ∀ i σ' H', Pv i σ' H' → Same Hb H')
    (hs : ∀ (i : Nat) l t σ H, ls[i]? = some l → SqT K Hb t (lnkV l) → Pv i σ H → tz { D with nx := Pv (i + 1), ct := Pv (i + 1), bk := tw D } (σ.set j (some (.ref t))) H) (hd : ∀ σ H, Pv ls.length σ H → tw D σ H) :
    tSeq (tFor (iList K tl) (gName j) tz) tw D σ H := g_forLk (D := { D with nx := tw D }) h hx hL hb Pv h0 hl hs hd
/-- a, b, c, d = e, a link -/
theorem q_asgLnk {j1 j2 j3 j4 : Nat} {te : TE} {t : Addr} {l : Lnk} (h : Vl te σ H (.ref t)) (ht : SqT K H t (lnkV l)) (k : tw D ((((σ.set j1 (some (.int l.a))).set j2 (some (.int l.b))).set j3 (some (oV l.t))).set j4 (some (oV l.k))) H) :
    tSeq (tAsg te (gTup K 4 (gCons (gName j1) (gCons (gName j2) (gCons (gName j3) (gCons (gName j4) gNil)))))) tw D σ H := h _ ⟨t, _, rfl, ht, rfl, _, _, rfl, _, _, rfl, _, _, rfl, _, _, rfl, rfl, k⟩
/-- a tuple made in one of two ways -/
theorem if_tup {t : TT} {r1 r2 : TA} {b : Bool} {x1 x2 zs : List V} {Q : VK} (h : An t σ H b) (h1 : Va r1 σ H x1) (h2 : Va r2 σ H x2) (e1 : b = true → x1 = zs) (e2 : b = false → x2 = zs) (hz : zs.length ≤ sizeLine)
    (k : ∀ T, H T = none → Q (.ref T) (upd H T (.tup zs))) : tIf t (tTup r1) (tTup r2) σ H Q := h _ (by
  cases b with
  | true =>
    cases e1 rfl
    exact iteT (h1 _ ⟨hz, k⟩)
  | false =>
    cases e2 rfl
    exact iteF (h2 _ ⟨hz, k⟩))
end
/-! ### errors that leave a def -/
def RaiseTo (E : XK) (H : Hp) (C : Addr) (i : Int) : Prop := ∀ H' d, Same H H' → H' d = some (.xd [("at", .int i)]) → E (.ref C) (some d) H'
theorem RaiseTo.to {E : XK} {H H' : Hp} {C : Addr} {i : Int} (h : RaiseTo E H C i) (s : Same H H') : RaiseTo E H' C i := fun H2 d s2 hd => h H2 d (s.trans s2) hd
theorem raise_now {E : XK} {C : Addr} {i : Int} {ta : TA} {σ : L2.St} {H : Hp} {D : Ends} (h : Va ta σ H [.int i]) (r : RaiseTo E H C i) : tRaiseLow C (fun cls d _ H => E cls d H) ta D σ H := h _ ⟨_, rfl, fun d nd => r _ d (same_upd nd) upd_same⟩
/-- for i, x in enumerate(xs) -/
theorem for_en {K : PySem.W.Frag} {a : Addr} {xs : List V} {g : TG} {tb : TS} {D : Ends} {σ : L2.St} {H : Hp} (Pv : Nat → L2.St → Hp → Prop) (h0 : Pv 0 σ H) (hq : ∀ i σ H, Pv i σ H → SqL K H a xs)
    (hs : ∀ (i : Nat) x T σ H, xs[i]? = some x → Pv i σ H → H T = none → g (.ref T) σ (upd H T (.tup [.int (i : Nat), x])) fun σ2 H2 => tb { D with nx := Pv (i + 1), ct := Pv (i + 1), bk := D.nx } σ2 H2) (hd : ∀ σ H, Pv xs.length σ H → D.nx σ H) :
    ∃ W : Nat → Nat → L2.St → Hp → Prop, (∃ m, W 0 m σ H) ∧ ∀ i m σ H, W i m σ H → ((Ite K a).stop i H ∧ D.nx σ H) ∨
      ((Ite K a).go i H ∧ ∃ N : L2.St → Hp → Prop, (∀ σ' H', N σ' H' → ∃ m', m' < m ∧ W (i + 1) m' σ' H') ∧ ∀ v H', (Ite K a).yld i H v H' → g v σ H' fun σ2 H2 => tb { D with nx := N, ct := N, bk := D.nx } σ2 H2) := by
  refine ⟨fun i m σ H => m + i = xs.length ∧ Pv i σ H, ⟨xs.length, rfl, h0⟩, fun i m σ H hW => ?_⟩
  obtain ⟨em, p⟩ := hW
  have qx := hq i σ H p
  by_cases hlt : i < xs.length
  · refine .inr ⟨⟨xs, xs[i], qx, List.getElem?_eq_getElem hlt⟩, Pv (i + 1), fun σ' H' p' => ⟨m - 1, by omega, by omega, p'⟩, fun v H' yy => ?_⟩
    obtain ⟨T, x', rfl, hT, rfl, f1⟩ := yy
    exact hs i x' T σ H (f1 xs qx) p hT
  · have e : i = xs.length := by omega
    rw [e] at p
    exact .inl ⟨⟨xs, qx, by omega⟩, hd σ H p⟩
theorem take_snoc {α : Type} {xs : List α} {i : Nat} {x : α} (h : xs[i]? = some x) : xs.take (i + 1) = xs.take i ++ [x] := by
  rw [List.take_add_one, h]
  rfl
theorem vl_orV {K : PySem.W.Frag} {σ : L2.St} {H : Hp} {ta tb : TE} {k m : Bool} (h1 : Vl ta σ H (.bl k)) (h2 : k = false → Vl tb σ H (.bl m)) : Vl (tOrV ta tb) σ H (.bl (k || m)) := fun Q q => h1 _ ⟨k, rfl, by
  cases k with
  | true => exact iteT q
  | false => exact iteF (h2 rfl _ q)⟩
/-! ### values with a heap that grows on the way -/
def Ve (te : TE) (σ : L2.St) (H : Hp) (v : V) : Prop := ∀ Q : VK, (∀ H', Same H H' → Q v H') → te σ H Q
section
variable {K : PySem.W.Frag} {σ : L2.St} {H : Hp} {ta tb te tl t0 t1 t2 t3 : TE} {D : Ends} {tw : TS} {v x y z : V} {tt : TT}
theorem ve_of (h : Vl te σ H v) : Ve te σ H v := fun Q q => h Q (q H (Same.refl H))
theorem Ve.is {w : V} (h : Ve te σ H v) (e : v = w) : Ve te σ H w := e ▸ h
theorem q_asgV {i : Nat} (h : Ve te σ H v) (k : ∀ H', Same H H' → tw D (σ.set i (some v)) H') : tSeq (tAsg te (gName i)) tw D σ H := h _ k
theorem g_asgV {i : Nat} (h : Ve te σ H v) (k : ∀ H', Same H H' → D.nx (σ.set i (some v)) H') : tAsg te (gName i) D σ H := h _ k
theorem g_retV (h : Ve te σ H v) (k : ∀ H', Same H H' → D.rt v H') : tRet te D σ H := h _ k
theorem ve_ixNew {xs : List V} {p : Int} (ha : Vn ta σ H xs) (hb : ∀ H', Same H H' → Vl tb σ H' (.int p)) (hg : atI xs p = some z) : Ve (tOp (rIxL K) ta tb) σ H z := fun Q k =>
  ha _ fun a H1 s1 np e => hb H1 s1 _ ⟨a, xs, p, z, rfl, rfl, .of e, hg, k H1 s1⟩
theorem vn_lc {j : Nat} {xs ys : List V} (hl : ∀ Q : VK, (∀ a H1, Same H H1 → SqL K H1 a xs → Q (.ref a) H1) → tl σ H Q) (hxy : xs.length = ys.length) (hz : ys.length ≤ 1000000)
    (he : ∀ (i : Nat) x y H', Same H H' → xs[i]? = some x → ys[i]? = some y → Ve te ((σ.set j none).set j (some x)) H' y) : Vn (tLc (iList K tl) (gName j) tYes te [j]) σ H ys := fun Q q => by
  refine hl _ fun a H1 s1 hx => ⟨a, rfl, ⟨xs, hx⟩, fun D nD => lc_list (xs := xs) (fun i H' => H' D = some (.lst (ys.take i)) ∧ Same H1 H') ⟨upd_same, same_upd nD⟩ (fun i H' _ hP => hP.2.seq hx) (fun i x H2 hi hP => ?_) (fun H2 hP => ?_)⟩
  · obtain ⟨hD, s2⟩ := hP
    have hi2 := (List.getElem?_eq_some_iff.mp hi).1
    have hy : ys[i]? = some ys[i] := List.getElem?_eq_getElem (by omega)
    refine ⟨?_, ?_⟩
    · show ((σ.set j none).set j (some x)).set j none = σ.set j none
      rw [List.set_set, List.set_set]
    · refine iteT (B := H2 D = some (.lst (ys.take (i + 1))) ∧ Same H1 H2) (he i x _ H2 (s1.trans s2) hi hy _ fun H3 s3 => ⟨_, s3 _ _ hD, ?_, ?_, ?_⟩)
      · exact Nat.lt_of_le_of_lt (m := 1000000) (Nat.le_trans (by rw [List.length_take]; exact Nat.min_le_right _ _) hz) (by decide)
      · rw [upd_same, take_snoc hy]
      · exact same_upd' (s2.trans s3) nD
  · obtain ⟨hD, s2⟩ := hP
    rw [hxy, List.take_length] at hD
    exact q D H2 (s1.trans s2) (Same.free s1 nD) hD
theorem vx_list {a : Addr} {xs : List V} (h : Vl tl σ H (.ref a)) (hx : SqL K H a xs) : ∀ Q : VK, (∀ a H1, Same H H1 → SqL K H1 a xs → Q (.ref a) H1) → tl σ H Q := fun Q q => h _ (q a H (Same.refl H) hx)
theorem vx_new {xs : List V} (h : Vn tl σ H xs) : ∀ Q : VK, (∀ a H1, Same H H1 → SqL K H1 a xs → Q (.ref a) H1) → tl σ H Q := fun Q q => h _ fun a H1 s1 _ e => q a H1 s1 (.of e)
end
section
variable {K : PySem.W.Frag} {σ : L2.St} {H : Hp} {te : TE} {D : Ends} {tz tw : TS} {P : Int → Prop}
theorem q_forRI {j : Nat} (h : Vi te σ H P) (hb : ∀ n, P n → -(2 ^ 62) ≤ n ∧ n < 2 ^ 62) (Pv : Nat → L2.St → Hp → Prop) (h0 : Pv 0 σ H)
    (hs : ∀ n, P n → ∀ (i : Nat) σ H, (i : Int) < n → Pv i σ H → tz { D with nx := Pv (i + 1), ct := Pv (i + 1), bk := tw D } (σ.set j (some (.int i))) H) (hd : ∀ n, P n → ∀ σ H, Pv n.toNat σ H → tw D σ H) :
    tSeq (tFor (iRng1 (tCons te tNil)) (gName j) tz) tw D σ H := h _ fun n hn => ⟨n, rfl, (hb n hn).1, (hb n hn).2, for_range (lo := 0) (n := n.toNat) Pv h0 (fun i σ H hi p => by
      show tz _ (σ.set j (some (.int (0 + i)))) H
      rw [Int.zero_add]
      exact hs n hn i σ H (by omega) p) (hd n hn)⟩
end
section
variable {K : PySem.W.Frag} {σ : L2.St} {H : Hp} {ta tb te tl t0 t1 t2 t3 : TE} {D : Ends} {tw : TS} {v x y z : V} {tt : TT}
theorem g_appV {l : Addr} {xs : List V} (ho : Vl ta σ H (.ref l)) (hl : H l = some (.lst xs)) (h : Ve te σ H v) (hz : xs.length < sizeLine) (k : ∀ H', Same H H' → D.nx σ (upd H' l (.lst (xs ++ [v])))) :
    tDrop (tBM K "list" rAppend ta (tCons te tNil)) D σ H := ho _ ⟨.inl ⟨rfl, _, .inl (.inl hl)⟩, h _ fun H' s' => ⟨l, xs, v, rfl, rfl, s' _ _ hl, hz, k H' s'⟩⟩
theorem lc_filter {j : Nat} {xs : List V} {pb : V → Bool} (hj : j < σ.length) (hl : ∀ Q : VK, (∀ a H1, Same H H1 → SqL K H1 a xs → Q (.ref a) H1) → tl σ H Q) (hz : xs.length ≤ 1000000)
    (ht : ∀ x ∈ xs, ∀ H', An tt ((σ.set j none).set j (some x)) H' (pb x)) (Q : VK) (q : ∀ D H' acc, Same H H' → H' D = some (.lst acc) → acc.length = (xs.filter pb).length → Q (.ref D) H') : tLc (iList K tl) (gName j) tt (tVar j) [j] σ H Q := by
  refine hl _ fun a H1 s1 hx => ⟨a, rfl, ⟨xs, hx⟩, fun D nD => lc_list (xs := xs) (fun i H' => ∃ acc, H' D = some (.lst acc) ∧ Same H1 H' ∧ acc.length = ((xs.take i).filter pb).length) ⟨[], upd_same, same_upd nD, rfl⟩ (fun i H' _ hP => hP.choose_spec.2.1.seq hx) (fun i x H2 hi hP => ?_) (fun H2 hP => ?_)⟩
  · obtain ⟨acc, hD, s2, ha⟩ := hP
    have e : (xs.take (i + 1)).filter pb = (xs.take i).filter pb ++ [x].filter pb := by
      rw [take_snoc hi]
      exact List.filter_append ..
    refine ⟨?_, ht x (List.mem_of_getElem? hi) H2 _ ?_⟩
    · show ((σ.set j none).set j (some x)).set j none = σ.set j none
      rw [List.set_set, List.set_set]
    · cases hp : pb x with
      | true =>
        have e2 : [x].filter pb = [x] := by
          rw [List.filter_cons, hp]
          rfl
        refine iteT ⟨x, ?_, acc, hD, ?_, _, upd_same, same_upd' s2 nD, ?_⟩
        · exact List.getElem?_set_self (by
            show j < (σ.set j none).length
            rw [List.length_set]
            exact hj)
        · have h1 : ((xs.take i).filter pb).length ≤ xs.length := Nat.le_trans (List.length_filter_le _ _) (by rw [List.length_take]; exact Nat.min_le_right _ _)
          exact Nat.lt_of_le_of_lt (m := 1000000) (by omega) (by decide)
        · rw [e, e2, List.length_append, List.length_append, ha]
      | false =>
        have e2 : [x].filter pb = [] := by
          rw [List.filter_cons, hp]
          rfl
        refine iteF ⟨acc, hD, s2, ?_⟩
        rw [e, e2, List.append_nil]
        exact ha
  · obtain ⟨acc, hD, s2, ha⟩ := hP
    rw [List.take_length] at ha
    exact q D H2 acc (s1.trans s2) hD ha
theorem vl_inL {a : Addr} {xs : List V} (h : Vl te σ H (.ref a)) (hx : SqL K H a xs) (f1 : flatV x = true) (f2 : xs.all flatV = true) : Vl (tOp (rIn K false) (tC x) te) σ H (.bl (inV x xs)) := vl_op vl_c h fun _ k => ⟨a, xs, rfl, .inl hx, f1, f2, k⟩
theorem flat_o (o : Option Int) : flatV (oV o) = true := by cases o <;> rfl
theorem ax_leLT {a T : Addr} {p q r s : Int} (h : Vl te σ H (.ref a)) (hx : SqL K H a [.int p, .int q]) (hb : ∀ H', Same H H' → Vl tb σ H' (.ref T)) (hT : SqT K H T [.int r, .int s]) :
    Ax (tTest (tOp (rLeT K) (tCB (fun xs H Q => ∃ p ys, xs = [V.ref p] ∧ ((SqL K H p ys ∧ ∀ l, H l = none → Q (.ref l) (upd H l (.tup ys))) ∨ (SqT K H p ys ∧ Q (.ref p) H))) (tCons te tNil)) tb)) σ H (decide (p < r ∨ (p = r ∧ q ≤ s))) := fun Q k =>
  h _ ⟨a, _, rfl, .inl ⟨hx, fun S nS => hb _ (same_upd nS) _ ⟨S, T, [p, q], [r, s], rfl, rfl, .of upd_same, seqT (same_upd nS) hT, _, rfl, by
    rw [lexAt2]
    exact k _ (same_upd nS)⟩⟩⟩
theorem ve_tup4 {v0 v1 v2 v3 : V} (h0 : Ve t0 σ H v0) (h1 : ∀ H', Same H H' → Ve t1 σ H' v1) (h2 : ∀ H', Same H H' → Ve t2 σ H' v2) (h3 : ∀ H', Same H H' → Ve t3 σ H' v3) (Q : VK) (q : ∀ R H', Same H H' → H' R = some (.tup [v0, v1, v2, v3]) → Q (.ref R) H') :
    tTup (tCons t0 (tCons t1 (tCons t2 (tCons t3 tNil)))) σ H Q := h0 _ fun H1 s1 => h1 H1 s1 _ fun H2 s2 => h2 H2 (s1.trans s2) _ fun H3 s3 => h3 H3 ((s1.trans s2).trans s3) _ fun H4 s4 => ⟨by show 4 ≤ sizeLine; decide, fun R nR => q R _ ((((s1.trans s2).trans s3).trans s4).trans (same_upd nR)) upd_same⟩
end
theorem ret_pairE {te : TE} {x : Str} {D : Ends} {σ : L2.St} {H : Hp} (h : te σ H fun v H1 => [V.str x, v].length ≤ sizeLine ∧ ∀ p, H1 p = none → D.rt (.ref p) (upd H1 p (.tup [.str x, v]))) : tRet (tTup (tCons (tC (.str x)) (tCons te tNil))) D σ H := h
theorem nx_of {f : L2.St → Hp → Prop} {a b c} {σ : L2.St} {H : Hp} (h : f σ H) : (Ends.mk f a b c).nx σ H := h
theorem ax_isNV {σ : L2.St} {H : Hp} {te : TE} {v : V} (h : Ve te σ H v) : Ax (tTest (tOp (fun x y H Q => y = V.non ∧ Q (V.bl (decide (x = V.non))) H) te (tC .non))) σ H (decide (v = .non)) := fun Q k => h _ fun H' s' => ⟨rfl, _, rfl, k H' s'⟩
theorem last_get {α : Type} {l : List α} {d : α} (h : l ≠ []) : l[l.length - 1]? = some (l.getLast?.getD d) := by
  rw [List.getLast?_eq_getElem?]
  have : l.length - 1 < l.length := by
    have := List.length_pos_iff.mpr h
    omega
  rw [List.getElem?_eq_getElem this]
  rfl
theorem seqT_but {K : PySem.W.Frag} {H : Hp} {o R : Addr} {ys zs : List V} (h : SqT K H R zs) (ho : H o = some (.lst ys)) : SqT K (but H o) R zs := by
  rcases h with (h | ⟨u, h⟩) | h
  · have ne : R ≠ o := fun z => by
      rw [z, ho] at h
      cases h
    exact .inl (.inl (by rw [but_ne ne]; exact h))
  · have ne : R ≠ o := fun z => by
      rw [z, ho] at h
      cases h
    exact .inl (.inr ⟨u, by rw [but_ne ne]; exact h⟩)
  · exact .inr h
theorem vl_byLow {C a d : Addr} {te : TE} {σ : L2.St} {H : Hp} {v : V} (h : Vl te σ H (.ref a)) (hd : H d = some (.xd [("at", v)])) : Vl (tByLow C a (.ref C) (some d) te) σ H v := fun Q q => h _ ⟨rfl, rfl, d, v, rfl, hd, q⟩
def pairD (x : Str) (d : PyData) : PyData := .tuple [.str x, d]
theorem ret_pair {K : PySem.W.Frag} {σ : L2.St} {H : Hp} {D : Ends} {te : TE} {x : Str} {v : V} {d : PyData} (h : Vl te σ H v) (hd : Dp K H v d) (k : ∀ p H', Same H H' → Dp K H' (.ref p) (pairD x d) → D.rt (.ref p) H') :
    tRet (tTup (tCons (tC (.str x)) (tCons te tNil))) D σ H := h _ ⟨by show 2 ≤ sizeLine; decide, fun p np => k p _ (same_upd np) (.tup (.of upd_same) (.cons (.str x) (.cons (Dp.to hd (same_upd np)) .nil)))⟩
structure Apart (K : PySem.W.Frag) (C C' : Addr) : Prop where
  no : PySem.W.exmOne K (.ref C) (.ref C') = some false
structure NmAt (mg : Str → Option Value) (x : Str) (C : Addr) : Prop where
  gC : mg x = some (.ref C)
theorem lay_net (N : Net) : (netD N).canLay0 = true ∧ (netD N).depth ≤ 3 := by
  have h := lay_lnks N.ls
  constructor
  · show (true && (PyData.canLayAll0 (N.ls.map lnkD) && true)) = true
    rw [h.1]
    rfl
  · show max 0 (max (PyData.depthAll (N.ls.map lnkD) + 1) 0) + 1 ≤ 3
    have := h.2
    omega
theorem shaped_pair {x : Str} {d : PyData} (hx : PyData.canLay0 (.str x) = true) (h : d.canLay0 = true) (h2 : d.depth ≤ 3) : SeqAt.shaped (pairD x d) = true := by
  show ((PyData.canLay0 (.str x) && (d.canLay0 && true)) && decide (max 0 (max d.depth 0) + 1 ≤ 64)) = true
  rw [hx, h, decide_eq_true (by omega)]
  rfl
theorem refl_of {d : PyData} (h : SeqAt.shaped d = true) : PyData.eqv d d = true := SeqAt.eqv_refl _ (Bool.and_eq_true_iff.mp h).1
theorem ax_ne {K : PySem.W.Frag} {σ : L2.St} {H : Hp} {te te2 : TE} {d : PyData} (hd : SeqAt.shaped d = true) (h1 : ∀ Q : VK, (∀ v H', Same H H' → Dp K H' v d → Q v H') → te σ H Q) (h2 : ∀ H', Same H H' → ∀ Q : VK, (∀ v H2, Same H' H2 → Dp K H2 v d → Q v H2) → te2 σ H' Q) :
    Ax (tTest (tOp (rNeD K) te te2)) σ H false := fun Q k => h1 _ fun v H1 s1 d1 => h2 H1 s1 _ fun u H2 s2 d2 => ⟨d, d, Dp.to d1 s2, d2, hd, hd, _, rfl, by
  rw [refl_of hd]
  exact k H2 (s1.trans s2)⟩
theorem ax_neV {σ : L2.St} {H : Hp} {ta tb : TE} {x y : V} (ha : Vl ta σ H x) (hb : Ve tb σ H y) (hs : scal x y = true) : Ax (tTest (tOp rNe ta tb)) σ H (!decide (x = y)) := fun Q k => ha _ (hb _ fun H' s' => ⟨hs, _, rfl, k H' s'⟩)
theorem lay_ints : ∀ ns : List Int, PyData.canLayAll0 (ns.map PyData.int) = true ∧ PyData.depthAll (ns.map PyData.int) = 0
  | [] => ⟨rfl, rfl⟩
  | n :: ns => by
    have h := lay_ints ns
    constructor
    · show (true && PyData.canLayAll0 (ns.map PyData.int)) = true
      rw [h.1]
      rfl
    · show max 0 (PyData.depthAll (ns.map PyData.int)) = 0
      rw [h.2]
      rfl
theorem shaped_ints (ns : List Int) : SeqAt.shaped (.list (ns.map PyData.int)) = true := by
  have h := lay_ints ns
  show (PyData.canLayAll0 (ns.map PyData.int) && decide (PyData.depthAll (ns.map PyData.int) + 1 ≤ 64)) = true
  rw [h.1, h.2]
  rfl
/-! ### heaps with two objects that change -/
def B2 (H : Hp) (o q : Addr) : Hp := but (but H o) q
theorem b2_same {H : Hp} {o q : Addr} : Same (B2 H o q) H := but_same.trans but_same
theorem same_b2 {G H : Hp} {o q : Addr} (s : Same G H) (n : G o = none) (m : G q = none) : Same G (B2 H o q) := same_but (same_but s n) m
theorem b2_mono {H H' : Hp} {o q : Addr} (s : Same H H') : Same (B2 H o q) (B2 H' o q) := but_mono (but_mono s)
theorem b2_upd1 {H : Hp} {o q : Addr} {u : HO} : B2 (upd H o u) o q = B2 H o q := by
  unfold B2
  rw [but_upd]
theorem b2_upd2 {H : Hp} {o q : Addr} {u : HO} : B2 (upd H q u) o q = B2 H o q := by
  funext b
  unfold B2
  by_cases h : b = q
  · rw [h, but_at, but_at]
  · rw [but_ne h, but_ne h]
    by_cases h2 : b = o
    · rw [h2, but_at, but_at]
    · rw [but_ne h2, but_ne h2, upd_ne h]
theorem b2_get {H : Hp} {o q a : Addr} {u : HO} (h : H a = some u) (h1 : a ≠ o) (h2 : a ≠ q) : B2 H o q a = some u := by
  unfold B2
  rw [but_ne h2, but_ne h1]
  exact h
/-! ### comprehensions over ints -/
section
variable {K : PySem.W.Frag} {σ : L2.St} {H : Hp} {ta tb te tl td ty tv : TE} {tr : TA} {D : Ends} {tw : TS} {tt : TT} {v : V}
theorem an_yes : An tYes σ H true := fun _ q => q
theorem vn_lcI {j : Nat} {ns : List Int} {pb : Int → Bool} {f : Int → V} (hl : ∀ Q : VK, (∀ a H1, Same H H1 → SqL K H1 a (ns.map V.int) → Q (.ref a) H1) → tl σ H Q) (hz : ns.length ≤ 1000000)
    (ht : ∀ x ∈ ns, ∀ H', Same H H' → An tt ((σ.set j none).set j (some (.int x))) H' (pb x)) (he : ∀ x ∈ ns, ∀ H', Same H H' → Vl te ((σ.set j none).set j (some (.int x))) H' (f x)) :
    Vn (tLc (iList K tl) (gName j) tt te [j]) σ H ((ns.filter pb).map f) := fun Q q => by
  refine hl _ fun a H1 s1 hx => ⟨a, rfl, ⟨_, hx⟩, fun D nD => lc_list (xs := ns.map V.int) (fun i H' => H' D = some (.lst (((ns.take i).filter pb).map f)) ∧ Same H1 H') ⟨upd_same, same_upd nD⟩ (fun i H' _ hP => hP.2.seq hx) (fun i x H2 hi hP => ?_) (fun H2 hP => ?_)⟩
  · obtain ⟨hD, s2⟩ := hP
    rw [List.getElem?_map] at hi
    cases hg : ns[i]? with
    | none =>
      rw [hg] at hi
      cases hi
    | some n =>
      rw [hg] at hi
      cases hi
      have hm := List.mem_of_getElem? hg
      have e : (ns.take (i + 1)).filter pb = (ns.take i).filter pb ++ [n].filter pb := by
        rw [take_snoc hg]
        exact List.filter_append ..
      refine ⟨?_, ht n hm H2 (s1.trans s2) _ ?_⟩
      · show ((σ.set j none).set j (some (V.int n))).set j none = σ.set j none
        rw [List.set_set, List.set_set]
      · cases hp : pb n with
        | true =>
          have e2 : [n].filter pb = [n] := by
            rw [List.filter_cons, hp]
            rfl
          refine iteT (B := H2 D = some (.lst (((ns.take (i + 1)).filter pb).map f)) ∧ Same H1 H2) (he n hm H2 (s1.trans s2) _ ⟨_, hD, ?_, ?_, same_upd' s2 nD⟩)
          · rw [List.length_map]
            have h1 : ((ns.take i).filter pb).length ≤ ns.length := Nat.le_trans (List.length_filter_le _ _) (by rw [List.length_take]; exact Nat.min_le_right _ _)
            exact Nat.lt_of_le_of_lt (m := 1000000) (by omega) (by decide)
          · rw [upd_same, e, e2, List.map_append]
            rfl
        | false =>
          have e2 : [n].filter pb = [] := by
            rw [List.filter_cons, hp]
            rfl
          refine iteF ⟨?_, s2⟩
          rw [e, e2, List.append_nil]
          exact hD
  · obtain ⟨hD, s2⟩ := hP
    rw [List.length_map, List.take_length] at hD
    exact q D H2 (s1.trans s2) (Same.free s1 nD) hD
theorem vn_lcR {j : Nat} {n : Int} {pb : Int → Bool} {f : Int → V} (hl : Va tr σ H [.int n]) (h0 : 0 ≤ n) (hz : n ≤ 1000000)
    (ht : ∀ x : Int, 0 ≤ x → x < n → ∀ H', Same H H' → An tt ((σ.set j none).set j (some (.int x))) H' (pb x)) (he : ∀ x : Int, 0 ≤ x → x < n → ∀ H', Same H H' → Vl te ((σ.set j none).set j (some (.int x))) H' (f x)) :
    Vn (tLc (iRng1 tr) (gName j) tt te [j]) σ H (((((List.range n.toNat).map fun (i : Nat) => (i : Int))).filter pb).map f) := fun Q q => by
  refine hl _ ⟨n, rfl, by omega, by omega, fun D nD => lc_range (lo := 0) (n := n.toNat) (fun i H' => H' D = some (.lst ((((List.range i).map fun (i : Nat) => (i : Int)).filter pb).map f)) ∧ Same H H') ⟨upd_same, same_upd nD⟩ (fun i H2 hi hP => ?_) (fun H2 hP => ?_)⟩
  · obtain ⟨hD, s2⟩ := hP
    have e : (((List.range (i + 1)).map fun (i : Nat) => (i : Int)).filter pb) = ((List.range i).map fun (i : Nat) => (i : Int)).filter pb ++ [(i : Int)].filter pb := by
      rw [List.range_succ, List.map_append]
      exact List.filter_append ..
    rw [Int.zero_add]
    refine ⟨?_, ht i (by omega) (by omega) H2 s2 _ ?_⟩
    · show ((σ.set j none).set j (some (V.int i))).set j none = σ.set j none
      rw [List.set_set, List.set_set]
    · cases hp : pb (i : Int) with
      | true =>
        have e2 : [(i : Int)].filter pb = [(i : Int)] := by
          rw [List.filter_cons, hp]
          rfl
        refine iteT (B := H2 D = some (.lst ((((List.range (i + 1)).map fun (i : Nat) => (i : Int)).filter pb).map f)) ∧ Same H H2) (he i (by omega) (by omega) H2 s2 _ ⟨_, hD, ?_, ?_, same_upd' s2 nD⟩)
        · rw [List.length_map]
          have h1 : (((List.range i).map fun (i : Nat) => (i : Int)).filter pb).length ≤ i := Nat.le_trans (List.length_filter_le _ _) (by rw [List.length_map, List.length_range]; exact Nat.le_refl _)
          exact Nat.lt_of_le_of_lt (m := 1000000) (by omega) (by decide)
        · rw [upd_same, e, e2, List.map_append]
          rfl
      | false =>
        have e2 : [(i : Int)].filter pb = [] := by
          rw [List.filter_cons, hp]
          rfl
        refine iteF ⟨?_, s2⟩
        rw [e, e2, List.append_nil]
        exact hD
  · obtain ⟨hD, s2⟩ := hP
    exact q D H2 s2 nD hD
/-! ### dicts by ints -/
theorem vl_dgetI {o : Addr} {p : Int} {kvs : List (Key × V)} (ho : Vl td σ H (.ref o)) (hk : Vl ty σ H (.int p)) (hd : H o = some (.dK kvs)) (hv : valV kvs (.inl p) = some v) : Vl (tDGet td ty) σ H v := fun Q q => ho _ (hk _ ⟨o, v, rfl, by
  rw [← hv]
  exact DGet.k (k := .inl p) hd, q⟩)
theorem q_dnewK {i : Nat} (k : ∀ p, H p = none → tw D (σ.set i (some (.ref p))) (upd H p (.dK []))) : tSeq (tAsg tDNewK (gName i)) tw D σ H := k
theorem g_dputN {o : Addr} {p : Int} {kvs : List (Key × V)} {xs : List V} (hv : Vn tv σ H xs) (ho : ∀ H', Same H H' → Vl td σ H' (.ref o)) (hk : ∀ H', Same H H' → Vl ty σ H' (.int p)) (hd : H o = some (.dK kvs)) (hl : kvs.length < sizeLine)
    (k : ∀ a H', Same H H' → H a = none → H' a = some (.lst xs) → D.nx σ (upd H' o (.dK (putK kvs (.inl p) (.ref a))))) : sDPut td ty tv D σ H := hv _ fun a H' s' na ea => ho H' s' _ (hk H' s' _ ⟨o, _, rfl, DPut.k (k := .inl p) (s' _ _ hd) hl, k a H' s' na ea⟩)
theorem g_dputV {o : Addr} {p : Int} {kvs : List (Key × V)} (hv : Vl tv σ H v) (ho : Vl td σ H (.ref o)) (hk : Vl ty σ H (.int p)) (hd : H o = some (.dK kvs)) (hl : kvs.length < sizeLine)
    (k : D.nx σ (upd H o (.dK (putK kvs (.inl p) v)))) : sDPut td ty tv D σ H := hv _ (ho _ (hk _ ⟨o, _, rfl, DPut.k (k := .inl p) hd hl, k⟩))
end
theorem hu_of {k : Nat} {A : Around} (r : Room k A) : A.units + 1 < cLine := by
  have := r.units
  omega
theorem dI {i j : Int} : decide (V.int i = V.int j) = decide (i = j) := by
  rw [Bool.eq_iff_iff, decide_eq_true_eq, decide_eq_true_eq]
  exact ⟨fun z => V.int.inj z, fun z => by rw [z]⟩
theorem vn_catV {K : PySem.W.Frag} {σ : L2.St} {H : Hp} {ta tb : TE} {a : Addr} {xs ys : List V} (ha : Vn ta σ H xs) (hb : ∀ H', Same H H' → Vl tb σ H' (.ref a)) (hA : H a = some (.lst ys)) (hz : xs.length + ys.length ≤ sizeLine) : Vn (tOp rCat ta tb) σ H (xs ++ ys) := fun Q q => ha _ fun p H1 s1 np hp => hb H1 s1 _
  ⟨p, a, xs, ys, rfl, rfl, hp, s1 _ _ hA, hz, fun t nt => q t _ (s1.trans (same_upd nt)) (Same.free s1 nt) upd_same⟩
theorem putK_len {κ : Type} [DecidableEq κ] {kvs : List (κ × V)} {k : κ} {v : V} (h : (valV kvs k).isSome = true) : (putK kvs k v).length = kvs.length := by
  unfold putK
  rw [valV_any, if_pos h, List.length_map]
/-! ### a law's own def, called from without: nothing is being shown there -/
structure FnG (P : Program) (w : World) (K : PySem.W.Frag) (mg : Str → Option Value) (base : Heap) (f : Addr) (fd : FuncData) (ps : List Str) (sp : Sp) : Prop where
  go : ∀ (s : Shared) (H : Hp) (us : List Value) (vs : List V) (Q : VK) (E : XK), Env0 P w K mg base callerA [] s H → BindsTo s fd ⟨us, []⟩ (ps.zip us) → Vals vs us → sp vs H Q E → codeAny (model P w) callerA (.call (.ref f) ⟨us, []⟩) (CR CX0 [] P w H s Q E) s
section
variable {P : Program} {w : World} {K : PySem.W.Frag} {mg : Str → Option Value} {base : Heap}
theorem okG {x qual : Str} {st : Stmt} {f : Addr} {fd : FuncData} {N ps : List Str} {k : Nat} {sp : Sp} (F : Fun K x qual st f fd) (S : FnScope N ps (defScope st)) (room : Room (k + 1) callerA) (count : ∀ vs H Q E, sp vs H Q E → vs.length = ps.length)
    (body : ∀ (cdv : Value) (s : Shared) (H : Hp) (vs : List V) (Q : VK) (E : XK), Room k (callerA.deeper (envOfC qual (defScope st) s.heap.objs.size f cdv)) → sp vs H Q E →
      ∃ t, PSs (cxOf CX0 P w K mg base N qual (defScope st) f cdv callerA [] s H E).nox (defBody st) t ∧ t { nx := fun _ H' => Q .non H', rt := Q } (start N vs) H) : FnG P w K mg base f fd ps sp := by
  obtain ⟨oc, od, kV, doc, pm, an, cdv, ct, osl, efd, look, code⟩ := F.ex
  subst efd
  refine ⟨fun s H us vs Q E env bnd rel want => ?_⟩
  have old : ∀ b o, base.get? b = some o → s.heap.get? b = some o := fun b o e => (env.bs b o e).1
  have kin : K.In s.heap := env.mod.kin.keeps old
  have lims : s.heap.NoLimit := env.mod.nolimit.keeps old
  refine codeAny_call_function room.depth (kin _ _ look) rfl S.co S.gen rfl (PySem.W.codeRec_of kin code) (bnd _ _ _ _ ?_)
  refine wpAny_newFunctionEnv_cells S.kind (fun y hy => ?_) fun fresh same s1 made => ?_
  · obtain ⟨n, v⟩ := y
    cases S.par n (List.of_mem_zip hy).1 with
    | inl q => exact .inl q
    | inr q => exact .inr ⟨q, PySem.W.cellsFrom_some _ _ _ (.inl q)⟩
  cases same
  refine ⟨lims.keeps made.toInCall.keep, codeAny_func ?_⟩
  obtain ⟨t, prog, ends⟩ := body cdv s H vs Q E (room.deeper _) want
  have inv : Inv (cxOf CX0 P w K mg base N qual (defScope st) f cdv callerA [] s H E) [] (start N vs) H s1 := inv_start S room.hd env (count _ _ _ _ want) rel made
  refine wpAny_mono (prog.nox.run [] s1 (start N vs) H _ inv ends) (fun fl s2 got => ?_) fun e s2 got => got
  cases fl with
  | ret u => exact let ⟨v, _, H2, J, rv, q⟩ := got; ⟨v, H2, J.os, J.bare, J.base, J.hok, rv, q⟩
  | next => exact let ⟨_, H2, J, q⟩ := got; ⟨V.non, H2, J.os, J.bare, J.base, J.hok, rfl, q⟩
  | brk => exact let ⟨_, _, _, q⟩ := got; False.elim q
  | cont => exact let ⟨_, _, _, q⟩ := got; False.elim q
variable {mb : Str → Option Value} {fa a : Addr} {fd : FuncData} {x : Str} {sp : Sp} {s1 : Shared} {vs : List Value} {ns : List Int}
abbrev scr (vs : List Value) : Obj := { cls := .type "list", data := .seq vs.toArray }
/-- from a heap in which at most the script is told -/
theorem runG_core (kin : K.In s1.heap) (gl : s1.heap.Ns mainGlobals mg) (bl : s1.heap.Ns builtinsNs mb) (bo : ∀ x : Str, x ≠ "__name__" → mb x = bootBuiltins x) (lim : s1.heap.NoLimit) (gen : s1.gens = #[]) (ha : s1.heap.get? a = some (scr vs))
    (F : ∀ base : Heap, K.In base → base.Ns mainGlobals mg → FnG P w K mg base fa fd [x] sp) (bind : ∀ (s : Shared) (u : Value), BindsTo s fd ⟨[u], []⟩ [(x, u)]) {H : Hp} (only : Only H) (want : sp [.ref a] H (fun v _ => v = .bl true) fun _ _ _ => False) (hok : HOk P w H s1.heap)
    (alone : ∀ b, H b ≠ none → b = a) (free : H a ≠ none → K.lookup a = none) :
    codeAny (model P w) callerA (.call (.ref fa) ⟨[.ref a], []⟩) (fun r s' => r = .ok (.ret (.bool true)) ∧ OldK s1.heap s'.heap ∧ s'.os = s1.os ∧ AllBare s'.gens) s1 := by
  have none_of : ∀ {b : Addr} {o : Obj}, s1.heap.get? b = some o → (b = a → H a ≠ none → False) → (hidT s1.heap H).get? b = some o := fun {b o} e no => hidT_get e (by
    cases q : H b with
    | none => rfl
    | some u =>
      have n : H b ≠ none := by rw [q]; exact fun z => nomatch z
      have eb := alone b n
      subst eb
      exact (no rfl n).elim)
  have names : ∀ {b : Addr} {m : Str → Option Value}, s1.heap.Ns b m → (hidT s1.heap H).Ns b m := fun {b m} ⟨o, es, ep, e, d, r⟩ => ⟨o, es, ep, none_of e (fun eb _ => by
    subst eb
    rw [ha] at e
    cases e
    have d : Data.seq vs.toArray _ = Data.dict es ep := d
    cases d), d, r⟩
  have kin2 : K.In (hidT s1.heap H) := fun b o e => none_of (kin b o e) fun eb n => by
    subst eb
    rw [free n] at e
    cases e
  have mod : Mod K mg (hidT s1.heap H) := ⟨kin2, names gl, ⟨mb, names bl, bo⟩, let ⟨mc, h1, h2⟩ := lim; ⟨mc, names h1, h2⟩⟩
  have env : Env0 P w K mg (hidT s1.heap H) callerA [] s1 H := ⟨rfl, mod, fun b o e => of_hidT e, Nat.le_of_eq (hidT_size _ _), trivial, fun b hb => (nomatch (show b ∈ ([] : List Addr) from hb)), hok, .of_eq gen⟩
  refine codeAny_mono ((F _ kin2 (names gl)).go s1 H [.ref a] [.ref a] _ _ env (bind s1 (.ref a)) (.cons rfl .nil) want) fun r s2 got => ?_
  match r, got with
  | .ok (.ret u), got =>
    obtain ⟨v, H2, os, bare, un, hok2, rel, q⟩ := got
    have q : v = .bl true := q
    cases q
    have rel : u = Value.bool true := rel
    cases rel
    refine ⟨rfl, OldK.of_keep fun b o e => ?_, os, bare⟩
    rcases only b with z | ⟨ob, xs, z⟩
    · exact un.keep b o e z (fun m => (nomatch (show b ∈ ([] : List Addr) from m))) (fun m => (nomatch m))
    · obtain ⟨e1, _⟩ := hok b _ z
      obtain ⟨e2, _⟩ := hok2 b _ (un.frzs b ob _ z)
      rw [e] at e1
      cases e1
      exact e2
theorem runG (kin : K.In s1.heap) (gl : s1.heap.Ns mainGlobals mg) (bl : s1.heap.Ns builtinsNs mb) (bo : ∀ x : Str, x ≠ "__name__" → mb x = bootBuiltins x) (lim : s1.heap.NoLimit) (gen : s1.gens = #[]) (ha : s1.heap.get? a = some (scr vs)) (hin : IntsAre vs ns) (hl : ns.length ≤ sizeLine)
    (F : ∀ base : Heap, K.In base → base.Ns mainGlobals mg → FnG P w K mg base fa fd [x] sp) (bind : ∀ (s : Shared) (u : Value), BindsTo s fd ⟨[u], []⟩ [(x, u)]) (want : ∀ H : Hp, Only H → SqL K H a (ns.map V.int) → sp [.ref a] H (fun v _ => v = .bl true) fun _ _ _ => False) :
    codeAny (model P w) callerA (.call (.ref fa) ⟨[.ref a], []⟩) (fun r s' => r = .ok (.ret (.bool true)) ∧ OldK s1.heap s'.heap ∧ s'.os = s1.os ∧ AllBare s'.gens) s1 := by
  have rel := vals_ints hin
  have size : vs.toArray.size ≤ sizeLine := by
    rw [List.size_toArray, hin.length]
    exact hl
  cases hk : K.lookup a with
  | some o =>
    have e := (kin a o hk).symm.trans ha
    cases e
    have only : Only (fun _ : Addr => (none : Option HO)) := fun _ => .inl rfl
    exact runG_core kin gl bl bo lim gen ha F bind only (want _ only (.inr ⟨_, vs.toArray, _, hk, rfl, rfl, rfl, size, by simpa using rel⟩)) (fun b u z => (nomatch (show (none : Option HO) = some u from z))) (fun b z => absurd rfl z) fun z => absurd rfl z
  | none =>
    let H : Hp := fun b => if b = a then some (.frz (scr vs) (.lst (ns.map V.int))) else none
    have at_ : H a = some (.frz (scr vs) (.lst (ns.map V.int))) := if_pos rfl
    have off : ∀ b, b ≠ a → H b = none := fun b hb => if_neg hb
    have only : Only H := fun b => by
      by_cases hb : b = a
      · subst hb
        exact .inr ⟨_, _, at_⟩
      · exact .inl (off b hb)
    refine runG_core kin gl bl bo lim gen ha F bind only (want _ only (.inl (.inr ⟨scr vs, at_⟩))) (fun b u z => ?_) (fun b z => ?_) fun _ => hk
    · by_cases hb : b = a
      · subst hb
        cases at_.symm.trans z
        exact ⟨ha, by rw [List.length_map]; exact hl, vs, _, rel, ha⟩
      · cases (off b hb).symm.trans z
    · by_cases hb : b = a
      · exact hb
      · exact absurd (off b hb) z
end
/-- the head -/
theorem walkG {l : PySem.W.OpenLaw} {n : Nat} {q : Program} {loose : List Str} {XP : (Str → Option Value) → Heap → Prop} {YP : World → Heap → Prop} {d : DefRec} {K : Params → PySem.W.Frag} {sp : World → Sp} {x : Str} (hn : l.most = some n) (hn2 : n ≤ sizeLine) (hdf : d.params.defaults = []) (hY : ∀ (w : World) (h : Heap), YP w h → (K w.params).In h)
    (F : ∀ (w : World) (mg : Str → Option Value) (fa : Addr) (h : Heap), (K w.params).In h → h.Ns mainGlobals mg → mg d.name = some (.ref fa) → ∃ fd : FuncData, (∀ (s : Shared) (u : Value), BindsTo s fd ⟨[u], []⟩ [(x, u)]) ∧ ∀ base : Heap, (K w.params).In base → base.Ns mainGlobals mg → FnG l.prog w (K w.params) mg base fa fd [x] (sp w))
    (want : ∀ (w : World) (H : Hp) (a : Addr) (ns : List Int), ns.length ≤ n → Only H → SqL (K w.params) H a (ns.map V.int) → sp w [.ref a] H (fun v _ => v = .bl true) fun _ _ _ => False) : PySem.W.WalkO q loose XP YP l.row.toRowW d [] (fun f vs => PySem.call f vs) :=
  Att.attach_call hn hdf fun w s₀ s₁ mg mb fa o pm cd doc a vs ns G Y ho hd hcd hmg hobj hints hlen hg => by
    obtain ⟨fd, bnd, fn⟩ := F w mg fa _ (hY w _ Y) G.T.g hmg
    exact runG (hY w _ Y) G.T.g G.T.b G.T.builtins G.T.nolimit hg hobj hints (Nat.le_trans hlen hn2) fn bnd fun H o q => want w H a ns hlen o q
/-! ### repr of data -/
def rRepr (K : PySem.W.Frag) : List V → Hp → VK → Prop := fun xs H Q => ∃ a d, xs = [.ref a] ∧ Dp K H (.ref a) d ∧ d.showable = true ∧ d.hasDict = false ∧ d.depth ≤ 60 ∧ d.shown.length ≤ sizeLine ∧ Q (.str d.shown) H
theorem call_reprD {X : Cx} (hg : X.A.guards = some []) (hu : X.A.units + 64 < cLine) : CallR X (.builtin "repr") (rRepr X.K) := by
  intro pins s σ H xs us Q I r h
  obtain ⟨a, d, rfl, hd, sh, nd, dep, len, q⟩ := h
  obtain ⟨u, rfl, e⟩ := vals1 r
  cases e
  obtain ⟨as, rd⟩ := Dp.reads I d _ _ hd rfl
  exact repr_of_reads' rd sh (PyData.noDict_hsm nd) hg (by omega) (fun _ _ e => e) (fun h' u tk keep => ⟨.str d.shown, H, I.kept keep, ⟨u, rfl⟩, q⟩) len
theorem ve_repr {K : PySem.W.Frag} {σ : L2.St} {H : Hp} {tr : TA} {xs : List V} {d : PyData} (h : Va tr σ H xs) (hz : xs.length ≤ sizeLine) (hd : ∀ T H', Same H H' → H' T = some (.tup xs) → Dp K H' (.ref T) d) (h1 : d.showable = true) (h2 : d.hasDict = false) (h3 : d.depth ≤ 60) (h4 : d.shown.length ≤ sizeLine) :
    Ve (tCB (rRepr K) (tCons (tTup tr) tNil)) σ H (.str d.shown) := fun Q q => h _ ⟨hz, fun T nT => ⟨T, d, rfl, hd T _ (same_upd nT) upd_same, h1, h2, h3, h4, q _ (same_upd nT)⟩⟩
theorem ve_repr1 {K : PySem.W.Frag} {σ : L2.St} {H : Hp} {te : TE} {a : Addr} {d : PyData} (h : Vl te σ H (.ref a)) (hd : Dp K H (.ref a) d) (h1 : d.showable = true) (h2 : d.hasDict = false) (h3 : d.depth ≤ 60) (h4 : d.shown.length ≤ sizeLine) :
    Ve (tCB (rRepr K) (tCons te tNil)) σ H (.str d.shown) := fun Q q => h _ ⟨a, d, rfl, hd, h1, h2, h3, h4, q _ (Same.refl _)⟩
end Ovc
namespace L2
open PySem PySem.Spec PyProof.Rows
/-! ### min(xs, default=None), xs a list of ints -/
def rMinDef (K : PySem.W.Frag) : List V → List V → Hp → VK → Prop := fun vs zs H Q => ∃ a ns, vs = [.ref a] ∧ zs = [.non] ∧ SqL K H a (ns.map V.int) ∧ (ns = [] → Q .non H) ∧ ∀ m, m ∈ ns → (∀ x ∈ ns, m ≤ x) → Q (.int m) H
theorem depth_ints : ∀ ns : List Int, PyData.depthAll (ns.map PyData.int) = 0
  | [] => rfl
  | n :: ns => by
    show max 0 (PyData.depthAll (ns.map PyData.int)) = 0
    rw [depth_ints ns]
    rfl
theorem foldl_min_le : ∀ (ns : List Int) (n : Int), (ns.foldl min n ≤ n) ∧ ∀ x ∈ ns, ns.foldl min n ≤ x
  | [], n => ⟨Int.le_refl _, fun _ h => (nomatch h)⟩
  | y :: ns, n => by
    obtain ⟨h1, h2⟩ := foldl_min_le ns (min n y)
    rw [List.foldl_cons]
    refine ⟨Int.le_trans h1 (Int.min_le_left _ _), fun x hx => ?_⟩
    rcases List.mem_cons.mp hx with e | e
    · rw [e]
      exact Int.le_trans h1 (Int.min_le_right _ _)
    · exact h2 x e
theorem call_minDef {X : Cx} (hc : X.calm = true) (hu : X.A.units + 64 < cLine) : CallRK X (.builtin "min") ["default"] (rMinDef X.K) := by
  intro pins s σ H vs zs us ws Q I r rz h
  obtain ⟨a, ns, rfl, rfl, hs, q0, q⟩ := h
  obtain ⟨its, rv, hl, _⟩ := I.list hs
  rw [Vals.ref1 r]
  obtain ⟨as, rd⟩ := Dp.readsAll I (ns.map PyData.int) (ns.map V.int) its (Ovc.DpAll.ints ns) rv
  obtain ⟨d, rfl, rz1⟩ : ∃ d, ws = [d] ∧ RelV .non d := by
    cases rz with
    | cons a b =>
      cases b
      exact ⟨_, rfl, a⟩
  obtain rfl : d = Value.none := rz1
  refine PySem.W.min_list_default (xs := ns.map PyData.int) (as := as) (I.ok.hd hc) hl.isList (by simpa using rd) ⟨fun x hx y hy => ?_, fun x hx => ?_⟩ ?_ (fun he h' tk hk => ?_) fun y ys i v h' tk bs e hi hr hk => ?_
  · obtain ⟨a1, _, rfl⟩ := List.mem_map.mp hx
    obtain ⟨a2, _, rfl⟩ := List.mem_map.mp hy
    rfl
  · obtain ⟨a1, _, rfl⟩ := List.mem_map.mp hx
    exact fun z => (nomatch z)
  · rw [depth_ints]
    omega
  · exact ⟨.non, H, I.kept hk, rfl, q0 (List.map_eq_nil_iff.mp he)⟩
  · have hi2 : its[i]? = some v := by simpa using hi
    have hxl : i < (ns.map V.int).length := by
      have := rv.length
      have := (List.getElem?_eq_some_iff.mp hi2).1
      omega
    have ex : (ns.map V.int)[i]? = some (ns.map V.int)[i] := List.getElem?_eq_getElem hxl
    obtain ⟨u, hu2, ru⟩ := rv.get ex
    cases hi2.symm.trans hu2
    rw [List.getElem_map] at ru
    rw [List.length_map] at hxl
    generalize en : ns[i] = m at ru
    have hm : m ∈ ns := by
      rw [← en]
      exact List.getElem_mem hxl
    cases ns with
    | nil => cases hm
    | cons n0 r0 =>
      rw [List.map_cons] at e
      injection e with e1 e2
      subst e1
      subst e2
      rw [PySem.W.minD_ints] at hr
      obtain ⟨t, rfl⟩ := ru
      have e3 : r0.foldl min n0 = m := by
        cases hr
        rfl
      obtain ⟨h1, h2⟩ := foldl_min_le r0 n0
      refine ⟨.int m, H, I.kept hk, ⟨t, rfl⟩, q m hm fun x hx => ?_⟩
      rw [← e3]
      rcases List.mem_cons.mp hx with e | e
      · rw [e]
        exact h1
      · exact h2 x e
end L2
namespace Ovc
open PySem PySem.Spec PyProof.Rows L2
/-! ### lists of pairs of ints, as data -/
def ppD (x : Int × Int) : PyData := .tuple [.int x.1, .int x.2]
def labD (L : List (Int × Int)) : PyData := .list (L.map ppD)
theorem Dp.pp_inv {K : PySem.W.Frag} {H : Hp} {v : V} {x : Int × Int} (h : Dp K H v (ppD x)) : ∃ t, v = .ref t ∧ SqT K H t [.int x.1, .int x.2] := by
  obtain ⟨a, xs, rfl, hs, ha⟩ := Dp.tup_inv h
  cases ha with
  | cons h1 r1 =>
    cases r1 with
    | cons h2 r2 =>
      cases r2
      rw [Dp.int_inv h1, Dp.int_inv h2] at hs
      exact ⟨a, rfl, hs⟩
theorem Dp.pp {K : PySem.W.Frag} {H : Hp} {t : Addr} {x : Int × Int} (h : SqT K H t [.int x.1, .int x.2]) : Dp K H (.ref t) (ppD x) := .tup h (.cons (.int _) (.cons (.int _) .nil))
theorem DpAll.pp_at {K : PySem.W.Frag} {H : Hp} {xs : List V} {L : List (Int × Int)} (h : DpAll K H xs (L.map ppD)) {i : Nat} {v : V} (hi : xs[i]? = some v) : ∃ x t, L[i]? = some x ∧ v = .ref t ∧ SqT K H t [.int x.1, .int x.2] := by
  have e := DpAll.len h
  rw [List.length_map] at e
  have hlt := (List.getElem?_eq_some_iff.mp hi).1
  have hg : L[i]? = some (L[i]'(by omega)) := List.getElem?_eq_getElem (by omega)
  obtain ⟨v', hv, dv⟩ := DpAll.get (i := i) (d := ppD (L[i]'(by omega))) h (by
    rw [List.getElem?_map, hg]
    rfl)
  cases hi.symm.trans hv
  obtain ⟨t, rfl, ht⟩ := Dp.pp_inv dv
  exact ⟨_, t, hg, rfl, ht⟩
section
variable {K : PySem.W.Frag} {σ : L2.St} {H : Hp} {a : Addr} {D : Ends} {tz tw : TS}
/-- for x, y in L -/
theorem g_forPp {j1 j2 : Nat} {Hb : Hp} {xs : List V} {L : List (Int × Int)} {tl : TE} (h : Vl tl σ H (.ref a)) (hx : SqL K Hb a xs) (hL : DpAll K Hb xs (L.map ppD)) (hb : Same Hb H) (Pv : Nat → L2.St → Hp → Prop) (h0 : Pv 0 σ H) (hl : ∀ i σ' H', Pv i σ' H' → Same Hb H')
    (hs : ∀ (i : Nat) x σ H, L[i]? = some x → Pv i σ H → tz { D with nx := Pv (i + 1), ct := Pv (i + 1), bk := D.nx } ((σ.set j1 (some (.int x.1))).set j2 (some (.int x.2))) H) (hd : ∀ σ H, Pv L.length σ H → D.nx σ H) :
    tFor (iList K tl) (gTup K 2 (gCons (gName j1) (gCons (gName j2) gNil))) tz D σ H := h _ ⟨a, rfl, ⟨_, hb.seq hx⟩, for_list (xs := xs) Pv h0 (fun i σ H _ p => (hl i σ H p).seq hx) (fun i v σ H hi p => by
      obtain ⟨x, t, hg, rfl, ht⟩ := DpAll.pp_at hL hi
      exact ⟨t, _, rfl, seqT (hl i σ H p) ht, rfl, _, _, rfl, _, _, rfl, rfl, hs i _ σ H hg p⟩) (fun σ H p => by
      have e := DpAll.len hL
      rw [List.length_map] at e
      rw [e] at p
      exact hd σ H p)⟩
theorem q_forPp {j1 j2 : Nat} {Hb : Hp} {xs : List V} {L : List (Int × Int)} {tl : TE} (h : Vl tl σ H (.ref a)) (hx : SqL K Hb a xs) (hL : DpAll K Hb xs (L.map ppD)) (hb : Same Hb H) (Pv : Nat → L2.St → Hp → Prop) (h0 : Pv 0 σ H) (hl : ∀ i σ' H', Pv i σ' H' → Same Hb H')
    (hs : ∀ (i : Nat) x σ H, L[i]? = some x → Pv i σ H → tz { D with nx := Pv (i + 1), ct := Pv (i + 1), bk := tw D } ((σ.set j1 (some (.int x.1))).set j2 (some (.int x.2))) H) (hd : ∀ σ H, Pv L.length σ H → tw D σ H) :
    tSeq (tFor (iList K tl) (gTup K 2 (gCons (gName j1) (gCons (gName j2) gNil))) tz) tw D σ H := g_forPp (D := { D with nx := tw D }) h hx hL hb Pv h0 hl hs hd
end
/-! ### the least sum of two labels -/
def minO : List Int → Option Int
  | [] => none
  | x :: xs => some (xs.foldl min x)
theorem minO_snoc {xs : List Int} {s : Int} : minO (xs ++ [s]) = some (match minO xs with
    | none => s
    | some m => if s < m then s else m) := by
  cases xs with
  | nil => rfl
  | cons x r =>
    show some ((r ++ [s]).foldl min x) = _
    rw [List.foldl_append]
    show some (min (r.foldl min x) s) = some (if s < r.foldl min x then s else r.foldl min x)
    congr 1
    split <;> omega
theorem minO_none {xs : List Int} : minO xs = none ↔ xs = [] := by
  cases xs with
  | nil => exact ⟨fun _ => rfl, fun _ => rfl⟩
  | cons x r => exact ⟨fun h => (nomatch h), fun h => (nomatch h)⟩
theorem minO_of {xs : List Int} {m : Int} (hm : m ∈ xs) (hl : ∀ x ∈ xs, m ≤ x) : minO xs = some m := by
  cases xs with
  | nil => cases hm
  | cons x r =>
    show some (r.foldl min x) = some m
    obtain ⟨h1, h2⟩ := L2.foldl_min_le r x
    have h3 : r.foldl min x ≤ m := by
      rcases List.mem_cons.mp hm with e | e
      · rw [e]
        exact h1
      · exact h2 m e
    have h4 : ∀ (r : List Int) (x : Int), r.foldl min x ∈ x :: r := by
      intro r
      induction r with
      | nil => exact fun x => List.mem_cons_self
      | cons y r ih =>
        intro x
        rw [List.foldl_cons]
        have := ih (min x y)
        rcases List.mem_cons.mp this with e | e
        · rw [e]
          by_cases c : x ≤ y
          · rw [show min x y = x by omega]
            exact List.mem_cons_self
          · rw [show min x y = y by omega]
            exact List.mem_cons_of_mem _ List.mem_cons_self
        · exact List.mem_cons_of_mem _ (List.mem_cons_of_mem _ e)
    have h5 := hl _ (h4 r x)
    congr 1
    omega
def comS (F B : List (Int × Int)) : List Int := F.flatMap fun p => (B.filter fun q => decide (p.1 = q.1)).map fun q => p.2 + q.2
def labMin (F B : List (Int × Int)) : Option Int := minO (comS F B)
/-- what a dict of these pairs holds -/
def dfold (L : List (Int × Int)) (o : Option Int) (x : Int) : Option Int := L.foldl (fun o p => if p.1 = x then some p.2 else o) o
theorem dfold_snoc {L : List (Int × Int)} {o : Option Int} {x : Int} {p : Int × Int} : dfold (L ++ [p]) o x = if p.1 = x then some p.2 else dfold L o x := by
  unfold dfold
  rw [List.foldl_append]
  rfl
theorem dfold_nodup {x c : Int} : ∀ (L : List (Int × Int)) (o : Option Int), (L.map Prod.fst).Nodup → (o = none ∨ x ∉ L.map Prod.fst) → (o.toList ++ (L.filter fun q => decide (x = q.1)).map (·.2)) = (dfold L o x).toList
  | [], o, _, _ => by
    show o.toList ++ [] = o.toList
    rw [List.append_nil]
  | p :: L, o, hn, ho => by
    rw [List.map_cons, List.nodup_cons] at hn
    have e : dfold (p :: L) o x = dfold L (if p.1 = x then some p.2 else o) x := rfl
    rw [e]
    by_cases h : p.1 = x
    · rw [if_pos h]
      have o0 : o = none := by
        rcases ho with ho | ho
        · exact ho
        · exact absurd (by rw [List.map_cons, h]; exact List.mem_cons_self) ho
      have := dfold_nodup (x := x) (c := c) L (some p.2) hn.2 (.inr (by rw [← h]; exact hn.1))
      rw [← this, o0, List.filter_cons_of_pos (by exact decide_eq_true h.symm)]
      rfl
    · rw [if_neg h, List.filter_cons_of_neg (by
        intro z
        exact h (of_decide_eq_true z).symm)]
      exact dfold_nodup (x := x) (c := c) L o hn.2 (ho.imp id fun z y => z (by rw [List.map_cons]; exact List.mem_cons_of_mem _ y))
theorem row_eq {x d : Int} {B : List (Int × Int)} (hn : (B.map Prod.fst).Nodup) : (B.filter fun q => decide (x = q.1)).map (fun q => d + q.2) = ((dfold B none x).map fun c => d + c).toList := by
  have h := dfold_nodup (x := x) (c := 0) B none hn (.inl rfl)
  have h : (B.filter fun q => decide (x = q.1)).map (·.2) = (dfold B none x).toList := h
  rw [show (B.filter fun q => decide (x = q.1)).map (fun q => d + q.2) = ((B.filter fun q => decide (x = q.1)).map (·.2)).map (fun c => d + c) by
    rw [List.map_map]
    rfl, h]
  cases dfold B none x <;> rfl
theorem comS_snoc {F B : List (Int × Int)} {p : Int × Int} : comS (F ++ [p]) B = comS F B ++ (B.filter fun q => decide (p.1 = q.1)).map fun q => p.2 + q.2 := by
  unfold comS
  rw [List.flatMap_append]
  simp
def spLabAns (K : PySem.W.Frag) : Sp := fun vs H Q _ => ∃ (u v : V) (F B : List (Int × Int)), vs = [u, v] ∧ Dp K H u (labD F) ∧ Dp K H v (labD B) ∧ F.length ≤ 1000 ∧ B.length ≤ 1000 ∧ (B.map Prod.fst).Nodup ∧
  ∀ H', Same H H' → Q (oV (labMin F B)) H'
/-- a dict comprehension over a list -/
theorem dc_list {K : PySem.W.Frag} {a : Addr} {xs : List V} {g : TG} {tt : TT} {tk tv : TE} {vs : List Nat} {σ : L2.St} {H1 : Hp} {D : Addr} {Qd : Hp → Prop} (Pv : Nat → Hp → Prop) (h0 : Pv 0 (upd H1 D (.dK []))) (hl : ∀ i H, i ≤ xs.length → Pv i H → SqL K H a xs)
    (hs : ∀ i x H, xs[i]? = some x → Pv i H → g x (wipe σ vs) H fun σ2 H2 => wipe σ2 vs = wipe σ vs ∧ tt σ2 H2 fun b H3 =>
      if b = true then tk σ2 H3 fun y H4 => tv σ2 H4 fun z H5 => ∃ kvs k, y = kV k ∧ H5 D = some (.dK kvs) ∧ kvs.length < sizeLine ∧ Pv (i + 1) (upd H5 D (.dK (putK kvs k z))) else Pv (i + 1) H3) (hd : ∀ H, Pv xs.length H → Qd H) :
    ∃ W : Nat → Nat → Hp → Prop, (∃ m, W 0 m (upd H1 D (.dK []))) ∧ ∀ i m H, W i m H →
      ((Itl K a).stop i H ∧ Qd H) ∨ ((Itl K a).go i H ∧ ∃ Nx : Hp → Prop, (∀ H', Nx H' → ∃ m', m' < m ∧ W (i + 1) m' H') ∧ ∀ x H', (Itl K a).yld i H x H' → g x (wipe σ vs) H' fun σ2 H2 => wipe σ2 vs = wipe σ vs ∧ tt σ2 H2 fun b H3 =>
        if b = true then tk σ2 H3 fun y H4 => tv σ2 H4 fun z H5 => ∃ kvs k, y = kV k ∧ H5 D = some (.dK kvs) ∧ kvs.length < sizeLine ∧ Nx (upd H5 D (.dK (putK kvs k z))) else Nx H3) := by
  refine ⟨fun i m H => m = xs.length - i ∧ i ≤ xs.length ∧ Pv i H, ⟨xs.length, by simp, Nat.zero_le _, h0⟩, ?_⟩
  rintro i m H ⟨rfl, hi, p⟩
  have q := hl i H hi p
  by_cases hlt : i < xs.length
  · refine .inr ⟨⟨xs, xs[i], q, by simp [hlt]⟩, Pv (i + 1), fun H' p' => ⟨xs.length - (i + 1), by omega, rfl, hlt, p'⟩, fun x H' y => ?_⟩
    obtain ⟨e, y⟩ := y
    subst e
    exact hs i x _ (y xs q) p
  · have e : i = xs.length := by omega
    subst e
    exact .inl ⟨⟨xs, q, Nat.le_refl _⟩, hd H p⟩
theorem putK_lenI {kvs : List (L2.Key × V)} {k : L2.Key} {v : V} : (putK kvs k v).length ≤ kvs.length + 1 := by
  unfold putK
  split
  · rw [List.length_map]
    omega
  · rw [List.length_append]
    exact Nat.le_refl _
theorem yes_at {σ : L2.St} {H : Hp} {P : Bool → Hp → Prop} (h : P true H) : tYes σ H P := h
theorem comS_len {B : List (Int × Int)} (hn : (B.map Prod.fst).Nodup) : ∀ F : List (Int × Int), (comS F B).length ≤ F.length
  | [] => Nat.le_refl _
  | p :: F => by
    have e : comS (p :: F) B = (B.filter fun q => decide (p.1 = q.1)).map (fun q => p.2 + q.2) ++ comS F B := by
      unfold comS
      rw [List.flatMap_cons]
    have ih := comS_len hn F
    rw [e, List.length_append, row_eq hn, List.length_cons]
    cases dfold B none p.1 with
    | none =>
      show 0 + _ ≤ _
      omega
    | some c =>
      show 1 + _ ≤ _
      omega
abbrev sLabAns : Stmt := topS 1
theorem scLabAns : FnScope ["forward", "backward", "prices", "sums", "place", "price"] ["forward", "backward"] (defScope sLabAns) := ⟨rfl, rfl, rfl, by decide +kernel, rfl, by decide +kernel, by decide +kernel⟩
section
variable {P : Program} {w : World} {K : PySem.W.Frag} {mg : Str → Option Value} {base : Heap}
theorem ok_labAns {f : Addr} {fd : FuncData} {k : Nat} (F : Fun K "label_answer" "label_answer" sLabAns f fd) (mm : mg "min" = none) : FnOk P w K mg base CX0 (k + 1) f fd ["forward", "backward"] (spLabAns K) := by
  refine F.ok scLabAns (fun vs H Q E h => ?_) (fun cdv A outer s H vs Q E hr h => ?_)
  · obtain ⟨u, v, F, B, rfl, _⟩ := h
    rfl
  · obtain ⟨u, v, F, B, rfl, hF, hB, lF, lB, hn, q⟩ := h
    have hu := hu_of hr
    refine ⟨_, pss_cons (ps_set (i := 2) scLabAns.nd rfl (.inr rfl) (pe_dc (own := [("place", 4), ("price", 5)]) (g := gTup K 2 (gCons (gName 4) (gCons (gName 5) (gNil)))) (tt := tYes) (tk := _) (tv := _) rfl scLabAns.nd (pi_list (pv 1)) (blkOk_by (own := [("place", 4), ("price", 5)]) (N := ["forward", "backward", "prices", "sums", "place", "price"]) (sc := defScope sLabAns) (by decide +kernel)) (fun _ _ _ _ _ => pg_tup rfl (pgs_cons (pg_name (i := 4) scLabAns.nd rfl (Or.inl rfl)) (pgs_cons (pg_name (i := 5) scLabAns.nd rfl (Or.inl rfl)) pgs_nil))) (fun _ _ _ _ _ => by exact pts_nil) (fun _ _ _ _ _ => by exact (pv 4)) (fun _ _ _ _ _ => by exact (pv 5))))
      (pss_cons (ps_setLc (i := 3) (own := [("place", 4), ("price", 5)]) (g := gTup K 2 (gCons (gName 4) (gCons (gName 5) (gNil)))) (tt := _) (te := _) (by rfl) scLabAns.nd rfl rfl (sw_true rfl rfl rfl (by decide +kernel)) (pi_list (pv 0)) (blkOk_by (own := [("place", 4), ("price", 5)]) (N := ["forward", "backward", "prices", "sums", "place", "price"]) (sc := defScope sLabAns) (by decide +kernel)) (fun _ _ _ _ _ => pg_tup rfl (pgs_cons (pg_name (i := 4) scLabAns.nd rfl (Or.inl rfl)) (pgs_cons (pg_name (i := 5) scLabAns.nd rfl (Or.inl rfl)) pgs_nil))) (fun _ _ _ _ _ => by exact (pts_one (pt_cmp (pc_din hu (pv 4) (pv 2))))) (fun _ _ _ _ _ => by exact (pe_op op_add (pv 5) (pe_dget hu (pv 2) (pv 4) (fun _ _ => rfl)))))
      (pss_one (ps_ret (pe_callBK (call_minDef rfl hr.units) (by rfl) mm (by decide +kernel) (pa_cons (pv 3) pa_nil) (pk_cons pe_non pk_nil))))), ?_⟩
    obtain ⟨af, xf, rfl, sf, df⟩ := Dp.lst_inv hF
    obtain ⟨ab, xb, rfl, sb, db⟩ := Dp.lst_inv hB
    have eB := DpAll.len db
    rw [List.length_map] at eB
    have eF := DpAll.len df
    rw [List.length_map] at eF
    -- prices
    refine q_asgE ⟨.ref ab, rfl, ab, rfl, ⟨_, sb⟩, fun D nD => dc_list (K := K) (a := ab) (xs := xb)
      (fun i H3 => ∃ kvs : List (L2.Key × V), H3 D = some (.dK kvs) ∧ Same H (but H3 D) ∧ kvs.length ≤ i ∧ ∀ x : Int, valV kvs (Sum.inl x) = (dfold (B.take i) none x).map V.int)
      ⟨[], upd_same, by rw [but_upd]; exact same_but (Same.refl H) nD, Nat.le_refl _, fun x => rfl⟩ (fun i H3 _ hP => ?_) (fun i v H3 hi hP => ?_) (fun H3 hP => ?_)⟩
    · obtain ⟨_, _, s3, _⟩ := hP
      exact (s3.trans but_same).seq sb
    · obtain ⟨kvs, hD, s3, hl, hv⟩ := hP
      obtain ⟨x, t, hg, rfl, ht⟩ := DpAll.pp_at db hi
      have hil := (List.getElem?_eq_some_iff.mp hg).1
      refine ⟨t, _, rfl, seqT (s3.trans but_same) ht, rfl, _, _, rfl, _, _, rfl, rfl, rfl, ?_⟩
      refine yes_at (if_true_of rfl ⟨_, rfl, _, rfl, kvs, Sum.inl x.1, rfl, hD, Nat.lt_of_le_of_lt (m := 1000) (by omega) (by decide), putK kvs (Sum.inl x.1) (.int x.2), upd_same, ?_, ?_, fun y => ?_⟩)
      · rw [but_upd]
        exact s3
      · have := putK_lenI (kvs := kvs) (k := Sum.inl x.1) (v := .int x.2)
        omega
      · rw [valV_put, take_snoc hg, dfold_snoc, hv]
        by_cases e : x.1 = y
        · rw [if_pos e, if_pos (by rw [e])]
          rfl
        · rw [if_neg e, if_neg (fun z => e (Sum.inl.inj z).symm)]
    · obtain ⟨kvs, hD, s3, hl, hv⟩ := hP
      rw [eB, List.take_length] at hv
      have sH := s3.trans but_same
      -- sums
      refine ⟨.ref af, rfl, af, rfl, ⟨_, sH.seq sf⟩, fun S nS => lc_list (K := K) (a := af) (xs := xf)
        (fun i H4 => H4 S = some (.lst ((comS (F.take i) B).map V.int)) ∧ Same H3 H4) ⟨upd_same, same_upd nS⟩ (fun i H4 _ hP => (sH.trans hP.2).seq sf) (fun i v H4 hi hP => ?_) (fun H4 hP => ?_)⟩
      · obtain ⟨hS, s4⟩ := hP
        obtain ⟨x, t, hg, rfl, ht⟩ := DpAll.pp_at df hi
        have hil := (List.getElem?_eq_some_iff.mp hg).1
        have en : comS (F.take (i + 1)) B = comS (F.take i) B ++ ((dfold B none x.1).map fun c => x.2 + c).toList := by
          rw [take_snoc hg, comS_snoc, row_eq hn]
        have hlen : (comS (F.take i) B).length ≤ 1000 := Nat.le_trans (comS_len hn _) (by rw [List.length_take]; omega)
        refine ⟨t, _, rfl, seqT (sH.trans s4) ht, rfl, _, _, rfl, _, _, rfl, rfl, rfl, ?_⟩
        have hD4 := s4 _ _ hD
        refine ⟨_, rfl, _, rfl, D, _, rfl, DGet.k (k := Sum.inl x.1) hD4, _, rfl, ?_⟩
        rw [hv]
        cases e : dfold B none x.1 with
        | none =>
          rw [e] at en
          refine if_false_of rfl ⟨?_, s4⟩
          rw [hS, en]
          simp
        | some c =>
          rw [e] at en
          have e1 : valV kvs (Sum.inl x.1) = some (.int c) := by
            rw [hv, e]
            rfl
          refine if_true_of rfl ⟨_, rfl, _, rfl, _, rfl, D, .int c, rfl, by
            rw [← e1]
            exact DGet.k (k := Sum.inl x.1) hD4, _, _, rfl, rfl, _, hS, ?_, ?_, same_upd' s4 nS⟩
          · rw [List.length_map]
            exact Nat.lt_of_le_of_lt (m := 1000) (Nat.le_trans hlen (by omega)) (by decide)
          · rw [upd_same, en, List.map_append]
            rfl
      · obtain ⟨hS, s4⟩ := hP
        rw [eF, List.take_length] at hS
        have sE := sH.trans s4
        refine ⟨_, rfl, S, comS F B, rfl, rfl, .of hS, fun e => ?_, fun m hm hle => ?_⟩
        · have := q H4 sE
          unfold labMin at this
          rw [e] at this
          exact this
        · have := q H4 sE
          unfold labMin at this
          rw [minO_of hm hle] at this
          exact this
end
def spCommon (K : PySem.W.Frag) : Sp := fun vs H Q _ => ∃ (u v : V) (F B : List (Int × Int)), vs = [u, v] ∧ Dp K H u (labD F) ∧ Dp K H v (labD B) ∧ Q (oV (labMin F B)) H
theorem filt_snoc {x d : Int} {B : List (Int × Int)} {p : Int × Int} : ((B ++ [p]).filter fun q => decide (x = q.1)).map (fun q => d + q.2) = (B.filter fun q => decide (x = q.1)).map (fun q => d + q.2) ++ if x = p.1 then [d + p.2] else [] := by
  rw [List.filter_append, List.map_append]
  congr 1
  by_cases h : x = p.1
  · rw [if_pos h, List.filter_cons_of_pos (by exact decide_eq_true h)]
    rfl
  · rw [if_neg h, List.filter_cons_of_neg (by exact fun z => h (of_decide_eq_true z))]
    rfl
abbrev sCommon : Stmt := topS 7
theorem scCommon : FnScope ["forward", "backward", "best", "x", "there", "y", "back"] ["forward", "backward"] (defScope sCommon) := ⟨rfl, rfl, rfl, by decide +kernel, rfl, by decide +kernel, by decide +kernel⟩
section
variable {P : Program} {w : World} {K : PySem.W.Frag} {mg : Str → Option Value} {base : Heap}
theorem ok_common {f : Addr} {fd : FuncData} {k : Nat} (F : Fun K "_law_common" "_law_common" sCommon f fd) : FnOk P w K mg base CX0 (k + 1) f fd ["forward", "backward"] (spCommon K) := by
  refine F.ok scCommon (fun vs H Q E h => ?_) (fun cdv A outer s H vs Q E hr h => ?_)
  · obtain ⟨u, v, F, B, rfl, _⟩ := h
    rfl
  · obtain ⟨u, v, F, B, rfl, hF, hB, q⟩ := h
    refine ⟨_, pss_cons (ps_set (i := 2) scCommon.nd rfl (.inl rfl) pe_non)
      (pss_cons (ps_for PassesOwn.never rfl (pi_list (pv 0)) (pg_tup rfl (pgs_cons (pg_name (i := 3) scCommon.nd rfl (.inl rfl)) (pgs_cons (pg_name (i := 4) scCommon.nd rfl (.inl rfl)) pgs_nil)))
      (pss_one (ps_for PassesOwn.never rfl (pi_list (pv 1)) (pg_tup rfl (pgs_cons (pg_name (i := 5) scCommon.nd rfl (.inl rfl)) (pgs_cons (pg_name (i := 6) scCommon.nd rfl (.inl rfl)) pgs_nil)))
        (pss_one (ps_if (PW.pt (pw_and (pt_cmpR op_eq (pv 3) (pv 5) (nomark _)) (pw_and1 (PW.pt (pw_or (pt_cmpR op_isN (pv 2) pe_non (nomark _)) (pw_or1 (pt_cmpR op_lt (pe_op op_add (pv 4) (pv 6)) (pv 2) (nomark _))))))))
          (pss_one (ps_set (i := 2) scCommon.nd rfl (.inl rfl) (pe_op op_add (pv 4) (pv 6))))
          pss_nil)))))
      (pss_one (ps_ret (pv 2)))), ?_⟩
    obtain ⟨af, xf, rfl, sf, df⟩ := Dp.lst_inv hF
    obtain ⟨ab, xb, rfl, sb, db⟩ := Dp.lst_inv hB
    refine q_asg vl_c ?_
    refine q_forPp (Hb := H) (vl_var rfl) sf df (Same.refl H)
      (fun i σ H3 => ∃ y3 y4 y5 y6, σ = [some (.ref af), some (.ref ab), some (oV (minO (comS (F.take i) B))), y3, y4, y5, y6] ∧ H3 = H)
      ⟨none, none, none, none, rfl, rfl⟩ (fun i σ H3 hP => ?_) (fun i p σ H3 hi hP => ?_) (fun σ H3 hP => ?_)
    · obtain ⟨_, _, _, _, _, rfl⟩ := hP
      exact Same.refl _
    · obtain ⟨y3, y4, y5, y6, rfl, rfl⟩ := hP
      refine g_forPp (Hb := H3) (vl_var rfl) sb db (Same.refl H3)
        (fun j σ H4 => ∃ y5 y6, σ = [some (.ref af), some (.ref ab), some (oV (minO (comS (F.take i) B ++ ((B.take j).filter fun q => decide (p.1 = q.1)).map fun q => p.2 + q.2))), some (.int p.1), some (.int p.2), y5, y6] ∧ H4 = H3)
        ⟨y5, y6, by
          show _ = [some (V.ref af), some (V.ref ab), some (oV (minO (comS (F.take i) B ++ []))), _, _, _, _]
          rw [List.append_nil] <;> rfl, rfl⟩ (fun j σ H4 hP => ?_) (fun j r σ H4 hj hP => ?_) (fun σ H4 hP => ?_)
      · obtain ⟨_, _, _, rfl⟩ := hP
        exact Same.refl _
      · obtain ⟨y5, y6, rfl, rfl⟩ := hP
        have en : minO (comS (F.take i) B ++ ((B.take (j + 1)).filter fun q => decide (p.1 = q.1)).map fun q => p.2 + q.2) = minO ((comS (F.take i) B ++ ((B.take j).filter fun q => decide (p.1 = q.1)).map fun q => p.2 + q.2) ++ if p.1 = r.1 then [p.2 + r.2] else []) := by
          rw [take_snoc hj, filt_snoc, ← List.append_assoc]
        by_cases c : p.1 = r.1
        · rw [if_pos c, minO_snoc] at en
          cases e : minO (comS (F.take i) B ++ ((B.take j).filter fun q => decide (p.1 = q.1)).map fun q => p.2 + q.2) with
          | none =>
            rw [e] at en
            refine g_when (b := true) (an_and (k := true) (m := true) (an_test ((vl_eq (vl_var rfl) (vl_var rfl) rfl).is (by rw [c, decide_eq_true rfl]))) fun _ => an_or (k := true) (m := true) (an_test ((vl_isN (vl_var rfl)).is rfl)) fun h => by cases h) (fun _ => ?_) (fun h => by cases h)
            refine g_asg (v := .int (p.2 + r.2)) (vl_I0 (vl_var rfl) (vl_var rfl)) ⟨some (.int r.1), some (.int r.2), ?_, rfl⟩
            rw [en] <;> rfl
          | some m =>
            rw [e] at en
            refine g_when (b := decide (p.2 + r.2 < m)) ((an_and (k := true) (m := decide (p.2 + r.2 < m)) (an_test ((vl_eq (vl_var rfl) (vl_var rfl) rfl).is (by rw [c, decide_eq_true rfl]))) fun _ => (an_or (k := false) (m := decide (p.2 + r.2 < m)) (an_test ((vl_isN (vl_var rfl)).is rfl)) fun _ => an_test (vl_I0 (g := fun i j => .bl (decide (i < j))) (vl_I0 (vl_var rfl) (vl_var rfl)) (vl_var rfl))).is (Bool.false_or _)).is (Bool.true_and _)) (fun h => ?_) (fun h => ?_)
            · have en : _ = some (if p.2 + r.2 < m then p.2 + r.2 else m) := en
              rw [if_pos (of_decide_eq_true h)] at en
              refine g_asg (v := .int (p.2 + r.2)) (vl_I0 (vl_var rfl) (vl_var rfl)) ⟨some (.int r.1), some (.int r.2), ?_, rfl⟩
              rw [en] <;> rfl
            · have en : _ = some (if p.2 + r.2 < m then p.2 + r.2 else m) := en
              rw [if_neg (of_decide_eq_false h)] at en
              refine ⟨some (.int r.1), some (.int r.2), ?_, rfl⟩
              rw [en] <;> rfl
        · rw [if_neg c, List.append_nil] at en
          refine g_when (b := false) (an_and (k := false) (m := false) (an_test ((vl_eq (vl_var rfl) (vl_var rfl) rfl).is (by rw [decide_eq_false (fun z => c (V.int.inj z))]))) fun h => by cases h) (fun h => by cases h) (fun _ => ?_)
          refine ⟨some (.int r.1), some (.int r.2), ?_, rfl⟩
          rw [en] <;> rfl
      · obtain ⟨y5, y6, rfl, rfl⟩ := hP
        rw [List.take_length]
        refine ⟨some (.int p.1), some (.int p.2), y5, y6, ?_, rfl⟩
        rw [take_snoc hi, comS_snoc] <;> rfl
    · obtain ⟨y3, y4, y5, y6, rfl, rfl⟩ := hP
      rw [List.take_length]
      exact g_ret (vl_var rfl) q
end
def spLabel (K : PySem.W.Frag) : Sp := fun vs H Q _ => ∃ (a : Addr) (ds : List Int) (k : Int), vs = [.ref a, .int k] ∧ SqL K H a (ds.map V.int) ∧ 0 ≤ k ∧
  ∀ (H' : Hp) (q : Addr) (ts : List V) (L : List (Int × Int)), Same H H' → H q = none → H' q = some (.lst ts) → DpAll K H' ts (L.map ppD) → L.length ≤ 8 → (L.map Prod.fst).Nodup → Q (.ref q) H'
theorem DpAll.snocPp {K : PySem.W.Frag} {H : Hp} {ts : List V} {L : List (Int × Int)} {t : Addr} {x : Int × Int} (h : DpAll K H ts (L.map ppD)) (ht : SqT K H t [.int x.1, .int x.2]) : DpAll K H (ts ++ [.ref t]) ((L ++ [x]).map ppD) := by
  rw [List.map_append]
  exact DpAll.app h (DpAll.one (Dp.pp ht))
/-- elements of a list that is changed at its end -/
theorem DpAll.but {K : PySem.W.Frag} {H : Hp} {o : Addr} {ts : List V} {ds : List PyData} (h : DpAll K (but H o) ts ds) {u : HO} : DpAll K (upd H o u) ts ds := DpAll.to h but_upd_same
abbrev sLabelL : Stmt := topS 8
theorem scLabelL : FnScope ["draws", "first", "label", "place", "k"] ["draws", "first"] (defScope sLabelL) := ⟨rfl, rfl, rfl, by decide +kernel, rfl, by decide +kernel, by decide +kernel⟩
section
variable {P : Program} {w : World} {K : PySem.W.Frag} {mg : Str → Option Value} {base : Heap}
theorem ok_label {f : Addr} {fd : FuncData} {k : Nat} (F : Fun K "_law_label" "_law_label" sLabelL f fd) (c_law_at : Kal P w K mg base k "_law_at" ["draws", "k", "many"] (spAt K)) (mr : mg "range" = none) (mi : mg "int" = none) : FnOk P w K mg base CX0 (k + 1) f fd ["draws", "first"] (spLabel K) := by
  refine F.ok scLabelL (fun vs H Q E h => ?_) (fun cdv A outer s H vs Q E hr h => ?_)
  · obtain ⟨a, ds, k, rfl, _⟩ := h
    rfl
  · obtain ⟨a, ds, k0, rfl, hS, hk, q⟩ := h
    refine ⟨_, pss_cons (ps_set (i := 2) scLabelL.nd rfl (.inl rfl) (pe_lst pa_nil))
      (pss_cons (ps_set (i := 3) scLabelL.nd rfl (.inl rfl) pe_int)
      (pss_cons (ps_for PassesOwn.never rfl (pi_range1 (by rfl) mr (pa_cons (pe_k c_law_at hr (by first | decide | omega) (by rfl) (pa_cons (pv 0) (pa_cons (pv 1) (pa_cons pe_int pa_nil)))) pa_nil)) (pg_name (i := 4) scLabelL.nd rfl (.inl rfl))
      (pss_cons (ps_set (i := 3) scLabelL.nd rfl (.inl rfl) (pe_op op_add (pe_op op_add (pv 3) (pe_k c_law_at hr (by first | decide | omega) (by rfl) (pa_cons (pv 0) (pa_cons (pe_op op_add (pe_op op_add (pv 1) pe_int) (pe_op op_mul pe_int (pv 4))) (pa_cons pe_int pa_nil))))) (pe_callTy call_int1 (by rfl) mi (by decide +kernel) (pa_cons (pe_cmpR op_gt (pv 4) pe_int (nomark _)) pa_nil))))
        (pss_one (ps_expr (pe_bm PySem.F.plainAttrs_list PySem.F.slot_list_append PySem.F.type_list_append mt_append (pv 2) (pa_cons (pe_tup (pa_cons (pv 3) (pa_cons (pe_k c_law_at hr (by first | decide | omega) (by rfl) (pa_cons (pv 0) (pa_cons (pe_op op_add (pe_op op_add (pv 1) pe_int) (pe_op op_mul pe_int (pv 4))) (pa_cons (pe_ix ix_list (pe_lst (pa_cons pe_int (pa_cons pe_int pa_nil))) (pe_k c_law_at hr (by first | decide | omega) (by rfl) (pa_cons (pv 0) (pa_cons (pv 1) (pa_cons pe_int pa_nil)))) (fun _ _ => rfl)) pa_nil)))) pa_nil))) pa_nil))))))
      (pss_one (ps_ret (pv 2))))), ?_⟩
    refine q_lnew fun o no => ?_
    refine q_asg vl_c ?_
    have so : Same H (upd H o (.lst [])) := same_upd no
    refine q_forRI (P := fun n => 0 ≤ n ∧ n < 9) (vi_call (va_cons (vl_var rfl) (va_cons (vl_var rfl) (va_cons vl_c va_nil))) fun Q E q => ⟨a, ds, k0, 9, rfl, so.seq hS, hk, by decide, q⟩) (fun n hn => ⟨by omega, by omega⟩)
      (fun i σ H3 => ∃ pl y4 ts L, σ = [some (.ref a), some (.int k0), some (.ref o), some (.int pl), y4] ∧ Same H (but H3 o) ∧ H3 o = some (.lst ts) ∧ DpAll K (but H3 o) ts (L.map ppD) ∧ L.length = i ∧ (L.map Prod.fst).Nodup ∧ (∀ x ∈ L, x.1 ≤ pl))
      ⟨0, none, [], [], rfl, same_but so no, upd_same, .nil, rfl, .nil, fun _ h => (nomatch h)⟩ (fun n hn i σ H3 hi hP => ?_) (fun n hn σ H3 hP => ?_)
    · obtain ⟨pl, y4, ts, L, rfl, s3, ho, hd, hl, hnd, hle⟩ := hP
      have s3' := s3.trans but_same
      -- place
      refine q_asgI (P := fun r => pl + (if 0 < i then 1 else 0) ≤ r) (i := 3) ?_ (fun r hr0 => ?_)
      · refine vi_I0 (P1 := fun r => pl ≤ r) (P2 := fun r => r = if decide ((0 : Int) < (i : Int)) = true then 1 else 0) (vi_I0 (P1 := fun r => r = pl) (P2 := fun r => 0 ≤ r) (vi_of (vl_var rfl)) (vi_call (va_cons (vl_var rfl) (va_cons (vl_I0 (vl_I0 (vl_var rfl) vl_c) (vl_I vl_c (vl_var rfl) (.inl ⟨by decide, by decide⟩))) (va_cons vl_c va_nil))) fun Q E q => ⟨a, ds, k0 + 1 + 2 * i, 3, rfl, s3'.seq hS, by omega, by decide, fun r hr => q r hr.1⟩) (fun p q hp hq => by omega)) (vi_of (vl_int1b (vl_I0 (vl_var rfl) vl_c))) (fun p q hp hq => ?_)
        subst hq
        by_cases c : 0 < i
        · rw [if_pos c, if_pos (decide_eq_true (by omega))]
          omega
        · rw [if_neg c, if_neg (by rw [decide_eq_false (by omega)]; exact Bool.false_ne_true)]
          omega
      · refine ⟨.ref o, rfl, .inl ⟨rfl, _, .inl (.inl ho)⟩, .int r, rfl, .ref a, rfl, ?_⟩
        refine (vl_I0 (vl_I0 (vl_var rfl) vl_c) (vl_I vl_c (vl_var rfl) (.inl ⟨by decide, by decide⟩))) _ ?_
        refine ⟨by show 2 ≤ sizeLine; decide, fun l nl => ?_⟩
        have s4 : Same H3 (upd H3 l (.lst [.int 5, .int 2000000])) := same_upd nl
        refine (vi_call (P := fun r => 0 ≤ r ∧ r < 2) (va_cons (vl_var rfl) (va_cons (vl_var rfl) (va_cons vl_c va_nil))) fun Q E q => ⟨a, ds, k0, 2, rfl, (s3'.trans s4).seq hS, hk, by decide, q⟩) _ fun j hj => ?_
        obtain ⟨d, gd, gd2⟩ := at_int (ds := [5, 2000000]) (k := j) hj.1 (by show j < 2; exact hj.2)
        have hd0 : 0 < d := by
          have := List.mem_of_getElem? gd2
          simp only [List.mem_cons, List.not_mem_nil, or_false] at this
          omega
        refine ⟨l, _, _, _, rfl, rfl, .of upd_same, gd, a, ds, _, d, rfl, (s3'.trans s4).seq hS, by omega, hd0, fun z hz => ?_⟩
        refine ⟨by show 2 ≤ sizeLine; decide, fun T nT => ?_⟩
        have s5 : Same H3 (upd (upd H3 l (.lst [.int 5, .int 2000000])) T (.tup [.int r, .int z])) := s4.trans (same_upd nT)
        have oT : T ≠ o := (ne_of_none (s4 _ _ ho) nT).symm
        refine ⟨o, ts, .ref T, rfl, rfl, s5 _ _ ho, ?_, r, _, ts ++ [.ref T], L ++ [(r, z)], rfl, ?_, upd_same, ?_, ?_, ?_, ?_⟩
        · have e := DpAll.len hd
          rw [List.length_map] at e
          exact Nat.lt_of_le_of_lt (m := 1000) (by omega) (by decide)
        · rw [but_upd]
          exact s3.trans (but_mono s5)
        · rw [but_upd]
          refine DpAll.snocPp (DpAll.to hd (but_mono s5)) (.of ?_)
          rw [but_ne oT]
          exact upd_same
        · rw [List.length_append, hl]
          rfl
        · rw [List.map_append, List.nodup_append]
          refine ⟨hnd, List.nodup_cons.mpr ⟨List.not_mem_nil, .nil⟩, fun x hx y hy e => ?_⟩
          obtain ⟨u, hu, rfl⟩ := List.mem_map.mp hx
          have hy : y = r := List.mem_singleton.mp hy
          have h1 := hle u hu
          have h2 : 0 < i := by
            rw [← hl]
            exact List.length_pos_of_mem hu
          rw [if_pos h2] at hr0
          omega
        · intro x hx
          rcases List.mem_append.mp hx with hx | hx
          · have := hle x hx
            split at hr0 <;> omega
          · rw [List.mem_singleton.mp hx]
            exact Int.le_refl _
    · obtain ⟨pl, y4, ts, L, rfl, s3, ho, hd, hl, hnd, hle⟩ := hP
      exact g_ret (vl_var rfl) (q H3 o ts L (s3.trans but_same) no ho (DpAll.to hd but_same) (by omega) hnd)
end
theorem lay_pp : ∀ L : List (Int × Int), PyData.canLayAll0 (L.map ppD) = true ∧ PyData.depthAll (L.map ppD) ≤ 1
  | [] => ⟨rfl, Nat.zero_le _⟩
  | p :: L => by
    have ih := lay_pp L
    constructor
    · show (true && PyData.canLayAll0 (L.map ppD)) = true
      rw [ih.1]
      rfl
    · show max 1 (PyData.depthAll (L.map ppD)) ≤ 1
      have := ih.2
      omega
theorem shaped_two (F B : List (Int × Int)) : SeqAt.shaped (.tuple [labD F, labD B]) = true := by
  have h1 := lay_pp F
  have h2 := lay_pp B
  show ((PyData.canLayAll0 (F.map ppD) && (PyData.canLayAll0 (B.map ppD) && true)) && decide (max (PyData.depthAll (F.map ppD) + 1) (max (PyData.depthAll (B.map ppD) + 1) 0) + 1 ≤ 64)) = true
  rw [h1.1, h2.1, decide_eq_true (by
    have := h1.2
    have := h2.2
    omega)]
  rfl
def spLaw (K : PySem.W.Frag) : Sp := fun vs H Q _ => ∃ (a : Addr) (ns : List Int), vs = [.ref a] ∧ SqL K H a (ns.map V.int) ∧ ns.length ≤ 63 ∧ ∀ H', Q (.bl true) H'
abbrev sLaw : Stmt := topS 9
theorem scLaw : FnScope ["script", "draws", "turn", "forward", "backward", "kept", "told", "due"] ["script"] (defScope sLaw) := ⟨rfl, rfl, rfl, by decide +kernel, rfl, by decide +kernel, by decide +kernel⟩
section
variable {P : Program} {w : World} {K : PySem.W.Frag} {mg : Str → Option Value} {base : Heap}
theorem ok_law {f : Addr} {fd : FuncData} {k : Nat} (k1 : 1 ≤ k) (F : Fun K "law" "law" sLaw f fd) (c_law_draws : Kal P w K mg base 1 "_law_draws" ["script"] (spDraws K)) (c_law_label : Kal P w K mg base k "_law_label" ["draws", "first"] (spLabel K)) (c_label_answer : Kal P w K mg base 1 "label_answer" ["forward", "backward"] (spLabAns K))
    (c_law_common : Kal P w K mg base 1 "_law_common" ["forward", "backward"] (spCommon K)) (c_law_is_integer : Kal P w K mg base 1 "_law_is_integer" ["actual"] spIsI) (mr : mg "range" = none) (mL : mg "list" = none) : FnOk P w K mg base CX0 (k + 1) f fd ["script"] (spLaw K) := by
  refine F.ok scLaw (fun vs H Q E h => ?_) (fun cdv A outer s H vs Q E hr h => ?_)
  · obtain ⟨a, ns, rfl, _⟩ := h
    rfl
  · obtain ⟨a, ns, rfl, hS, hlen, q⟩ := h
    refine ⟨_, pss_cons (ps_set (i := 1) scLaw.nd rfl (.inl rfl) (pe_k c_law_draws hr (by first | decide | omega) (by rfl) (pa_cons (pv 0) pa_nil)))
      (pss_cons (ps_for PassesOwn.never rfl (pi_range1 (by rfl) mr (pa_cons pe_int pa_nil)) (pg_name (i := 2) scLaw.nd rfl (.inl rfl))
      (pss_cons (ps_set (i := 3) scLaw.nd rfl (.inl rfl) (pe_k c_law_label hr (by first | decide | omega) (by rfl) (pa_cons (pv 1) (pa_cons (pe_op op_mul pe_int (pv 2)) pa_nil))))
        (pss_cons (ps_set (i := 4) scLaw.nd rfl (.inl rfl) (pe_k c_law_label hr (by first | decide | omega) (by rfl) (pa_cons (pv 1) (pa_cons (pe_op op_add (pe_op op_mul pe_int (pv 2)) pe_int) pa_nil))))
        (pss_cons (ps_set (i := 5) scLaw.nd rfl (.inl rfl) (pe_tup (pa_cons (pe_callTy call_list_of (by rfl) mL (by decide +kernel) (pa_cons (pv 3) pa_nil)) (pa_cons (pe_callTy call_list_of (by rfl) mL (by decide +kernel) (pa_cons (pv 4) pa_nil)) pa_nil))))
        (pss_cons (ps_set (i := 6) scLaw.nd rfl (.inl rfl) (pe_k c_label_answer hr (by first | decide | omega) (by rfl) (pa_cons (pv 3) (pa_cons (pv 4) pa_nil))))
        (pss_cons (ps_set (i := 7) scLaw.nd rfl (.inl rfl) (pe_k c_law_common hr (by first | decide | omega) (by rfl) (pa_cons (pv 3) (pa_cons (pv 4) pa_nil))))
        (pss_one (ps_if (PW.pt (pw_or (pt_cmpR op_ne (pv 6) (pv 7) (nomark _)) (pw_or (PW.pt (pw_and (pt_cmpR op_notN (pv 7) pe_non (nomark _)) (pw_and1 (pt_not (pt_val (pe_k c_law_is_integer hr (by first | decide | omega) (by rfl) (pa_cons (pv 6) pa_nil))))))) (pw_or1 (pt_cmpR (op_neD hr.units) (pe_tup (pa_cons (pv 3) (pa_cons (pv 4) pa_nil))) (pv 5) (nomark _))))))
        (pss_one (ps_ret pe_bl))
        pss_nil))))))))
      (pss_one (ps_ret (pe_cmpR op_isN (pe_k c_label_answer hr (by first | decide | omega) (by rfl) (pa_cons (pe_lst pa_nil) (pa_cons (pe_lst pa_nil) pa_nil))) pe_non (nomark _))))), ?_⟩
    refine q_asgE ⟨.ref a, rfl, a, ns, rfl, hS, hlen, fun H1 d ds s1 nd hd hok => ?_⟩
    have hD1 : SqL K H1 d (ds.map V.int) := .of hd
    refine q_forR (n := 3) (va_cons vl_c va_nil) ⟨by decide, by decide⟩
      (fun i σ H3 => ∃ y2 y3 y4 y5 y6 y7, σ = [some (.ref a), some (.ref d), y2, y3, y4, y5, y6, y7] ∧ Same H1 H3)
      ⟨_, _, _, _, _, _, rfl, Same.refl _⟩ (fun i σ H3 hi hP => ?_) (fun σ H3 hP => ?_)
    · obtain ⟨y2, y3, y4, y5, y6, y7, rfl, s3⟩ := hP
      refine q_asgE ⟨.ref d, rfl, ?_⟩
      refine (vl_I vl_c (vl_var rfl) (.inl ⟨by decide, by decide⟩) : Vl (tOp (rI _ fun i j => .int (i * j)) _ _) _ _ (.int (20 * (i : Int)))) _ ?_
      refine ⟨d, ds, 20 * (i : Int), rfl, s3.seq hD1, by omega, fun H4 fo tf F s4 nf ef df lf hnF => ?_⟩
      refine q_asgE ⟨.ref d, rfl, ?_⟩
      refine (vl_I0 (vl_I vl_c (vl_var rfl) (.inl ⟨by decide, by decide⟩)) vl_c : Vl _ _ _ (.int (20 * (i : Int) + 18))) _ ?_
      refine ⟨d, ds, 20 * (i : Int) + 18, rfl, (s3.trans s4).seq hD1, by omega, fun H5 bo tb B s5 nb eb db lb hnB => ?_⟩
      have dF : Dp K H5 (.ref fo) (labD F) := .lst (.of (s5 _ _ ef)) (DpAll.to df s5)
      have dB : Dp K H5 (.ref bo) (labD B) := .lst (.of eb) db
      refine q_asgE ⟨.ref fo, rfl, fo, tf, rfl, .inl (.of (s5 _ _ ef)), fun l1 n1 => ?_⟩
      have s6 : Same H5 (upd H5 l1 (.lst tf)) := same_upd n1
      refine ⟨.ref bo, rfl, bo, tb, rfl, .inl (.of (s6 _ _ eb)), fun l2 n2 => ?_⟩
      have s7 : Same (upd H5 l1 (.lst tf)) (upd (upd H5 l1 (.lst tf)) l2 (.lst tb)) := same_upd n2
      refine ⟨by show 2 ≤ sizeLine; decide, fun T nT => ?_⟩
      have s8 : Same (upd (upd H5 l1 (.lst tf)) l2 (.lst tb)) (upd (upd (upd H5 l1 (.lst tf)) l2 (.lst tb)) T (.tup [.ref l1, .ref l2])) := same_upd nT
      have s58 := (s6.trans s7).trans s8
      have dK : Dp K (upd (upd (upd H5 l1 (.lst tf)) l2 (.lst tb)) T (.tup [.ref l1, .ref l2])) (.ref T) (.tuple [labD F, labD B]) :=
        .tup (.of upd_same) (.cons (.lst (.of (s8 _ _ (s7 _ _ upd_same))) (DpAll.to (DpAll.to df s5) s58)) (.cons (.lst (.of (s8 _ _ upd_same)) (DpAll.to db s58)) .nil))
      generalize upd (upd (upd H5 l1 (.lst tf)) l2 (.lst tb)) T (.tup [.ref l1, .ref l2]) = H8 at s58 dK
      refine q_asgE ⟨.ref fo, rfl, .ref bo, rfl, .ref fo, .ref bo, F, B, rfl, Dp.to dF s58, Dp.to dB s58, by omega, by omega, hnB, fun H9 s9 => ?_⟩
      refine q_asgE ⟨.ref fo, rfl, .ref bo, rfl, .ref fo, .ref bo, F, B, rfl, Dp.to dF (s58.trans s9), Dp.to dB (s58.trans s9), ?_⟩
      refine g_whenx (b := false) (ax_or (k := false) (m := false) (ax_of (an_test ((vl_ne (vl_var rfl) (vl_var rfl) (by cases labMin F B <;> rfl)).is (by rw [decide_eq_true rfl]; rfl)))) fun _ H' s' => ax_or (k := false) (m := false) (ax_of ?_) fun _ H'' s'' => ax_ne (shaped_two F B) (fun Q k => ?_) (fun H2 s2 Q k => ?_)) (fun h => by cases h) (fun _ H' s' => ?_)
      · cases labMin F B with
        | none => exact an_and (k := false) (m := false) (an_test ((vl_notN (vl_var rfl)).is rfl)) fun h => nomatch h
        | some z => exact an_and (k := true) (m := false) (an_test ((vl_notN (vl_var rfl)).is rfl)) fun _ => an_not (b := true) (an_B fun Q q => ⟨_, rfl, z, rfl, q⟩)
      · refine ⟨.ref fo, rfl, .ref bo, rfl, by show 2 ≤ sizeLine; decide, fun R nR => ?_⟩
        have sR : Same H'' (upd H'' R (.tup [.ref fo, .ref bo])) := same_upd nR
        have s5R := (s58.trans s9).trans ((s'.trans s'').trans sR)
        exact k _ _ sR (.tup (.of upd_same) (.cons (Dp.to dF s5R) (.cons (Dp.to dB s5R) .nil)))
      · exact (vl_var rfl) _ (k _ H2 (Same.refl _) (Dp.to dK (s9.trans ((s'.trans s'').trans s2))))
      · exact ⟨_, _, _, _, _, _, rfl, ((s3.trans s4).trans s5).trans ((s58.trans s9).trans s')⟩
    · obtain ⟨y2, y3, y4, y5, y6, y7, rfl, s3⟩ := hP
      refine ⟨Nat.zero_le _, fun p np => ⟨Nat.zero_le _, fun p2 np2 => ⟨.ref p, .ref p2, [], [], rfl, .lst (.of (same_upd np2 _ _ upd_same)) .nil, .lst (.of upd_same) .nil, by decide, by decide, .nil, fun H' s' => ⟨rfl, q H'⟩⟩⟩⟩
end
/-! ### what the top has written; the law's own head -/
theorem df_mk {K : PySem.W.Frag} {h : Heap} {mg : Str → Option Value} {x : Str} {st : Stmt} {ps : List Str} {f : Addr} {oc : Value} {od an : Option Addr} {osl : Array (Option Value)} {kV doc pm cdv ct : Value} (X : K.In h) (G : h.Ns mainGlobals mg)
    (a : PySem.W.nsIn K mainGlobals x = some (some (.ref f))) (l : K.lookup f = some ⟨oc, od, .func (PySem.W.fnOf x x (defArgs st) (defBody st) (defScope st) .none kV doc pm an cdv ct), osl⟩) (c : PySem.W.codeIn K cdv x = true) (k : PySem.W.keepIn K (.ref f) = true)
    (hb : ∀ (kV doc pm : Value) (an : Option Addr) (cdv ct : Value) (us : List Value), us.length = ps.length → bindArgs (PySem.W.fnOf x x (defArgs st) (defBody st) (defScope st) .none kV doc pm an cdv ct) ⟨us, []⟩ = pure (ps.zip us)) : Df K mg x st ps :=
  ⟨f, _, fun_mk l c k, PySem.W.mg_of X G a, (fun_mk l c k).binds hb⟩
theorem all_mk {l : PySem.W.OpenLaw} {w : World} {K : PySem.W.Frag} {h : Heap} {mg : Str → Option Value} {fa f0 f1 f2 f3 f4 f5 f6 : Addr} (X : K.In h) (G : h.Ns mainGlobals mg) (hfa : mg "law" = some (.ref fa))
    {od0 an0 od1 an1 od2 an2 od3 an3 od4 an4 od5 an5 od6 an6 : Option Addr} {sl0 sl1 sl2 sl3 sl4 sl5 sl6 : Array (Option Value)} {oc0 kV0 dc0 pm0 cd0 ct0 oc1 kV1 dc1 pm1 cd1 ct1 oc2 kV2 dc2 pm2 cd2 ct2 oc3 kV3 dc3 pm3 cd3 ct3 oc4 kV4 dc4 pm4 cd4 ct4 oc5 kV5 dc5 pm5 cd5 ct5 oc6 kV6 dc6 pm6 cd6 ct6 : Value}
    (a0 : PySem.W.nsIn K mainGlobals "label_answer" = some (some (.ref f0))) (l0 : K.lookup f0 = some ⟨oc0, od0, .func (PySem.W.fnOf "label_answer" "label_answer" (defArgs sLabAns) (defBody sLabAns) (defScope sLabAns) .none kV0 dc0 pm0 an0 cd0 ct0), sl0⟩) (c0 : PySem.W.codeIn K cd0 "label_answer" = true) (k0 : PySem.W.keepIn K (.ref f0) = true)
    (a1 : PySem.W.nsIn K mainGlobals "_law_draws" = some (some (.ref f1))) (l1 : K.lookup f1 = some ⟨oc1, od1, .func (PySem.W.fnOf "_law_draws" "_law_draws" (defArgs sDraws) (defBody sDraws) (defScope sDraws) .none kV1 dc1 pm1 an1 cd1 ct1), sl1⟩) (c1 : PySem.W.codeIn K cd1 "_law_draws" = true) (k1 : PySem.W.keepIn K (.ref f1) = true)
    (a2 : PySem.W.nsIn K mainGlobals "_law_at" = some (some (.ref f2))) (l2 : K.lookup f2 = some ⟨oc2, od2, .func (PySem.W.fnOf "_law_at" "_law_at" (defArgs sAt) (defBody sAt) (defScope sAt) .none kV2 dc2 pm2 an2 cd2 ct2), sl2⟩) (c2 : PySem.W.codeIn K cd2 "_law_at" = true) (k2 : PySem.W.keepIn K (.ref f2) = true)
    (a3 : PySem.W.nsIn K mainGlobals "_law_is_integer" = some (some (.ref f3))) (l3 : K.lookup f3 = some ⟨oc3, od3, .func (PySem.W.fnOf "_law_is_integer" "_law_is_integer" (defArgs sIsI) (defBody sIsI) (defScope sIsI) .none kV3 dc3 pm3 an3 cd3 ct3), sl3⟩) (c3 : PySem.W.codeIn K cd3 "_law_is_integer" = true) (k3 : PySem.W.keepIn K (.ref f3) = true)
    (a4 : PySem.W.nsIn K mainGlobals "_law_common" = some (some (.ref f4))) (l4 : K.lookup f4 = some ⟨oc4, od4, .func (PySem.W.fnOf "_law_common" "_law_common" (defArgs sCommon) (defBody sCommon) (defScope sCommon) .none kV4 dc4 pm4 an4 cd4 ct4), sl4⟩) (c4 : PySem.W.codeIn K cd4 "_law_common" = true) (k4 : PySem.W.keepIn K (.ref f4) = true)
    (a5 : PySem.W.nsIn K mainGlobals "_law_label" = some (some (.ref f5))) (l5 : K.lookup f5 = some ⟨oc5, od5, .func (PySem.W.fnOf "_law_label" "_law_label" (defArgs sLabelL) (defBody sLabelL) (defScope sLabelL) .none kV5 dc5 pm5 an5 cd5 ct5), sl5⟩) (c5 : PySem.W.codeIn K cd5 "_law_label" = true) (k5 : PySem.W.keepIn K (.ref f5) = true)
    (a6 : PySem.W.nsIn K mainGlobals "law" = some (some (.ref f6))) (l6 : K.lookup f6 = some ⟨oc6, od6, .func (PySem.W.fnOf "law" "law" (defArgs sLaw) (defBody sLaw) (defScope sLaw) .none kV6 dc6 pm6 an6 cd6 ct6), sl6⟩) (c6 : PySem.W.codeIn K cd6 "law" = true) (k6 : PySem.W.keepIn K (.ref f6) = true)
    (z0 : PySem.W.nsIn K mainGlobals "range" = some none) (z1 : PySem.W.nsIn K mainGlobals "min" = some none) (z2 : PySem.W.nsIn K mainGlobals "len" = some none) (z3 : PySem.W.nsIn K mainGlobals "abs" = some none) (z4 : PySem.W.nsIn K mainGlobals "int" = some none) (z5 : PySem.W.nsIn K mainGlobals "bool" = some none) (z6 : PySem.W.nsIn K mainGlobals "isinstance" = some none) (z7 : PySem.W.nsIn K mainGlobals "list" = some none) :
    ∃ fd : FuncData, (∀ (s : Shared) (v : Value), BindsTo s fd ⟨[v], []⟩ [("script", v)]) ∧ ∀ base : Heap, K.In base → base.Ns mainGlobals mg → FnOk l.prog w K mg base CX0 3 fa fd ["script"] (spLaw K) := by
  have e := hfa.symm.trans (PySem.W.mg_of X G a6)
  cases e
  have D_label_answer : Df K mg "label_answer" sLabAns ["forward", "backward"] := df_mk X G a0 l0 c0 k0 (fun _ _ _ _ _ _ us hl => match us, hl with | [_, _], _ => rfl)
  have D__law_draws : Df K mg "_law_draws" sDraws ["script"] := df_mk X G a1 l1 c1 k1 (fun _ _ _ _ _ _ us hl => match us, hl with | [_], _ => rfl)
  have D__law_at : Df K mg "_law_at" sAt ["draws", "k", "many"] := df_mk X G a2 l2 c2 k2 (fun _ _ _ _ _ _ us hl => match us, hl with | [_, _, _], _ => rfl)
  have D__law_is_integer : Df K mg "_law_is_integer" sIsI ["actual"] := df_mk X G a3 l3 c3 k3 (fun _ _ _ _ _ _ us hl => match us, hl with | [_], _ => rfl)
  have D__law_common : Df K mg "_law_common" sCommon ["forward", "backward"] := df_mk X G a4 l4 c4 k4 (fun _ _ _ _ _ _ us hl => match us, hl with | [_, _], _ => rfl)
  have D__law_label : Df K mg "_law_label" sLabelL ["draws", "first"] := df_mk X G a5 l5 c5 k5 (fun _ _ _ _ _ _ us hl => match us, hl with | [_, _], _ => rfl)
  have b_range := PySem.W.mg_none_of X G z0
  have b_min := PySem.W.mg_none_of X G z1
  have b_len := PySem.W.mg_none_of X G z2
  have b_abs := PySem.W.mg_none_of X G z3
  have b_int := PySem.W.mg_none_of X G z4
  have b_bool := PySem.W.mg_none_of X G z5
  have b_isinstance := PySem.W.mg_none_of X G z6
  have b_list := PySem.W.mg_none_of X G z7
  have F_law := fun_mk (st := sLaw) l6 c6 k6
  refine ⟨PySem.W.fnOf "law" "law" (defArgs sLaw) (defBody sLaw) (defScope sLaw) .none kV6 dc6 pm6 an6 cd6 ct6, fun s v => .of_eq rfl, fun base _ _ => ?_⟩
  have cD := kal_of D__law_draws (fun f fd F => ok_draws (P := l.prog) (w := w) (base := base) (k := 0) F b_range b_min b_len b_abs b_int)
  have cA := kal_of D__law_at (fun f fd F => ok_at (P := l.prog) (w := w) (base := base) (k := 0) F b_len b_int)
  have cI := kal_of D__law_is_integer (fun f fd F => ok_isI (P := l.prog) (w := w) (base := base) (k := 0) F b_isinstance b_int b_bool)
  have cL := kal_of D_label_answer (fun f fd F => ok_labAns (P := l.prog) (w := w) (base := base) (k := 0) F b_min)
  have cC := kal_of D__law_common (fun f fd F => ok_common (P := l.prog) (w := w) (base := base) (K := K) (mg := mg) (k := 0) F)
  have cB := kal_of D__law_label (fun f fd F => ok_label F cA b_range b_int)
  exact ok_law (by decide) F_law cD cB cL cC cI b_range b_list
end Ovc
open PySem PySem.W PyProof.Rows
set_option maxHeartbeats 0 in
theorem PySem.Challenge.cw_overpasses_k33_answers_by_labels_holds : PySem.Challenge.rw_overpasses_k33_answers_by_labels.Holds := by
  w_on; o_law; k_head; (case hw => w_witness2)
  k_fill
  refine L2.walk_of (l := PySem.Challenge.rw_overpasses_k33_answers_by_labels) (n := 63) (k := 3) (x := "script") (CX := fun _ => L2.CX0) (sp := fun w => Ovc.spLaw _) rfl (by decide) rfl ⟨rfl, by decide, by decide⟩ (fun w h Y => PySem.W.kIn_of Y) ?F (fun _ _ a ns hl _ hS => ⟨a, ns, rfl, hS, hl, fun _ => rfl⟩) (fun _ _ _ _ _ h => h)
  case F =>
    intro w mg fa h KX G hmg
    refine' Ovc.all_mk KX G hmg ?a0 ?l0 ?c0 ?k0 ?a1 ?l1 ?c1 ?k1 ?a2 ?l2 ?c2 ?k2 ?a3 ?l3 ?c3 ?k3 ?a4 ?l4 ?c4 ?k4 ?a5 ?l5 ?c5 ?k5 ?a6 ?l6 ?c6 ?k6 ?z0 ?z1 ?z2 ?z3 ?z4 ?z5 ?z6 ?z7
    (case a0 => k_is)
    (case l0 => k_is)
    (case c0 => k_is)
    (case k0 => k_is)
    (case a1 => k_is)
    (case l1 => k_is)
    (case c1 => k_is)
    (case k1 => k_is)
    (case a2 => k_is)
    (case l2 => k_is)
    (case c2 => k_is)
    (case k2 => k_is)
    (case a3 => k_is)
    (case l3 => k_is)
    (case c3 => k_is)
    (case k3 => k_is)
    (case a4 => k_is)
    (case l4 => k_is)
    (case c4 => k_is)
    (case k4 => k_is)
    (case a5 => k_is)
    (case l5 => k_is)
    (case c5 => k_is)
    (case k5 => k_is)
    (case a6 => k_is)
    (case l6 => k_is)
    (case c6 => k_is)
    (case k6 => k_is)
    (case z0 => k_is)
    (case z1 => k_is)
    (case z2 => k_is)
    (case z3 => k_is)
    (case z4 => k_is)
    (case z5 => k_is)
    (case z6 => k_is)
    (case z7 => k_is)
