import PyProof.Rows.All
import Wide.All
import OpenK.AllK
import Wide.FinOn
import PySem.Challenge.RW_overpasses_k01_sums_of_roads
import HandS.Base
import HandS.Call
import HandS.List
import HandS.Comp
import HandS.Dict
import HandS.Ends
import HandS.Iter
import HandS.Text
import HandS.Words
import HandS.Evl
import HandS.IsInst
import HandS.Style
set_option Elab.async false
set_option linter.all false
set_option maxRecDepth 100000
set_option maxHeartbeats 2000000
namespace Ovc
open PySem PySem.Spec PyProof.Rows L2
def topS (i : Nat) : Stmt := PySem.Challenge.pw_overpasses_k01_sums_of_roads.main.body.getD i (.Pass ⟨0, 0, 0, 0⟩)
/-! ### heaps -/
theorem same_upd {H : Hp} {p : Addr} {o : HO} (h : H p = none) : Same H (upd H p o) := fun b x e => by
  rw [upd_ne (ne_of_none e h)]
  exact e
theorem same_upd' {G H : Hp} {p : Addr} {o : HO} (s : Same G H) (h : G p = none) : Same G (upd H p o) := fun b x e => by
  rw [upd_ne (ne_of_none e h)]
  exact s b x e
/-- all of H but what stands at o -/
def but (H : Hp) (o : Addr) : Hp := fun b => if b = o then none else H b
theorem but_at {H : Hp} {o : Addr} : but H o o = none := if_pos rfl
theorem but_ne {H : Hp} {o b : Addr} (h : b ≠ o) : but H o b = H b := if_neg h
theorem but_same {H : Hp} {o : Addr} : Same (but H o) H := fun b x e => by
  by_cases h : b = o
  · rw [h, but_at] at e
    cases e
  · rw [but_ne h] at e
    exact e
theorem same_but {G H : Hp} {o : Addr} (s : Same G H) (n : G o = none) : Same G (but H o) := fun b x e => by
  rw [but_ne (ne_of_none e n)]
  exact s b x e
theorem but_mono {H H' : Hp} {o : Addr} (s : Same H H') : Same (but H o) (but H' o) := fun b x e => by
  by_cases h : b = o
  · rw [h, but_at] at e
    cases e
  · rw [but_ne h] at e ⊢
    exact s b x e
theorem but_upd {H : Hp} {o : Addr} {u : HO} : but (upd H o u) o = but H o := by
  funext b
  by_cases h : b = o
  · rw [h, but_at, but_at]
  · rw [but_ne h, but_ne h, upd_ne h]
/-- a store at o, seen from what stands beside it -/
theorem but_upd_same {H : Hp} {o : Addr} {u : HO} : Same (but H o) (upd H o u) := fun b x e => by
  by_cases h : b = o
  · rw [h, but_at] at e
    cases e
  · rw [but_ne h] at e
    rw [upd_ne h]
    exact e
theorem seqT {K : PySem.W.Frag} {H H' : Hp} {a : Addr} {xs : List V} (e : Same H H') (h : SqT K H a xs) : SqT K H' a xs := by
  rcases h with (h | ⟨o, h⟩) | h
  · exact .inl (.inl (e _ _ h))
  · exact .inl (.inr ⟨o, e _ _ h⟩)
  · exact .inr h
mutual
theorem dpS {K : PySem.W.Frag} {H H' : Hp} (s : Same H H') : ∀ (d : PyData) (v : V), Dp K H v d → Dp K H' v d
  | .none, _, h => by
    cases h
    exact .non
  | .bool b, _, h => by
    cases h
    exact .bl b
  | .int i, _, h => by
    cases h
    exact .int i
  | .str x, _, h => by
    cases h
    exact .str x
  | .list ds, _, h => by
    cases h with
    | lst hs ha => exact .lst (s.seq hs) (dpSAll s ds _ ha)
  | .tuple ds, _, h => by
    cases h with
    | tup hs ha => exact .tup (seqT s hs) (dpSAll s ds _ ha)
  | .dict _, _, h => by cases h
theorem dpSAll {K : PySem.W.Frag} {H H' : Hp} (s : Same H H') : ∀ (ds : List PyData) (vs : List V), DpAll K H vs ds → DpAll K H' vs ds
  | [], _, h => by
    cases h
    exact .nil
  | d :: ds, _, h => by
    cases h with
    | cons h1 h2 => exact .cons (dpS s d _ h1) (dpSAll s ds _ h2)
end
theorem Dp.to {K : PySem.W.Frag} {H H' : Hp} {v : V} {d : PyData} (h : Dp K H v d) (s : Same H H') : Dp K H' v d := dpS s d v h
theorem DpAll.to {K : PySem.W.Frag} {H H' : Hp} {vs : List V} {ds : List PyData} (h : DpAll K H vs ds) (s : Same H H') : DpAll K H' vs ds := dpSAll s ds vs h
theorem DpAll.len {K : PySem.W.Frag} {H : Hp} : ∀ {vs : List V} {ds : List PyData}, DpAll K H vs ds → vs.length = ds.length
  | _, _, .nil => rfl
  | _, _, .cons _ t => by
    rw [List.length_cons, List.length_cons, DpAll.len t]
theorem DpAll.get {K : PySem.W.Frag} {H : Hp} : ∀ {vs : List V} {ds : List PyData} {i : Nat} {d : PyData}, DpAll K H vs ds → ds[i]? = some d → ∃ v, vs[i]? = some v ∧ Dp K H v d
  | _, _, i, d, .nil, e => by simp at e
  | _, _, 0, d, .cons h _, e => by
    have e' := Option.some.inj e
    subst e'
    exact ⟨_, rfl, h⟩
  | _, _, i + 1, d, .cons _ t, e => DpAll.get (i := i) t e
theorem DpAll.app {K : PySem.W.Frag} {H : Hp} : ∀ {vs ws : List V} {ds es : List PyData}, DpAll K H vs ds → DpAll K H ws es → DpAll K H (vs ++ ws) (ds ++ es)
  | _, _, _, _, .nil, t => t
  | _, _, _, _, .cons h r, t => .cons h (DpAll.app r t)
theorem DpAll.take {K : PySem.W.Frag} {H : Hp} : ∀ {vs : List V} {ds : List PyData} (n : Nat), DpAll K H vs ds → DpAll K H (vs.take n) (ds.take n)
  | _, _, 0, _ => .nil
  | _, _, _ + 1, .nil => .nil
  | _, _, n + 1, .cons h t => .cons h (DpAll.take n t)
theorem DpAll.drop {K : PySem.W.Frag} {H : Hp} : ∀ {vs : List V} {ds : List PyData} (n : Nat), DpAll K H vs ds → DpAll K H (vs.drop n) (ds.drop n)
  | _, _, 0, h => h
  | _, _, _ + 1, .nil => .nil
  | _, _, n + 1, .cons _ t => DpAll.drop n t
theorem DpAll.one {K : PySem.W.Frag} {H : Hp} {v : V} {d : PyData} (h : Dp K H v d) : DpAll K H [v] [d] := .cons h .nil
theorem Dp.int_inv {K : PySem.W.Frag} {H : Hp} {v : V} {i : Int} (h : Dp K H v (.int i)) : v = .int i := by
  cases h
  rfl
theorem DpAll.ints {K : PySem.W.Frag} {H : Hp} : ∀ ns : List Int, DpAll K H (ns.map V.int) (ns.map PyData.int)
  | [] => .nil
  | n :: ns => .cons (.int n) (DpAll.ints ns)
theorem DpAll.ints_inv {K : PySem.W.Frag} {H : Hp} : ∀ {ns : List Int} {vs : List V}, DpAll K H vs (ns.map PyData.int) → vs = ns.map V.int
  | [], _, h => by
    cases h
    rfl
  | n :: ns, _, h => by
    cases h with
    | cons h1 h2 =>
      rw [Dp.int_inv h1, DpAll.ints_inv h2]
      rfl
theorem Dp.lst_inv {K : PySem.W.Frag} {H : Hp} {v : V} {ds : List PyData} (h : Dp K H v (.list ds)) : ∃ a xs, v = .ref a ∧ SqL K H a xs ∧ DpAll K H xs ds := by
  cases h with
  | lst hs ha => exact ⟨_, _, rfl, hs, ha⟩
theorem Dp.tup_inv {K : PySem.W.Frag} {H : Hp} {v : V} {ds : List PyData} (h : Dp K H v (.tuple ds)) : ∃ a xs, v = .ref a ∧ SqT K H a xs ∧ DpAll K H xs ds := by
  cases h with
  | tup hs ha => exact ⟨_, _, rfl, hs, ha⟩
/-! ### an int or None -/
def oV : Option Int → V
  | none => .non
  | some i => .int i
def oD : Option Int → PyData
  | none => .none
  | some i => .int i
theorem Dp.o {K : PySem.W.Frag} {H : Hp} : ∀ o : Option Int, Dp K H (oV o) (oD o)
  | none => .non
  | some i => .int i
theorem Dp.o_inv {K : PySem.W.Frag} {H : Hp} {v : V} : ∀ {o : Option Int}, Dp K H v (oD o) → v = oV o
  | none, h => by
    cases h
    rfl
  | some i, h => by
    cases h
    rfl
theorem oV_non {o : Option Int} : decide (oV o = .non) = o.isNone := by
  cases o <;> rfl
theorem eqv_o : ∀ a b : Option Int, PyData.eqv (oD a) (oD b) = decide (a = b)
  | none, none => by rfl
  | none, some _ => by rfl
  | some _, none => by rfl
  | some a, some b => by
    show (a == b) = _
    by_cases h : a = b
    · subst h
      rw [decide_eq_true rfl]
      exact beq_self_eq_true a
    · rw [decide_eq_false (fun e => h (Option.some.inj e))]
      exact beq_eq_false_iff_ne.mpr h
theorem shaped_o (a : Option Int) : SeqAt.shaped (oD a) = true := by
  cases a <;> rfl
/-! ### links and nets -/
structure Lnk where
  a : Int
  b : Int
  t : Option Int
  k : Option Int
structure Net where
  n : Int
  ls : List Lnk
def lnkV (l : Lnk) : List V := [.int l.a, .int l.b, oV l.t, oV l.k]
def lnkD (l : Lnk) : PyData := .tuple [.int l.a, .int l.b, oD l.t, oD l.k]
def netD (N : Net) : PyData := .tuple [.int N.n, .list (N.ls.map lnkD)]
theorem Dp.lnk_inv {K : PySem.W.Frag} {H : Hp} {v : V} {l : Lnk} (h : Dp K H v (lnkD l)) : ∃ a, v = .ref a ∧ SqT K H a (lnkV l) := by
  obtain ⟨a, xs, rfl, hs, ha⟩ := Dp.tup_inv h
  cases ha with
  | cons h1 r1 =>
    cases r1 with
    | cons h2 r2 =>
      cases r2 with
      | cons h3 r3 =>
        cases r3 with
        | cons h4 r4 =>
          cases r4
          rw [Dp.int_inv h1, Dp.int_inv h2, Dp.o_inv h3, Dp.o_inv h4] at hs
          exact ⟨a, rfl, hs⟩
theorem Dp.lnk {K : PySem.W.Frag} {H : Hp} {a : Addr} {l : Lnk} (h : SqT K H a (lnkV l)) : Dp K H (.ref a) (lnkD l) :=
  .tup h (.cons (.int _) (.cons (.int _) (.cons (Dp.o _) (.cons (Dp.o _) .nil))))
theorem Dp.net_inv {K : PySem.W.Frag} {H : Hp} {v : V} {N : Net} (h : Dp K H v (netD N)) : ∃ p q xs, v = .ref p ∧ SqT K H p [.int N.n, .ref q] ∧ SqL K H q xs ∧ DpAll K H xs (N.ls.map lnkD) := by
  obtain ⟨a, xs, rfl, hs, ha⟩ := Dp.tup_inv h
  cases ha with
  | cons h1 r1 =>
    cases r1 with
    | cons h2 r2 =>
      cases r2
      obtain ⟨q, ys, rfl, hl, hy⟩ := Dp.lst_inv h2
      rw [Dp.int_inv h1] at hs
      exact ⟨a, q, ys, rfl, hs, hl, hy⟩
theorem Dp.net {K : PySem.W.Frag} {H : Hp} {p q : Addr} {xs : List V} {N : Net} (h : SqT K H p [.int N.n, .ref q]) (hq : SqL K H q xs) (hx : DpAll K H xs (N.ls.map lnkD)) : Dp K H (.ref p) (netD N) :=
  .tup h (.cons (.int _) (.cons (.lst hq hx) .nil))
/-! ### pure expressions: what they evaluate to, the heap as it is -/
def Vl (te : TE) (σ : L2.St) (H : Hp) (v : V) : Prop := ∀ Q : VK, Q v H → te σ H Q
def An (t : TT) (σ : L2.St) (H : Hp) (b : Bool) : Prop := ∀ Q : Bool → Hp → Prop, Q b H → t σ H Q
def Va (ta : TA) (σ : L2.St) (H : Hp) (vs : List V) : Prop := ∀ Q : List V → Hp → Prop, Q vs H → ta σ H Q
section
variable {K : PySem.W.Frag} {σ : L2.St} {H : Hp} {i : Nat} {v x y z : V} {ta tb te tv : TE} {b : Bool} {a : Addr} {t u c : TT} {tr : TA} {D : Ends} {tz tw : TS}
theorem va_nil : Va tNil σ H [] := fun _ q => q
theorem va_cons {vs : List V} (h : Vl ta σ H x) (hr : Va tr σ H vs) : Va (tCons ta tr) σ H (x :: vs) := fun Q q => h _ (hr _ q)
theorem vl_var (h : σ[i]? = some (some v)) : Vl (tVar i) σ H v := fun _ q => ⟨v, h, q⟩
theorem vl_c : Vl (tC v) σ H v := fun _ q => q
theorem vl_op {r : R2} (ha : Vl ta σ H x) (hb : Vl tb σ H y) (hr : ∀ Q : VK, Q z H → r x y H Q) : Vl (tOp r ta tb) σ H z := fun Q q => ha _ (hb _ (hr _ q))
theorem vl_I0 {g : Int → Int → V} {p q : Int} (ha : Vl ta σ H (.int p)) (hb : Vl tb σ H (.int q)) : Vl (tOp (rI0 g) ta tb) σ H (g p q) := vl_op ha hb fun _ k => ⟨p, q, rfl, rfl, k⟩
theorem vl_I {C : Int → Int → Prop} {g : Int → Int → V} {p q : Int} (ha : Vl ta σ H (.int p)) (hb : Vl tb σ H (.int q)) (hc : C p q) : Vl (tOp (rI C g) ta tb) σ H (g p q) := vl_op ha hb fun _ k => ⟨p, q, rfl, rfl, hc, k⟩
theorem vl_un {r : V → Hp → VK → Prop} (ha : Vl ta σ H x) (hr : ∀ Q : VK, Q z H → r x H Q) : Vl (tUn r ta) σ H z := fun Q q => ha _ (hr _ q)
theorem vl_neg {p : Int} (ha : Vl ta σ H (.int p)) : Vl (tUn (rU fun i => .int (-i)) ta) σ H (.int (-p)) := vl_un ha fun _ k => ⟨p, rfl, k⟩
theorem vl_cb {r : List V → Hp → VK → Prop} {vs : List V} (h : Va tr σ H vs) (hr : ∀ Q : VK, Q z H → r vs H Q) : Vl (tCB r tr) σ H z := fun Q q => h _ (hr _ q)
theorem vl_int1 {p : Int} (ha : Vl ta σ H (.int p)) : Vl (tCB (fun xs H Q => (∃ i, xs = [V.int i] ∧ Q (V.int i) H) ∨ ∃ k, xs = [V.bl k] ∧ Q (V.int (if k then 1 else 0)) H) (tCons ta tNil)) σ H (.int p) :=
  vl_cb (va_cons ha va_nil) fun _ k => .inl ⟨p, rfl, k⟩
theorem vl_int1b {k : Bool} (ha : Vl ta σ H (.bl k)) : Vl (tCB (fun xs H Q => (∃ i, xs = [V.int i] ∧ Q (V.int i) H) ∨ ∃ k, xs = [V.bl k] ∧ Q (V.int (if k then 1 else 0)) H) (tCons ta tNil)) σ H (.int (if k then 1 else 0)) :=
  vl_cb (va_cons ha va_nil) fun _ q => .inr ⟨k, rfl, q⟩
theorem vl_abs {p : Int} (ha : Vl ta σ H (.int p)) : Vl (tCB (fun xs H Q => ∃ i, xs = [V.int i] ∧ Q (V.int (if i < 0 then -i else i)) H) (tCons ta tNil)) σ H (.int (if p < 0 then -p else p)) :=
  vl_cb (va_cons ha va_nil) fun _ k => ⟨p, rfl, k⟩
theorem vl_min2 {p q : Int} (ha : Vl ta σ H (.int p)) (hb : Vl tb σ H (.int q)) : Vl (tCB (fun xs H Q => ∃ i j, xs = [V.int i, V.int j] ∧ Q (V.int (if j < i then j else i)) H) (tCons ta (tCons tb tNil))) σ H (.int (if q < p then q else p)) :=
  vl_cb (va_cons ha (va_cons hb va_nil)) fun _ k => ⟨p, q, rfl, k⟩
theorem vl_max2 {p q : Int} (ha : Vl ta σ H (.int p)) (hb : Vl tb σ H (.int q)) : Vl (tCB (fun xs H Q => ∃ i j, xs = [V.int i, V.int j] ∧ Q (V.int (if j > i then j else i)) H) (tCons ta (tCons tb tNil))) σ H (.int (if q > p then q else p)) :=
  vl_cb (va_cons ha (va_cons hb va_nil)) fun _ k => ⟨p, q, rfl, k⟩
theorem vl_lenL {xs : List V} (ha : Vl ta σ H (.ref a)) (h : SqL K H a xs) : Vl (tCB (fun xs H Q => ∃ p ys, xs = [V.ref p] ∧ (SqL K H p ys ∨ SqT K H p ys) ∧ Q (V.int ys.length) H) (tCons ta tNil)) σ H (.int xs.length) :=
  vl_cb (va_cons ha va_nil) fun _ k => ⟨a, xs, rfl, .inl h, k⟩
theorem vl_ixL {xs : List V} {p : Int} (ha : Vl ta σ H (.ref a)) (hb : Vl tb σ H (.int p)) (h : SqL K H a xs) (hg : atI xs p = some z) : Vl (tOp (rIxL K) ta tb) σ H z :=
  vl_op ha hb fun _ k => ⟨a, xs, p, z, rfl, rfl, h, hg, k⟩
theorem vl_ixT {xs : List V} {p : Int} (ha : Vl ta σ H (.ref a)) (hb : Vl tb σ H (.int p)) (h : SqT K H a xs) (hg : atI xs p = some z) : Vl (tOp (rIxT K) ta tb) σ H z :=
  vl_op ha hb fun _ k => ⟨a, xs, p, z, rfl, rfl, h, hg, k⟩
theorem vl_eq (ha : Vl ta σ H x) (hb : Vl tb σ H y) (hs : scal x y = true) : Vl (tOp rEq ta tb) σ H (.bl (decide (x = y))) := vl_op ha hb fun _ k => ⟨hs, k⟩
theorem vl_ne (ha : Vl ta σ H x) (hb : Vl tb σ H y) (hs : scal x y = true) : Vl (tOp rNe ta tb) σ H (.bl (!decide (x = y))) := vl_op ha hb fun _ k => ⟨hs, k⟩
theorem vl_isN (ha : Vl ta σ H x) : Vl (tOp (fun x y H Q => y = V.non ∧ Q (V.bl (decide (x = V.non))) H) ta (tC .non)) σ H (.bl (decide (x = .non))) := vl_op ha vl_c fun _ k => ⟨rfl, k⟩
theorem vl_notN (ha : Vl ta σ H x) : Vl (tOp (fun x y H Q => y = V.non ∧ Q (V.bl (!decide (x = V.non))) H) ta (tC .non)) σ H (.bl (!decide (x = .non))) := vl_op ha vl_c fun _ k => ⟨rfl, k⟩
theorem vl_chain {r r' : R2} {tc : TE} {w : V} {k m : Bool} (ha : Vl ta σ H x) (hb : Vl tb σ H y) (hr : ∀ Q : VK, Q (.bl k) H → r x y H Q) (hc : Vl tc σ H w) (hr' : ∀ Q : VK, Q (.bl m) H → r' y w H Q) : Vl (tChain r r' ta tb tc) σ H (.bl (k && m)) := fun Q q =>
  ha _ (hb _ (hr _ ⟨k, rfl, by
    cases k with
    | true => exact iteT (hc _ (hr' _ q))
    | false => exact iteF q⟩))
theorem vl_chainI {g g' : Int → Int → Bool} {tc : TE} {p q s : Int} (ha : Vl ta σ H (.int p)) (hb : Vl tb σ H (.int q)) (hc : Vl tc σ H (.int s)) :
    Vl (tChain (rI0 fun i j => .bl (g i j)) (rI0 fun i j => .bl (g' i j)) ta tb tc) σ H (.bl (g p q && g' q s)) :=
  vl_chain ha hb (fun _ k => ⟨p, q, rfl, rfl, k⟩) hc (fun _ k => ⟨q, s, rfl, rfl, k⟩)
theorem vl_if {b : Bool} (h : An t σ H b) (h1 : b = true → Vl ta σ H v) (h2 : b = false → Vl tb σ H v) : Vl (tIf t ta tb) σ H v := fun Q q => h _ (by
  cases b with
  | true => exact iteT (h1 rfl _ q)
  | false => exact iteF (h2 rfl _ q))
theorem an_test {b : Bool} (h : Vl te σ H (.bl b)) : An (tTest te) σ H b := fun Q q => h _ ⟨b, rfl, q⟩
theorem an_B {b : Bool} (h : Vl te σ H (.bl b)) : An (tB te) σ H b := fun Q q => h _ ⟨b, rfl, q⟩
theorem an_not (h : An t σ H b) : An (tNot t) σ H (!b) := fun Q q => h _ q
theorem an_and {k m : Bool} (h1 : An t σ H k) (h2 : k = true → An u σ H m) : An (tAnd t u) σ H (k && m) := fun Q q => h1 _ (by
  cases k with
  | true => exact iteT (h2 rfl _ q)
  | false => exact iteF q)
theorem an_or {k m : Bool} (h1 : An t σ H k) (h2 : k = false → An u σ H m) : An (tOr t u) σ H (k || m) := fun Q q => h1 _ (by
  cases k with
  | true => exact iteT q
  | false => exact iteF (h2 rfl _ q))
theorem An.is {k m : Bool} (h : An t σ H k) (e : k = m) : An t σ H m := e ▸ h
theorem Vl.is {v w : V} (h : Vl te σ H v) (e : v = w) : Vl te σ H w := e ▸ h
/-! ### statements over them -/
theorem g_seq (h : tz { D with nx := tw D } σ H) : tSeq tz tw D σ H := h
theorem g_asg {i : Nat} (h : Vl te σ H v) (k : D.nx (σ.set i (some v)) H) : tAsg te (gName i) D σ H := h _ k
theorem g_ret (h : Vl te σ H v) (k : D.rt v H) : tRet te D σ H := h _ k
theorem g_if {b : Bool} (h : An t σ H b) (h1 : b = true → tz D σ H) (h2 : b = false → tw D σ H) : tIfS t tz tw D σ H := h _ (by
  cases b with
  | true => exact iteT (h1 rfl)
  | false => exact iteF (h2 rfl))
theorem g_app {l : Addr} {xs : List V} (ho : Vl ta σ H (.ref l)) (hl : H l = some (.lst xs)) (h : Vl te σ H v) (hz : xs.length < sizeLine) (k : D.nx σ (upd H l (.lst (xs ++ [v])))) :
    tDrop (tBM K "list" rAppend ta (tCons te tNil)) D σ H := ho _ ⟨.inl ⟨rfl, _, .inl (.inl hl)⟩, h _ ⟨l, xs, v, rfl, rfl, hl, hz, k⟩⟩
theorem at_int {ds : List Int} {k : Int} (h0 : 0 ≤ k) (h1 : k < (ds.length : Int)) : ∃ d, atI (ds.map V.int) k = some (.int d) ∧ ds[k.toNat]? = some d := by
  have hj : k.toNat < ds.length := by omega
  have g : (ds.map V.int)[k.toNat]? = some (.int ds[k.toNat]) := by
    rw [List.getElem?_map, List.getElem?_eq_getElem hj]
    rfl
  have g2 := atI_nat g
  rw [show ((k.toNat : Nat) : Int) = k by omega] at g2
  exact ⟨ds[k.toNat], g2, List.getElem?_eq_getElem hj⟩
/-! ### loops -/
theorem g_forR {j : Nat} {n : Int} (h : Va tr σ H [.int n]) (hn : -(2 ^ 62) ≤ n ∧ n < 2 ^ 62) (Pv : Nat → L2.St → Hp → Prop) (h0 : Pv 0 σ H)
    (hs : ∀ (i : Nat) σ H, (i : Int) < n → Pv i σ H → tz { D with nx := Pv (i + 1), ct := Pv (i + 1), bk := D.nx } (σ.set j (some (.int i))) H) (hd : ∀ σ H, Pv n.toNat σ H → D.nx σ H) :
    tFor (iRng1 tr) (gName j) tz D σ H := h _ ⟨n, rfl, hn.1, hn.2, for_range (lo := 0) (n := n.toNat) Pv h0 (fun i σ H hi p => by
      show tz _ (σ.set j (some (.int (0 + i)))) H
      rw [Int.zero_add]
      exact hs i σ H (by omega) p) hd⟩
theorem g_forR2 {j : Nat} {lo n : Int} (h : Va tr σ H [.int lo, .int n]) (hn : -(2 ^ 62) ≤ lo ∧ lo < 2 ^ 62 ∧ -(2 ^ 62) ≤ n ∧ n < 2 ^ 62) (Pv : Nat → L2.St → Hp → Prop) (h0 : Pv 0 σ H)
    (hs : ∀ (i : Nat) σ H, lo + (i : Int) < n → Pv i σ H → tz { D with nx := Pv (i + 1), ct := Pv (i + 1), bk := D.nx } (σ.set j (some (.int (lo + i)))) H) (hd : ∀ σ H, Pv (n - lo).toNat σ H → D.nx σ H) :
    tFor (iRng2 tr) (gName j) tz D σ H := h _ ⟨lo, n, rfl, hn, for_range (lo := lo) (n := (n - lo).toNat) Pv h0 (fun i σ H hi p => hs i σ H (by omega) p) hd⟩
theorem g_forL {j : Nat} {xs : List V} {tl : TE} (h : Vl tl σ H (.ref a)) (hx : SqL K H a xs) (Pv : Nat → L2.St → Hp → Prop) (h0 : Pv 0 σ H) (hl : ∀ i σ' H', Pv i σ' H' → SqL K H' a xs)
    (hs : ∀ (i : Nat) x σ H, xs[i]? = some x → Pv i σ H → tz { D with nx := Pv (i + 1), ct := Pv (i + 1), bk := D.nx } (σ.set j (some x)) H) (hd : ∀ σ H, Pv xs.length σ H → D.nx σ H) :
    tFor (iList K tl) (gName j) tz D σ H := h _ ⟨a, rfl, ⟨_, hx⟩, for_list (xs := xs) Pv h0 (fun i σ H _ p => hl i σ H p) hs hd⟩
/-- for a, b, there, back in links -/
theorem g_forLnk {j1 j2 j3 j4 : Nat} {Hb : Hp} {xs : List V} {ls : List Lnk} {tl : TE} (h : Vl tl σ H (.ref a)) (hx : SqL K Hb a xs) (hL : DpAll K Hb xs (ls.map lnkD)) (hb : Same Hb H) (Pv : Nat → L2.St → Hp → Prop) (h0 : Pv 0 σ H) (hl : ∀ i σ' H', Pv i σ' H' → Same Hb H')
    (hs : ∀ (i : Nat) l σ H, ls[i]? = some l → Pv i σ H → tz { D with nx := Pv (i + 1), ct := Pv (i + 1), bk := D.nx } ((((σ.set j1 (some (.int l.a))).set j2 (some (.int l.b))).set j3 (some (oV l.t))).set j4 (some (oV l.k))) H) (hd : ∀ σ H, Pv ls.length σ H → D.nx σ H) :
    tFor (iList K tl) (gTup K 4 (gCons (gName j1) (gCons (gName j2) (gCons (gName j3) (gCons (gName j4) gNil))))) tz D σ H := h _ ⟨a, rfl, ⟨_, hb.seq hx⟩, for_list (xs := xs) Pv h0 (fun i σ H _ p => (hl i σ H p).seq hx) (fun i x σ H hi p => by
      have e := DpAll.len hL
      rw [List.length_map] at e
      have hlt : i < xs.length := by
        by_cases hlt : i < xs.length
        · exact hlt
        · rw [List.getElem?_eq_none (by omega)] at hi
          cases hi
      have hg : ls[i]? = some ls[i] := List.getElem?_eq_getElem (by omega)
      obtain ⟨v, hv, dv⟩ := DpAll.get (i := i) (d := lnkD ls[i]) hL (by
        rw [List.getElem?_map, hg]
        rfl)
      cases hi.symm.trans hv
      obtain ⟨t, rfl, ht⟩ := Dp.lnk_inv dv
      exact ⟨t, _, rfl, seqT (hl i σ H p) ht, rfl, _, _, rfl, _, _, rfl, _, _, rfl, _, _, rfl, rfl, hs i _ σ H hg p⟩) (fun σ H p => by
      have e := DpAll.len hL
      rw [List.length_map] at e
      rw [e] at p
      exact hd σ H p)⟩
/-! ### the same with what follows -/
theorem q_asg {i : Nat} (h : Vl te σ H v) (k : tw D (σ.set i (some v)) H) : tSeq (tAsg te (gName i)) tw D σ H := h _ k
theorem q_if {b : Bool} {tu : TS} (h : An t σ H b) (h1 : b = true → tz { D with nx := tw D } σ H) (h2 : b = false → tu { D with nx := tw D } σ H) : tSeq (tIfS t tz tu) tw D σ H := g_if (D := { D with nx := tw D }) h h1 h2
/-- an if without else whose body leaves the def (or the turn) -/
theorem q_when {b : Bool} (h : An t σ H b) (h1 : b = true → tz { D with nx := tw D } σ H) (h2 : b = false → tw D σ H) : tSeq (tIfS t tz tNext) tw D σ H := g_if (D := { D with nx := tw D }) h h1 h2
theorem g_when {b : Bool} (h : An t σ H b) (h1 : b = true → tz D σ H) (h2 : b = false → D.nx σ H) : tIfS t tz tNext D σ H := g_if h h1 h2
theorem q_app {l : Addr} {xs : List V} (ho : Vl ta σ H (.ref l)) (hl : H l = some (.lst xs)) (h : Vl te σ H v) (hz : xs.length < sizeLine) (k : tw D σ (upd H l (.lst (xs ++ [v])))) :
    tSeq (tDrop (tBM K "list" rAppend ta (tCons te tNil))) tw D σ H := g_app (D := { D with nx := tw D }) ho hl h hz k
theorem q_forR {j : Nat} {n : Int} (h : Va tr σ H [.int n]) (hn : -(2 ^ 62) ≤ n ∧ n < 2 ^ 62) (Pv : Nat → L2.St → Hp → Prop) (h0 : Pv 0 σ H)
    (hs : ∀ (i : Nat) σ H, (i : Int) < n → Pv i σ H → tz { D with nx := Pv (i + 1), ct := Pv (i + 1), bk := tw D } (σ.set j (some (.int i))) H) (hd : ∀ σ H, Pv n.toNat σ H → tw D σ H) :
    tSeq (tFor (iRng1 tr) (gName j) tz) tw D σ H := g_forR (D := { D with nx := tw D }) h hn Pv h0 hs hd
theorem q_forR2 {j : Nat} {lo n : Int} (h : Va tr σ H [.int lo, .int n]) (hn : -(2 ^ 62) ≤ lo ∧ lo < 2 ^ 62 ∧ -(2 ^ 62) ≤ n ∧ n < 2 ^ 62) (Pv : Nat → L2.St → Hp → Prop) (h0 : Pv 0 σ H)
    (hs : ∀ (i : Nat) σ H, lo + (i : Int) < n → Pv i σ H → tz { D with nx := Pv (i + 1), ct := Pv (i + 1), bk := tw D } (σ.set j (some (.int (lo + i)))) H) (hd : ∀ σ H, Pv (n - lo).toNat σ H → tw D σ H) :
    tSeq (tFor (iRng2 tr) (gName j) tz) tw D σ H := g_forR2 (D := { D with nx := tw D }) h hn Pv h0 hs hd
theorem q_forL {j : Nat} {xs : List V} {tl : TE} (h : Vl tl σ H (.ref a)) (hx : SqL K H a xs) (Pv : Nat → L2.St → Hp → Prop) (h0 : Pv 0 σ H) (hl : ∀ i σ' H', Pv i σ' H' → SqL K H' a xs)
    (hs : ∀ (i : Nat) x σ H, xs[i]? = some x → Pv i σ H → tz { D with nx := Pv (i + 1), ct := Pv (i + 1), bk := tw D } (σ.set j (some x)) H) (hd : ∀ σ H, Pv xs.length σ H → tw D σ H) :
    tSeq (tFor (iList K tl) (gName j) tz) tw D σ H := g_forL (D := { D with nx := tw D }) h hx Pv h0 hl hs hd
theorem q_forLnk {j1 j2 j3 j4 : Nat} {Hb : Hp} {xs : List V} {ls : List Lnk} {tl : TE} (h : Vl tl σ H (.ref a)) (hx : SqL K Hb a xs) (hL : DpAll K Hb xs (ls.map lnkD)) (hb : Same Hb H) (Pv : Nat → L2.St → Hp → Prop) (h0 : Pv 0 σ H) (hl : ∀ i σ' H', Pv i σ' H' → Same Hb H')
    (hs : ∀ (i : Nat) l σ H, ls[i]? = some l → Pv i σ H → tz { D with nx := Pv (i + 1), ct := Pv (i + 1), bk := tw D } ((((σ.set j1 (some (.int l.a))).set j2 (some (.int l.b))).set j3 (some (oV l.t))).set j4 (some (oV l.k))) H) (hd : ∀ σ H, Pv ls.length σ H → tw D σ H) :
    tSeq (tFor (iList K tl) (gTup K 4 (gCons (gName j1) (gCons (gName j2) (gCons (gName j3) (gCons (gName j4) gNil))))) tz) tw D σ H := g_forLnk (D := { D with nx := tw D }) h hx hL hb Pv h0 hl hs hd
theorem q_asgT2 {i j : Nat} {p : Addr} (h : Vl te σ H (.ref p)) (hp : SqT K H p [x, y]) (k : tw D ((σ.set i (some x)).set j (some y)) H) : tSeq (tAsg te (gTup K 2 (gCons (gName i) (gCons (gName j) gNil)))) tw D σ H :=
  h _ ⟨p, _, rfl, hp, rfl, _, _, rfl, _, _, rfl, rfl, k⟩
theorem q_dnewT {i : Nat} (k : ∀ p, H p = none → tw D (σ.set i (some (.ref p))) (upd H p (.dT []))) : tSeq (tAsg tDNewT (gName i)) tw D σ H := k
theorem q_lnew {i : Nat} (k : ∀ p, H p = none → tw D (σ.set i (some (.ref p))) (upd H p (.lst []))) : tSeq (tAsg (tLst tNil) (gName i)) tw D σ H := ⟨Nat.zero_le _, k⟩
theorem q_dput {td ty : TE} {o : Addr} {kvs : List (List Key × V)} {y1 y2 : Int} (hv : Vl te σ H v) (ho : Vl td σ H (.ref o)) (h1 : Vl ta σ H (.int y1)) (h2 : Vl tb σ H (.int y2)) (hd : H o = some (.dT kvs)) (hl : kvs.length < sizeLine)
    (k : ∀ T, H T = none → o ≠ T → tw D σ (upd (upd H T (.tup [.int y1, .int y2])) o (.dT (putK kvs [.inl y1, .inl y2] v)))) : tSeq (sDPut td (tTup (tCons ta (tCons tb tNil))) te) tw D σ H :=
  hv _ (ho _ (h1 _ (h2 _ ⟨by show 2 ≤ sizeLine; decide, fun T nT => by
    have oT : o ≠ T := ne_of_none hd nT
    exact ⟨o, _, rfl, DPut.t (k := [.inl y1, .inl y2]) (by rw [upd_ne oT]; exact hd) upd_same hl, k T nT oT⟩⟩)))
theorem q_dgetT {i : Nat} {td : TE} {o : Addr} {kvs : List (List Key × V)} {y1 y2 : Int} (ho : Vl td σ H (.ref o)) (h1 : ∀ H, Vl ta σ H (.int y1)) (h2 : ∀ H, Vl tb σ H (.int y2)) (hd : H o = some (.dT kvs))
    (k : ∀ T, H T = none → tw D (σ.set i (some ((valV kvs [.inl y1, .inl y2]).getD .non))) (upd H T (.tup [.int y1, .int y2]))) : tSeq (tAsg (tDGet1 td (tTup (tCons ta (tCons tb tNil)))) (gName i)) tw D σ H :=
  ho _ ⟨o, rfl, .inr ⟨_, .inl hd⟩, h1 _ _ (h2 _ _ ⟨by show 2 ≤ sizeLine; decide, fun T nT => by
    have oT : o ≠ T := ne_of_none hd nT
    exact ⟨_, DGet.t (k := [.inl y1, .inl y2]) (by rw [upd_ne oT]; exact hd) upd_same, k T nT⟩⟩)⟩
theorem q_asgE {i : Nat} (h : te σ H fun v H' => tw D (σ.set i (some v)) H') : tSeq (tAsg te (gName i)) tw D σ H := h
theorem g_asgE {i : Nat} (h : te σ H fun v H' => D.nx (σ.set i (some v)) H') : tAsg te (gName i) D σ H := h
theorem q_cut {M : L2.St → Hp → Prop} (h : tz { D with nx := M } σ H) (k : ∀ σ' H', M σ' H' → tw D σ' H') : Evl.tCut tz tw D σ H := ⟨M, h, k⟩
end
/-! ### defs that may be called by their names -/
structure Df (K : PySem.W.Frag) (mg : Str → Option Value) (x : Str) (st : Stmt) (ps : List Str) : Prop where
  ex : ∃ (f : Addr) (fd : FuncData), Fun K x x st f fd ∧ mg x = some (.ref f) ∧ Binds K fd ps []
structure Kal (P : Program) (w : World) (K : PySem.W.Frag) (mg : Str → Option Value) (base : Heap) (k : Nat) (x : Str) (ps : List Str) (sp : Sp) : Prop where
  ex : ∃ (f : Addr) (fd : FuncData), FnOk P w K mg base CX0 k f fd ps sp ∧ mg x = some (.ref f) ∧ PySem.W.keepIn K (.ref f) = true ∧ Binds K fd ps []
theorem kal_of {P : Program} {w : World} {K : PySem.W.Frag} {mg : Str → Option Value} {base : Heap} {k : Nat} {x : Str} {st : Stmt} {ps : List Str} {sp : Sp} (A : Df K mg x st ps)
    (ok : ∀ f fd, Fun K x x st f fd → FnOk P w K mg base CX0 k f fd ps sp) : Kal P w K mg base k x ps sp := by
  obtain ⟨f, fd, F, g, b⟩ := A.ex
  exact ⟨f, fd, ok f fd F, g, F.kp, b⟩
theorem pe_k {X : Cx} {k j : Nat} {x : Str} {ps : List Str} {sp : Sp} {p pos : Pos} {e : Expr} {es : List Expr} {t : TA} (c : Kal X.prog X.w X.K X.mg X.base k x ps sp) (hr : Room j X.A) (hk : k ≤ j) (hg : Gl X x) (ha : PA X (e :: es) t)
    (hdb : (x == ("__debug__" : Str)) = false := by decide) (he : starEach (e :: es) X.env = (false, eval e X.env) :: starEach es X.env := by rfl) (hpl : (backTo pos (starEach es X.env)).any (·.1) = false := by rfl) :
    PE X (.Call (.Name x p) (e :: es) [] pos) (tCall sp [] E0 t) := by
  obtain ⟨f, fd, F, hm, kp, b⟩ := c.ex
  exact pe_call F (hr.mono hk) hg hm kp b .nil pass0 ha hdb he hpl
/-! ### values that are not told: ints of which P holds -/
def Vi (te : TE) (σ : L2.St) (H : Hp) (P : Int → Prop) : Prop := ∀ Q : VK, (∀ r, P r → Q (.int r) H) → te σ H Q
section
variable {K : PySem.W.Frag} {σ : L2.St} {H : Hp} {i : Nat} {ta tb te : TE} {tr : TA} {D : Ends} {tz tw tu : TS} {P P1 P2 : Int → Prop}
theorem vi_of {n : Int} (h : Vl te σ H (.int n)) : Vi te σ H (fun r => r = n) := fun _ q => h _ (q n rfl)
theorem vi_I0 {g : Int → Int → Int} (ha : Vi ta σ H P1) (hb : Vi tb σ H P2) (h : ∀ p q, P1 p → P2 q → P (g p q)) : Vi (tOp (rI0 fun i j => .int (g i j)) ta tb) σ H P := fun _ k =>
  ha _ fun p hp => hb _ fun q hq => ⟨p, q, rfl, rfl, k _ (h p q hp hq)⟩
theorem vi_call {sp : Sp} {vs : List V} (h : Va tr σ H vs) (hs : ∀ Q E, (∀ r, P r → Q (.int r) H) → sp vs H Q E) : Vi (tCall sp [] E0 tr) σ H P := fun Q q => h _ (by
  show sp (vs ++ []) H Q E0
  rw [List.append_nil]
  exact hs Q E0 q)
theorem vi_mono (h : Vi te σ H P1) (hh : ∀ r, P1 r → P r) : Vi te σ H P := fun Q q => h Q fun r hr => q r (hh r hr)
theorem g_asgI {i : Nat} (h : Vi te σ H P) (k : ∀ r, P r → D.nx (σ.set i (some (.int r))) H) : tAsg te (gName i) D σ H := h _ k
theorem q_asgI {i : Nat} (h : Vi te σ H P) (k : ∀ r, P r → tw D (σ.set i (some (.int r))) H) : tSeq (tAsg te (gName i)) tw D σ H := h _ k
theorem g_retI (h : Vi te σ H P) (k : ∀ r, P r → D.rt (.int r) H) : tRet te D σ H := h _ k
end
local macro_rules
  | `(tactic| walk_at "ev") => `(tactic| repeat' (first
    | exact vl_c | exact vl_var rfl | apply vl_I0 | apply vl_I | apply vl_int1 | apply vl_abs | apply vl_min2 | apply vl_max2 | apply vl_neg | apply vl_chainI
    | apply vl_lenL | apply vl_ixL | apply vl_ixT | apply vl_isN | apply vl_notN | apply vl_eq | apply vl_ne
    | apply an_test | apply an_B | apply an_not
    | exact (show (0 : Int) < _ by decide) | exact (show (0 : Int) < _ ∧ _ < (1073741824 : Int) from ⟨by decide, by decide⟩)))
abbrev sDraws : Stmt := topS 4
theorem scDraws : FnScope ["script", "draws", "k", "rest", "turn", "mixed"] ["script"] (defScope sDraws) := ⟨rfl, rfl, rfl, by decide +kernel, rfl, by decide +kernel, by decide +kernel⟩
structure DrawsOk (m : Nat) (ds : List Int) : Prop where
  len : ds.length ≤ m
  all : ∀ d ∈ ds, 0 ≤ d ∧ d < 65536
theorem DrawsOk.app {m : Nat} {ds : List Int} {d : Int} (h : DrawsOk m ds) (h0 : 0 ≤ d) (h1 : d < 65536) : DrawsOk (m + 1) (ds ++ [d]) where
  len := by
    rw [List.length_append]
    exact Nat.succ_le_succ h.len
  all := fun e he => by
    rcases List.mem_append.mp he with h' | h'
    · exact h.all e h'
    · rw [List.mem_singleton.mp h']
      exact ⟨h0, h1⟩
theorem DrawsOk.mono {m n : Nat} {ds : List Int} (h : DrawsOk m ds) (le : m ≤ n) : DrawsOk n ds := ⟨Nat.le_trans h.len le, h.all⟩
def spDraws (K : PySem.W.Frag) : Sp := fun vs H Q _ => ∃ (a : Addr) (ns : List Int), vs = [.ref a] ∧ SqL K H a (ns.map V.int) ∧ ns.length ≤ 63 ∧
  ∀ H' p ds, Same H H' → H p = none → H' p = some (.lst (ds.map V.int)) → DrawsOk 3780 ds → Q (.ref p) H'
section
variable {P : Program} {w : World} {K : PySem.W.Frag} {mg : Str → Option Value} {base : Heap}
theorem ok_draws {f : Addr} {fd : FuncData} {k : Nat} (F : Fun K "_law_draws" "_law_draws" sDraws f fd) (mr : mg "range" = none) (mm : mg "min" = none) (ml : mg "len" = none) (ma : mg "abs" = none) (mi : mg "int" = none) :
    FnOk P w K mg base CX0 (k + 1) f fd ["script"] (spDraws K) := by
  refine F.ok scDraws (fun vs H Q E h => ?_) (fun cdv A outer s H vs Q E hr h => ?_)
  · obtain ⟨a, ns, rfl, _⟩ := h
    rfl
  · obtain ⟨a, ns, rfl, hS, hlen, q⟩ := h
    refine ⟨_, pss_cons (ps_set (i := 1) scDraws.nd rfl (.inl rfl) (pe_lst pa_nil))
      (pss_cons (ps_for PassesOwn.never rfl (pi_range1 (by rfl) mr (pa_cons (pe_callB (call_min2 rfl) (by rfl) mm (by decide +kernel) (pa_cons pe_int (pa_cons (pe_callB call_len_seq (by rfl) ml PySem.boot_len (pa_cons (pv 0) pa_nil)) pa_nil))) pa_nil)) (pg_name (i := 2) scDraws.nd rfl (.inl rfl))
        (pss_cons (ps_set (i := 3) scDraws.nd rfl (.inl rfl) (pe_callB call_abs (by rfl) ma (by decide +kernel) (pa_cons (pe_ix ix_list (pv 0) (pv 2) (fun _ _ => rfl)) pa_nil)))
        (pss_one (ps_if (pt_cmpR op_ge (pv 3) (pe_op op_pow pe_int pe_int) (nomark _))
          (pss_one (ps_for PassesOwn.never rfl (pi_range1 (by rfl) mr (pa_cons pe_int pa_nil)) (pg_name (i := 4) scDraws.nd rfl (.inl rfl))
            (pss_one (ps_if (pt_cmpR op_gt (pv 3) pe_int (nomark _))
              (pss_cons (ps_expr (pe_bm PySem.F.plainAttrs_list PySem.F.slot_list_append PySem.F.type_list_append mt_append (pv 1) (pa_cons (pe_op op_mod (pe_callTy call_int1 (by rfl) mi (by decide +kernel) (pa_cons (pv 3) pa_nil)) pe_int) pa_nil)))
              (pss_one (ps_set (i := 3) scDraws.nd rfl (.inl rfl) (pe_op op_fdiv (pv 3) pe_int)))) pss_nil))))
          (pss_cons (ps_set (i := 5) scDraws.nd rfl (.inl rfl) (pe_op op_mod (pe_callTy call_int1 (by rfl) mi (by decide +kernel) (pa_cons (pe_op op_add (pe_op op_mul (pv 3) pe_int) (pe_op op_mul (pe_op op_add (pv 2) pe_int) pe_int)) pa_nil)) pe_int))
          (pss_cons (ps_set (i := 5) scDraws.nd rfl (.inl rfl) (pe_op op_mod (pe_callTy call_int1 (by rfl) mi (by decide +kernel) (pa_cons (pe_op op_add (pe_op op_add (pe_op op_mul (pv 5) pe_int) (pe_op op_mul pe_int (pv 2))) pe_int) pa_nil)) pe_int))
          (pss_cons (ps_expr (pe_bm PySem.F.plainAttrs_list PySem.F.slot_list_append PySem.F.type_list_append mt_append (pv 1) (pa_cons (pe_op op_mod (pe_callTy call_int1 (by rfl) mi (by decide +kernel) (pa_cons (pv 5) pa_nil)) pe_int) pa_nil)))
          (pss_one (ps_expr (pe_bm PySem.F.plainAttrs_list PySem.F.slot_list_append PySem.F.type_list_append mt_append (pv 1) (pa_cons (pe_op op_mod (pe_callTy call_int1 (by rfl) mi (by decide +kernel) (pa_cons (pe_op op_fdiv (pv 5) pe_int) pa_nil)) pe_int) pa_nil)))))))))))
      (pss_one (ps_ret (pv 1)))), ?_⟩
    -- draws = []
    refine ⟨Nat.zero_le _, fun o no => ?_⟩
    have s1 : Same H (upd H o (.lst [])) := same_upd no
    have hS1 := s1.seq hS
    refine (q_forR (n := if (ns.length : Int) < 63 then (ns.length : Int) else 63) (va_cons (vl_min2 vl_c ((vl_lenL (vl_var rfl) hS1).is (by rw [List.length_map]))) va_nil) ⟨by split <;> omega, by split <;> omega⟩
      (fun i σ H3 => ∃ y2 y3 y4 y5 ds, σ = [some (.ref a), some (.ref o), y2, y3, y4, y5] ∧ Same H H3 ∧ H3 o = some (.lst (ds.map V.int)) ∧ DrawsOk (60 * i) ds)
      ⟨none, none, none, none, [], rfl, s1, upd_same, Nat.zero_le _, fun _ h => by cases h⟩ (fun i σ H3 hi hP => ?_) (fun σ H3 hP => ?_))
    · obtain ⟨y2, y3, y4, y5, ds, rfl, sm, ho, hd⟩ := hP
      have hi2 : i < ns.length := by
        split at hi <;> omega
      have hA := sm.seq hS
      have g1 : (ns.map V.int)[i]? = some (.int ns[i]) := by
        rw [List.getElem?_map, List.getElem?_eq_getElem hi2]
        rfl
      -- rest = abs(script[k])
      refine (q_asg (v := .int (if ns[i] < 0 then -ns[i] else ns[i])) (vl_abs (vl_ixL (vl_var rfl) (vl_var rfl) hA (atI_nat g1))) ?_)
      generalize hr0 : (if ns[i] < 0 then -ns[i] else ns[i]) = r
      have hr1 : 0 ≤ r := by
        rw [← hr0]
        split <;> omega
      refine g_if (b := decide ((10 : Int) ^ (18 : Int).toNat ≤ r)) (by exact an_test (vl_I0 (vl_var rfl) (vl_I vl_c vl_c ⟨by decide, by decide, by decide⟩))) (fun _ => ?_) (fun hlt => ?_)
      · refine g_forR (n := 60) (va_cons vl_c va_nil) ⟨by decide, by decide⟩
          (fun j σ H4 => ∃ y4 r ds', σ = [some (.ref a), some (.ref o), some (.int i), some (.int r), y4, y5] ∧ Same H H4 ∧ H4 o = some (.lst (ds'.map V.int)) ∧ DrawsOk (60 * i + j) ds')
          ⟨y4, r, ds, rfl, sm, ho, hd⟩ (fun j σ H4 hj hP => ?_) (fun σ H4 hP => ?_)
        · obtain ⟨z4, r', ds', rfl, sm', ho', hd'⟩ := hP
          refine g_if (by walk_at "ev") (fun _ => ?_) (fun _ => ?_)
          · have h0 : 0 ≤ r' % 65536 := Int.emod_nonneg _ (by decide)
            have h1 : r' % 65536 < 65536 := Int.emod_lt_of_pos _ (by decide)
            refine (q_app (vl_var rfl) ho' (v := .int (r' % 65536)) (by walk_at "ev") ?_ ?_)
            · rw [List.length_map]
              have := hd'.len
              exact Nat.lt_of_le_of_lt this (Nat.lt_of_le_of_lt (show 60 * i + j ≤ 10000 by omega) (by decide))
            · refine g_asg (v := .int (r' / 65536)) (by walk_at "ev") ?_
              refine ⟨_, _, ds' ++ [r' % 65536], rfl, same_upd' sm' no, ?_, hd'.app h0 h1⟩
              rw [upd_same, List.map_append]
              rfl
          · exact ⟨_, _, ds', rfl, sm', ho', hd'.mono (Nat.le_succ _)⟩
        · obtain ⟨z4, r', ds', rfl, sm', ho', hd'⟩ := hP
          exact ⟨_, _, _, _, ds', rfl, sm', ho', hd'⟩
      · have hlt : r < 1000000000000000000 := by
          have := of_decide_eq_false hlt
          have e : (10 : Int) ^ (18 : Int).toNat = 1000000000000000000 := by decide
          omega
        refine (q_asg (v := .int ((r * 48271 + ((i : Int) + 1) * 69621) % 2147483647)) (by walk_at "ev"; exact .inl ⟨by omega, by omega⟩; exact .inl ⟨by omega, by omega⟩) ?_)
        generalize hm : (r * 48271 + ((i : Int) + 1) * 69621) % 2147483647 = m
        have hm0 : 0 ≤ m := by
          rw [← hm]
          exact Int.emod_nonneg _ (by decide)
        have hm1 : m < 2147483647 := by
          rw [← hm]
          exact Int.emod_lt_of_pos _ (by decide)
        refine (q_asg (v := .int ((m * 16807 + 11 * (i : Int) + 5) % 2147483629)) (by walk_at "ev"; exact .inl ⟨by omega, by omega⟩; exact .inl ⟨by decide, by decide⟩) ?_)
        generalize (m * 16807 + 11 * (i : Int) + 5) % 2147483629 = m2
        have h0 : 0 ≤ m2 % 65536 := Int.emod_nonneg _ (by decide)
        have h1 : m2 % 65536 < 65536 := Int.emod_lt_of_pos _ (by decide)
        have h2 : 0 ≤ (m2 / 65536) % 32768 := Int.emod_nonneg _ (by decide)
        have h3 : (m2 / 65536) % 32768 < 65536 := Int.lt_trans (Int.emod_lt_of_pos _ (by decide)) (by decide)
        have hl := hd.len
        refine (q_app (vl_var rfl) ho (v := .int (m2 % 65536)) (by walk_at "ev") ?_ ?_)
        · rw [List.length_map]
          exact Nat.lt_of_le_of_lt (show ds.length ≤ 10000 by omega) (by decide)
        · refine g_app (vl_var rfl) upd_same (v := .int ((m2 / 65536) % 32768)) (by walk_at "ev") ?_ ?_
          · rw [List.length_append, List.length_map]
            exact Nat.lt_of_le_of_lt (show ds.length + 1 ≤ 10000 by omega) (by decide)
          · refine ⟨_, _, _, _, (ds ++ [m2 % 65536]) ++ [(m2 / 65536) % 32768], rfl, same_upd' (same_upd' sm no) no, ?_, ((hd.app h0 h1).app h2 h3).mono (by omega)⟩
            rw [upd_same, List.map_append, List.map_append]
            rfl
    · obtain ⟨y2, y3, y4, y5, ds, rfl, sm, ho, hd⟩ := hP
      refine g_ret (vl_var rfl) (q H3 o ds sm no ho (hd.mono ?_))
      split <;> omega
end
abbrev sAt : Stmt := topS 5
abbrev sIsI : Stmt := topS 6
abbrev sMix : Stmt := topS 7
abbrev sPrice : Stmt := topS 8
theorem scAt : FnScope ["draws", "k", "many"] ["draws", "k", "many"] (defScope sAt) := ⟨rfl, rfl, rfl, by decide +kernel, rfl, by decide +kernel, by decide +kernel⟩
theorem scIsI : FnScope ["actual"] ["actual"] (defScope sIsI) := ⟨rfl, rfl, rfl, by decide +kernel, rfl, by decide +kernel, by decide +kernel⟩
theorem scMix : FnScope ["draws", "k", "many", "value"] ["draws", "k", "many"] (defScope sMix) := ⟨rfl, rfl, rfl, by decide +kernel, rfl, by decide +kernel, by decide +kernel⟩
theorem scPrice : FnScope ["draws", "k", "word"] ["draws", "k"] (defScope sPrice) := ⟨rfl, rfl, rfl, by decide +kernel, rfl, by decide +kernel, by decide +kernel⟩
local macro_rules
  | `(tactic| walk_at "ev") => `(tactic| repeat' (first
    | exact vl_c | exact vl_var rfl | apply vl_I0 | apply vl_I | apply vl_int1 | apply vl_abs | apply vl_min2 | apply vl_max2 | apply vl_neg | apply vl_chainI
    | apply vl_lenL | apply vl_ixL | apply vl_ixT | apply vl_isN | apply vl_notN | apply vl_eq | apply vl_ne
    | apply an_test | apply an_B | apply an_not
    | exact (show (0 : Int) < _ by decide) | exact (show (0 : Int) < _ ∧ _ < (1073741824 : Int) from ⟨by decide, by decide⟩)))
/-- an int in [0, m) for draws, k, m -/
def spAt (K : PySem.W.Frag) : Sp := fun vs H Q _ => ∃ (a : Addr) (ds : List Int) (k m : Int), vs = [.ref a, .int k, .int m] ∧ SqL K H a (ds.map V.int) ∧ 0 ≤ k ∧ 0 < m ∧ ∀ r, 0 ≤ r ∧ r < m → Q (.int r) H
def spIsI : Sp := fun vs H Q _ => ∃ i : Int, vs = [.int i] ∧ Q (.bl true) H
section
variable {P : Program} {w : World} {K : PySem.W.Frag} {mg : Str → Option Value} {base : Heap}
theorem ok_isI {f : Addr} {fd : FuncData} {k : Nat} (F : Fun K "_law_is_integer" "_law_is_integer" sIsI f fd) (ms : mg "isinstance" = none) (mi : mg "int" = none) (mb : mg "bool" = none) :
    FnOk P w K mg base CX0 (k + 1) f fd ["actual"] spIsI := by
  refine F.ok scIsI (fun vs H Q E h => ?_) (fun cdv A outer s H vs Q E hr h => ?_)
  · obtain ⟨i, rfl, _⟩ := h
    rfl
  · obtain ⟨i, rfl, q⟩ := h
    refine ⟨_, pss_one (ps_ret (pe_and (pe_callB call_isi (by rfl) ms (by decide +kernel) (pa_cons (pv 0) (pa_cons (pe_bltn (v := .ty "int") (by rfl) mi (by decide +kernel) rfl) pa_nil)))
      (pe_one (pe_not (pe_callB call_isi (by rfl) ms (by decide +kernel) (pa_cons (pv 0) (pa_cons (pe_bltn (v := .ty "bool") (by rfl) mb (by decide +kernel) rfl) pa_nil))))))), ?_⟩
    refine ⟨.int i, rfl, .int i, .ty "int", .type "int", .type "int", true, rfl, .ty _, .base (.int _), kit_ty (by decide +kernel), true, rfl, iteT ?_⟩
    exact ⟨.int i, rfl, .int i, .ty "bool", .type "int", .type "bool", false, rfl, .ty _, .base (.int _), kit_ty (by decide +kernel), false, rfl, q⟩
theorem ok_at {f : Addr} {fd : FuncData} {k : Nat} (F : Fun K "_law_at" "_law_at" sAt f fd) (ml : mg "len" = none) (mi : mg "int" = none) :
    FnOk P w K mg base CX0 (k + 1) f fd ["draws", "k", "many"] (spAt K) := by
  refine F.ok scAt (fun vs H Q E h => ?_) (fun cdv A outer s H vs Q E hr h => ?_)
  · obtain ⟨a, ds, k, m, rfl, _⟩ := h
    rfl
  · obtain ⟨a, ds, k, m, rfl, hS, hk, hm, q⟩ := h
    refine ⟨_, pss_cons (ps_if (pt_cmpR op_lt (pv 1) (pe_callB call_len_seq (by rfl) ml PySem.boot_len (pa_cons (pv 0) pa_nil)) (nomark _))
        (pss_one (ps_ret (pe_op op_mod (pe_callTy call_int1 (by rfl) mi (by decide +kernel) (pa_cons (pe_ix ix_list (pv 0) (pv 1) (fun _ _ => rfl)) pa_nil)) (pv 2)))) pss_nil)
      (pss_one (ps_ret pe_int)), ?_⟩
    refine q_when (b := decide (k < (ds.length : Int))) (by exact an_test (vl_I0 (vl_var rfl) ((vl_lenL (vl_var rfl) hS).is (by rw [List.length_map])))) (fun hb => ?_) (fun _ => ?_)
    · have hb := of_decide_eq_true hb
      obtain ⟨d, g', _⟩ := at_int hk hb
      refine g_ret (v := .int (d % m)) ?_ (q _ ⟨Int.emod_nonneg _ (by omega), Int.emod_lt_of_pos _ hm⟩)
      exact vl_I (vl_int1 (vl_ixL (vl_var rfl) (vl_var rfl) hS g')) (vl_var rfl) hm
    · exact g_ret vl_c (q 0 ⟨by omega, by omega⟩)
theorem ok_mix {f : Addr} {fd : FuncData} {k : Nat} (F : Fun K "_law_mix" "_law_mix" sMix f fd) (ml : mg "len" = none) (mi : mg "int" = none) :
    FnOk P w K mg base CX0 (k + 1) f fd ["draws", "k", "many"] (spAt K) := by
  refine F.ok scMix (fun vs H Q E h => ?_) (fun cdv A outer s H vs Q E hr h => ?_)
  · obtain ⟨a, ds, k, m, rfl, _⟩ := h
    rfl
  · obtain ⟨a, ds, k, m, rfl, hS, hk, hm, q⟩ := h
    refine ⟨_, pss_cons (ps_set (i := 3) scMix.nd rfl (.inl rfl) pe_int)
      (Evl.pss_cut (ps_if (pt_cmpR op_gt (pe_callB call_len_seq (by rfl) ml PySem.boot_len (pa_cons (pv 0) pa_nil)) pe_int (nomark _))
        (pss_one (ps_set (i := 3) scMix.nd rfl (.inl rfl) (pe_ix ix_list (pv 0) (pe_op op_mod (pe_callTy call_int1 (by rfl) mi (by decide +kernel) (pa_cons (pv 1) pa_nil)) (pe_callB call_len_seq (by rfl) ml PySem.boot_len (pa_cons (pv 0) pa_nil))) (fun _ _ => rfl)))) pss_nil)
      (pss_cons (ps_if (pt_cmpR op_lt (pv 1) (pe_callB call_len_seq (by rfl) ml PySem.boot_len (pa_cons (pv 0) pa_nil)) (nomark _))
        (pss_one (ps_ret (pe_op op_mod (pe_callTy call_int1 (by rfl) mi (by decide +kernel) (pa_cons (pv 3) pa_nil)) (pv 2)))) pss_nil)
      (pss_one (ps_ret (pe_op op_mod (pe_callTy call_int1 (by rfl) mi (by decide +kernel) (pa_cons (pe_op op_fdiv (pe_callTy call_int1 (by rfl) mi (by decide +kernel) (pa_cons (pe_op op_add (pe_op op_mul (pv 3) pe_int) (pe_op op_mul (pv 1) pe_int)) pa_nil)) pe_int) pa_nil)) (pv 2)))))), ?_⟩
    refine q_asg vl_c ?_
    refine q_cut (M := fun σ' H' => ∃ v : Int, σ' = [some (.ref a), some (.int k), some (.int m), some (.int v)] ∧ H' = H) ?_ ?_
    · refine g_when (b := decide ((0 : Int) < (ds.length : Int))) (by exact an_test (vl_I0 ((vl_lenL (vl_var rfl) hS).is (by rw [List.length_map])) vl_c)) (fun hb => ?_) (fun _ => ⟨0, rfl, rfl⟩)
      have hb := of_decide_eq_true hb
      have h0 : 0 ≤ k % (ds.length : Int) := Int.emod_nonneg _ (by omega)
      have h1 : k % (ds.length : Int) < (ds.length : Int) := Int.emod_lt_of_pos _ hb
      obtain ⟨d, g', _⟩ := at_int h0 h1
      exact g_asg (vl_ixL (vl_var rfl) (vl_I (vl_int1 (vl_var rfl)) ((vl_lenL (vl_var rfl) hS).is (by rw [List.length_map])) hb) hS g') ⟨_, rfl, rfl⟩
    · rintro σ' H' ⟨v, rfl, rfl⟩
      refine q_when (b := decide (k < (ds.length : Int))) (by exact an_test (vl_I0 (vl_var rfl) ((vl_lenL (vl_var rfl) hS).is (by rw [List.length_map])))) (fun hb => ?_) (fun _ => ?_)
      · exact g_ret (v := .int (v % m)) (vl_I (vl_int1 (vl_var rfl)) (vl_var rfl) hm) (q _ ⟨Int.emod_nonneg _ (by omega), Int.emod_lt_of_pos _ hm⟩)
      · refine g_ret (v := .int ((v * 7919 + k * 104729) / 3 % m)) (vl_I (vl_int1 (vl_I (vl_int1 (vl_I0 (vl_I (vl_var rfl) vl_c (.inr ⟨by decide, by decide⟩)) (vl_I (vl_var rfl) vl_c (.inr ⟨by decide, by decide⟩)))) vl_c ⟨by decide, by decide⟩)) (vl_var rfl) hm) (q _ ⟨Int.emod_nonneg _ (by omega), Int.emod_lt_of_pos _ hm⟩)
end
def PriceOk (o : Option Int) : Prop := ∀ x, o = some x → 1 ≤ x ∧ x ≤ 1000000
structure LnkOk (n : Int) (l : Lnk) : Prop where
  a0 : 0 ≤ l.a
  ab : l.a < l.b
  bn : l.b < n
  t : PriceOk l.t
  k : PriceOk l.k
def LnkLt (x y : Lnk) : Prop := x.a < y.a ∨ (x.a = y.a ∧ x.b < y.b)
structure NetOk (N : Net) : Prop where
  n1 : 1 ≤ N.n
  n40 : N.n ≤ 40
  ok : ∀ l ∈ N.ls, LnkOk N.n l
  lt : N.ls.Pairwise LnkLt
  len : N.ls.length ≤ 1600
/-- a net that stands in H by itself -/
def NetAt (K : PySem.W.Frag) (H : Hp) (v : V) (N : Net) : Prop := ∃ p q xs, v = .ref p ∧ H p = some (.tup [.int N.n, .ref q]) ∧ H q = some (.lst xs) ∧ DpAll K H xs (N.ls.map lnkD)
theorem NetAt.dp {K : PySem.W.Frag} {H : Hp} {v : V} {N : Net} (h : NetAt K H v N) : Dp K H v (netD N) := by
  obtain ⟨p, q, xs, rfl, hp, hq, hx⟩ := h
  exact Dp.net (.of hp) (.of hq) hx
theorem NetAt.to {K : PySem.W.Frag} {H H' : Hp} {v : V} {N : Net} (h : NetAt K H v N) (s : Same H H') : NetAt K H' v N := by
  obtain ⟨p, q, xs, rfl, hp, hq, hx⟩ := h
  exact ⟨p, q, xs, rfl, s _ _ hp, s _ _ hq, DpAll.to hx s⟩
def spPrice (K : PySem.W.Frag) : Sp := fun vs H Q _ => ∃ (a : Addr) (ds : List Int) (k : Int), vs = [.ref a, .int k] ∧ SqL K H a (ds.map V.int) ∧ 0 ≤ k ∧ ∀ H' o, Same H H' → PriceOk o → Q (oV o) H'
def spNet (K : PySem.W.Frag) : Sp := fun vs H Q _ => ∃ (a : Addr) (ds : List Int) (k m : Int), vs = [.ref a, .int k, .int m] ∧ SqL K H a (ds.map V.int) ∧ 0 ≤ k ∧ 1 ≤ m ∧ m ≤ 40 ∧
  ∀ H' v N, Same H H' → NetAt K H' v N → NetOk N → N.n ≤ m → Q v H'
section
variable {P : Program} {w : World} {K : PySem.W.Frag} {mg : Str → Option Value} {base : Heap}
theorem ok_price {f : Addr} {fd : FuncData} (F : Fun K "_law_price" "_law_price" sPrice f fd) (M : Kal P w K mg base 1 "_law_mix" ["draws", "k", "many"] (spAt K)) (mi : mg "int" = none) :
    FnOk P w K mg base CX0 2 f fd ["draws", "k"] (spPrice K) := by
  refine F.ok scPrice (fun vs H Q E h => ?_) (fun cdv A outer s H vs Q E hr h => ?_)
  · obtain ⟨a, ds, k, rfl, _⟩ := h
    rfl
  · obtain ⟨a, ds, k, rfl, hS, hk, q⟩ := h
    refine ⟨_, pss_cons (ps_set (i := 2) scPrice.nd rfl (.inl rfl) (pe_k M hr (by decide) (by rfl) (pa_cons (pv 0) (pa_cons (pv 1) (pa_cons pe_int pa_nil)))))
      (pss_cons (ps_if (pt_cmpR op_eq (pv 2) pe_int (nomark _)) (pss_one (ps_ret pe_non)) pss_nil)
      (pss_cons (ps_if (pt_cmpR op_eq (pv 2) pe_int (nomark _))
        (pss_one (ps_ret (pe_op op_sub pe_int (pe_k M hr (by decide) (by rfl) (pa_cons (pv 0) (pa_cons (pe_op op_add (pv 1) pe_int) (pa_cons pe_int pa_nil))))))) pss_nil)
      (pss_one (ps_ret (pe_op op_add pe_int (pe_k M hr (by decide) (by rfl) (pa_cons (pv 0) (pa_cons (pe_op op_add (pv 1) pe_int)
        (pa_cons (pe_ix ix_list (pe_lst (pa_cons pe_int (pa_cons pe_int (pa_cons pe_int pa_nil)))) (pe_op op_mod (pe_callTy call_int1 (by rfl) mi (by decide +kernel) (pa_cons (pv 2) pa_nil)) pe_int) (fun _ _ => rfl)) pa_nil))))))))), ?_⟩
    refine q_asgI (vi_call (P := fun r => 0 ≤ r ∧ r < 7) (va_cons (vl_var rfl) (va_cons (vl_var rfl) (va_cons vl_c va_nil))) fun Q E q => ⟨a, ds, k, 7, rfl, hS, hk, by decide, q⟩) (fun wd hw => ?_)
    refine q_when (b := decide (V.int wd = V.int 0)) (by exact an_test (vl_eq (vl_var rfl) vl_c rfl)) (fun _ => ?_) (fun _ => ?_)
    · exact g_ret vl_c (q H none (Same.refl H) (fun x e => by cases e))
    · refine q_when (b := decide (V.int wd = V.int 1)) (by exact an_test (vl_eq (vl_var rfl) vl_c rfl)) (fun _ => ?_) (fun _ => ?_)
      · refine g_retI (P := fun r => 1 ≤ r ∧ r ≤ 1000000) (vi_I0 (vi_of vl_c) (vi_call (P := fun r => 0 ≤ r ∧ r < 3) (va_cons (vl_var rfl) (va_cons (vl_I0 (vl_var rfl) vl_c) (va_cons vl_c va_nil))) fun Q E q => ⟨a, ds, k + 1, 3, rfl, hS, by omega, by decide, q⟩) (fun p r hp hr => ?_)) (fun r hr => ?_)
        · omega
        · exact q H (some r) (Same.refl H) (fun x e => by
            cases e
            exact hr)
      · refine ⟨.ref a, rfl, .int k, rfl, k, 1, rfl, rfl, by show 3 ≤ sizeLine; decide, fun p np => ?_⟩
        refine (vl_I (vl_int1 (vl_var rfl)) vl_c (by decide)) _ ?_
        obtain ⟨d, g', hd⟩ := at_int (ds := [4, 30, 1000000]) (k := wd % 3) (by omega) (by show wd % 3 < 3; omega)
        have hd1 : 1 ≤ d ∧ d ≤ 1000000 := by
          have := List.mem_of_getElem? hd
          simp only [List.mem_cons, List.not_mem_nil, or_false] at this
          omega
        refine ⟨p, _, _, _, rfl, rfl, .inl (.inl upd_same), g', ?_⟩
        refine ⟨a, ds, k + 1, d, rfl, (same_upd np).seq hS, by omega, by omega, fun r hr => ?_⟩
        exact ⟨1, r, rfl, rfl, q _ (some (1 + r)) (same_upd np) (fun x e => by
          cases e
          omega)⟩
end
abbrev sNet : Stmt := topS 9
theorem scNet : FnScope ["draws", "k", "most", "size", "dense", "links", "a", "b", "at"] ["draws", "k", "most"] (defScope sNet) := ⟨rfl, rfl, rfl, by decide +kernel, rfl, by decide +kernel, by decide +kernel⟩
/-- the links made so far: all of them before (i, c) -/
structure LsAt (n i c : Int) (ls : List Lnk) : Prop where
  ok : ∀ l ∈ ls, LnkOk n l
  to : ∀ l ∈ ls, l.a < i ∨ (l.a = i ∧ l.b < c)
  lt : ls.Pairwise LnkLt
theorem LsAt.nil {n i c : Int} : LsAt n i c [] := ⟨fun _ h => (nomatch h), fun _ h => (nomatch h), .nil⟩
theorem LsAt.mono {n i c i' c' : Int} {ls : List Lnk} (h : LsAt n i c ls) (e : i < i' ∨ (i = i' ∧ c ≤ c')) : LsAt n i' c' ls :=
  ⟨h.ok, fun l hl => by
    have := h.to l hl
    omega, h.lt⟩
theorem LsAt.app {n i c : Int} {ls : List Lnk} {t k : Option Int} (h : LsAt n i c ls) (h0 : 0 ≤ i) (h1 : i < c) (h2 : c < n) (ht : PriceOk t) (hk : PriceOk k) : LsAt n i (c + 1) (ls ++ [⟨i, c, t, k⟩]) where
  ok := fun l hl => by
    rcases List.mem_append.mp hl with h' | h'
    · exact h.ok l h'
    · rw [List.mem_singleton.mp h']
      exact ⟨h0, h1, h2, ht, hk⟩
  to := fun l hl => by
    rcases List.mem_append.mp hl with h' | h'
    · have := h.to l h'
      omega
    · rw [List.mem_singleton.mp h']
      exact .inr ⟨rfl, Int.lt_succ c⟩
  lt := List.pairwise_append.mpr ⟨h.lt, List.pairwise_singleton _ _, fun x hx y hy => by
    rw [List.mem_singleton.mp hy]
    exact h.to x hx⟩
section
variable {P : Program} {w : World} {K : PySem.W.Frag} {mg : Str → Option Value} {base : Heap}
theorem ok_net {f : Addr} {fd : FuncData} (F : Fun K "_law_net" "_law_net" sNet f fd) (M : Kal P w K mg base 1 "_law_mix" ["draws", "k", "many"] (spAt K)) (C : Kal P w K mg base 2 "_law_price" ["draws", "k"] (spPrice K)) (mr : mg "range" = none) :
    FnOk P w K mg base CX0 3 f fd ["draws", "k", "most"] (spNet K) := by
  refine F.ok scNet (fun vs H Q E h => ?_) (fun cdv A outer s H vs Q E hr h => ?_)
  · obtain ⟨a, ds, k, m, rfl, _⟩ := h
    rfl
  · obtain ⟨a, ds, k, m, rfl, hS, hk, hm1, hm2, q⟩ := h
    refine ⟨_, pss_cons (ps_set (i := 3) scNet.nd rfl (.inl rfl) (pe_op op_add pe_int (pe_k M hr (by decide) (by rfl) (pa_cons (pv 0) (pa_cons (pv 1) (pa_cons (pv 2) pa_nil))))))
      (pss_cons (ps_set (i := 4) scNet.nd rfl (.inl rfl) (pe_op op_add pe_int (pe_k M hr (by decide) (by rfl) (pa_cons (pv 0) (pa_cons (pe_op op_add (pv 1) pe_int) (pa_cons pe_int pa_nil))))))
      (pss_cons (ps_set (i := 5) scNet.nd rfl (.inl rfl) (pe_lst pa_nil))
      (pss_cons (ps_for PassesOwn.never rfl (pi_range1 (by rfl) mr (pa_cons (pv 3) pa_nil)) (pg_name (i := 6) scNet.nd rfl (.inl rfl))
        (pss_one (ps_for PassesOwn.never rfl (pi_range2 (by rfl) mr (pa_cons (pe_op op_add (pv 6) pe_int) (pa_cons (pv 3) pa_nil))) (pg_name (i := 7) scNet.nd rfl (.inl rfl))
          (pss_cons (ps_set (i := 8) scNet.nd rfl (.inl rfl) (pe_op op_add (pe_op op_add (pv 1) pe_int) (pe_op op_mul pe_int (pe_op op_add (pe_op op_mul (pv 6) (pv 3)) (pv 7)))))
          (pss_one (ps_if (pt_cmpR op_eq (pe_k M hr (by decide) (by rfl) (pa_cons (pv 0) (pa_cons (pv 8)
              (pa_cons (pe_ix ix_list (pe_lst (pa_cons pe_int (pa_cons pe_int (pa_cons pe_int (pa_cons (pv 3) (pa_cons (pv 3) pa_nil)))))) (pe_op op_sub (pv 4) pe_int) (fun _ _ => rfl)) pa_nil)))) pe_int (nomark _))
            (pss_one (ps_expr (pe_bm PySem.F.plainAttrs_list PySem.F.slot_list_append PySem.F.type_list_append mt_append (pv 5)
              (pa_cons (pe_tup (pa_cons (pv 6) (pa_cons (pv 7) (pa_cons (pe_k C hr (by decide) (by rfl) (pa_cons (pv 0) (pa_cons (pe_op op_add (pv 8) pe_int) pa_nil)))
                (pa_cons (pe_k C hr (by decide) (by rfl) (pa_cons (pv 0) (pa_cons (pe_op op_add (pv 8) pe_int) pa_nil))) pa_nil))))) pa_nil)))) pss_nil))))))
      (pss_one (ps_ret (pe_tup (pa_cons (pv 3) (pa_cons (pv 5) pa_nil)))))))), ?_⟩
    refine q_asgI (P := fun r => 1 ≤ r ∧ r ≤ m) (vi_I0 (vi_of vl_c) (vi_call (P := fun r => 0 ≤ r ∧ r < m) (va_cons (vl_var rfl) (va_cons (vl_var rfl) (va_cons (vl_var rfl) va_nil))) fun Q E q => ⟨a, ds, k, m, rfl, hS, hk, by omega, q⟩) (fun p r hp hr => by omega)) (fun n hn => ?_)
    refine q_asgI (P := fun r => 1 ≤ r ∧ r ≤ 5) (vi_I0 (vi_of vl_c) (vi_call (P := fun r => 0 ≤ r ∧ r < 5) (va_cons (vl_var rfl) (va_cons (vl_I0 (vl_var rfl) vl_c) (va_cons vl_c va_nil))) fun Q E q => ⟨a, ds, k + 1, 5, rfl, hS, by omega, by decide, q⟩) (fun p r hp hr => by omega)) (fun dn hdn => ?_)
    refine ⟨Nat.zero_le _, fun o no => ?_⟩
    refine q_forR (n := n) (va_cons (vl_var rfl) va_nil) ⟨by omega, by omega⟩
      (fun i σ H3 => ∃ y6 y7 y8 xs ls, σ = [some (.ref a), some (.int k), some (.int m), some (.int n), some (.int dn), some (.ref o), y6, y7, y8] ∧ H3 o = some (.lst xs) ∧ Same H (but H3 o) ∧ DpAll K (but H3 o) xs (ls.map lnkD) ∧ LsAt n i 0 ls ∧ ls.length ≤ i * 40)
      ⟨none, none, none, [], [], rfl, upd_same, same_but (same_upd no) no, .nil, .nil, by simp⟩ (fun i σ H3 hi hP => ?_) (fun σ H3 hP => ?_)
    · obtain ⟨y6, y7, y8, xs, ls, rfl, ho, sm, hx, hl, hlen⟩ := hP
      refine g_forR2 (lo := (i : Int) + 1) (n := n) (va_cons (vl_I0 (vl_var rfl) vl_c) (va_cons (vl_var rfl) va_nil)) ⟨by omega, by omega, by omega, by omega⟩
        (fun j σ H3 => ∃ y7 y8 xs ls, σ = [some (.ref a), some (.int k), some (.int m), some (.int n), some (.int dn), some (.ref o), some (.int i), y7, y8] ∧ H3 o = some (.lst xs) ∧ Same H (but H3 o) ∧ DpAll K (but H3 o) xs (ls.map lnkD) ∧ LsAt n i ((i : Int) + 1 + j) ls ∧ ls.length ≤ i * 40 + j)
        ⟨y7, y8, xs, ls, rfl, ho, sm, hx, hl.mono (.inr ⟨rfl, by omega⟩), hlen⟩ (fun j σ H3 hj hP => ?_) (fun σ H3 hP => ?_)
      · obtain ⟨y7, y8, xs, ls, rfl, ho, sm, hx, hl, hlen⟩ := hP
        refine q_asg (v := .int (k + 3 + 2 * (i * n + ((i : Int) + 1 + j)))) (vl_I0 (vl_I0 (vl_var rfl) vl_c) (vl_I vl_c (vl_I0 (vl_I (vl_var rfl) (vl_var rfl) (.inl ⟨by omega, by omega⟩)) (vl_var rfl)) (.inl ⟨by decide, by decide⟩))) ?_
        have hin : 0 ≤ (i : Int) * n := Int.mul_nonneg (by omega) (by omega)
        generalize hat : k + 3 + 2 * ((i : Int) * n + ((i : Int) + 1 + j)) = at_
        have hat0 : 0 ≤ at_ := by omega
        refine ⟨.ref a, rfl, .int at_, rfl, .int n, rfl, .int n, rfl, by show 5 ≤ sizeLine; decide, fun p np => ?_⟩
        refine (vl_I0 (vl_var rfl) vl_c) _ ?_
        have npo : o ≠ p := ne_of_none ho np
        obtain ⟨d, g', hd⟩ := at_int (ds := [2, 3, 4, n, n]) (k := dn - 1) (by omega) (by show dn - 1 < 5; omega)
        have hd1 : 1 ≤ d := by
          have := List.mem_of_getElem? hd
          simp only [List.mem_cons, List.not_mem_nil, or_false] at this
          omega
        have s3 : Same H3 (upd H3 p (.lst [.int 2, .int 3, .int 4, .int n, .int n])) := same_upd np
        have sH : Same H H3 := sm.trans but_same
        refine ⟨p, _, _, _, rfl, rfl, .inl (.inl upd_same), g', ?_⟩
        refine ⟨a, ds, at_, d, rfl, (sH.trans s3).seq hS, hat0, by omega, fun r hr => ?_⟩
        refine ⟨rfl, _, rfl, ite2 (fun _ => ?_) (fun _ => ?_)⟩
        · -- links.append
          have ho4 := s3 _ _ ho
          refine ⟨.ref o, rfl, .inl ⟨rfl, _, .inl (.inl ho4)⟩, .int i, rfl, .int ((i : Int) + 1 + j), rfl, ?_⟩
          refine ⟨.ref a, rfl, .int at_, rfl, at_, 1, rfl, rfl, a, ds, at_ + 1, rfl, (sH.trans s3).seq hS, by omega, fun H5 t s5 ht => ?_⟩
          refine ⟨.ref a, rfl, .int at_, rfl, at_, 2, rfl, rfl, a, ds, at_ + 2, rfl, ((sH.trans s3).trans s5).seq hS, by omega, fun H6 u s6 hu => ?_⟩
          refine ⟨by show 4 ≤ sizeLine; decide, fun T nT => ?_⟩
          have s36 : Same H3 H6 := (s3.trans s5).trans s6
          have ho6 := s36 _ _ ho
          have nTo : o ≠ T := ne_of_none ho6 nT
          have s7 : Same H6 (upd H6 T (.tup [.int i, .int ((i : Int) + 1 + j), oV t, oV u])) := same_upd nT
          refine ⟨o, xs, .ref T, rfl, rfl, s7 _ _ ho6, ?_, ?_⟩
          · rw [DpAll.len hx, List.length_map]
            exact Nat.lt_of_le_of_lt (show ls.length ≤ 10000 by omega) (by decide)
          · have sb : Same (but H3 o) (but (upd (upd H6 T (.tup [.int i, .int ((i : Int) + 1 + j), oV t, oV u])) o (.lst (xs ++ [.ref T]))) o) := by
              rw [but_upd]
              exact but_mono (s36.trans s7)
            refine ⟨_, _, xs ++ [.ref T], ls ++ [⟨i, (i : Int) + 1 + j, t, u⟩], rfl, upd_same, sm.trans sb, ?_, ?_, ?_⟩
            · rw [List.map_append]
              refine DpAll.app (DpAll.to hx sb) (DpAll.one (Dp.lnk (l := ⟨i, (i : Int) + 1 + j, t, u⟩) (.of ?_)))
              rw [but_upd, but_ne nTo.symm, upd_same]
              rfl
            · rw [show (i : Int) + 1 + ((j + 1 : Nat) : Int) = (i : Int) + 1 + j + 1 by omega]
              exact hl.app (by omega) (by omega) (by omega) ht hu
            · rw [List.length_append]
              show ls.length + 1 ≤ i * 40 + (j + 1)
              omega
        · have sb : Same (but H3 o) (but (upd H3 p (.lst [.int 2, .int 3, .int 4, .int n, .int n])) o) := but_mono s3
          exact ⟨_, _, xs, ls, rfl, s3 _ _ ho, sm.trans sb, DpAll.to hx sb, hl.mono (.inr ⟨rfl, by omega⟩), by omega⟩
      · obtain ⟨y7, y8, xs, ls, rfl, ho, sm, hx, hl, hlen⟩ := hP
        exact ⟨_, _, _, xs, ls, rfl, ho, sm, hx, hl.mono (.inl (by omega)), by omega⟩
    · obtain ⟨y6, y7, y8, xs, ls, rfl, ho, sm, hx, hl, hlen⟩ := hP
      refine ⟨.int n, rfl, .ref o, rfl, by show 2 ≤ sizeLine; decide, fun T nT => ?_⟩
      have s3 : Same H3 (upd H3 T (.tup [.int n, .ref o])) := same_upd nT
      exact q _ _ ⟨n, ls⟩ ((sm.trans but_same).trans s3) ⟨T, o, xs, rfl, upd_same, s3 _ _ ho, DpAll.to hx (but_same.trans s3)⟩ ⟨by show 1 ≤ n; omega, by show n ≤ 40; omega, hl.ok, hl.lt, by show ls.length ≤ 1600; omega⟩ (by show n ≤ m; omega)
end
/-! ### the price from x to y -/
def lstep (x y : Int) (f : Option Int) (l : Lnk) : Option Int := if l.b = x ∧ l.a = y then l.k else if l.a = x ∧ l.b = y then l.t else f
def look (ls : List Lnk) (x y : Int) : Option Int := ls.foldl (lstep x y) none
theorem look_snoc {ls : List Lnk} {l : Lnk} {x y : Int} : look (ls ++ [l]) x y = lstep x y (look ls x y) l := by
  unfold look
  rw [List.foldl_append]
  rfl
theorem take_snoc {α : Type} {xs : List α} {i : Nat} {x : α} (h : xs[i]? = some x) : xs.take (i + 1) = xs.take i ++ [x] := by
  rw [List.take_add_one, h]
  rfl
theorem look_some_of : ∀ (ls : List Lnk) (f : Option Int) {x y c : Int}, ls.foldl (lstep x y) f = some c → f = some c ∨ ∃ l ∈ ls, (l.a = x ∧ l.b = y) ∨ (l.b = x ∧ l.a = y)
  | [], f, x, y, c, h => .inl h
  | l :: ls, f, x, y, c, h => by
    rcases look_some_of ls (lstep x y f l) h with h' | ⟨m, hm, e⟩
    · unfold lstep at h'
      by_cases c1 : l.b = x ∧ l.a = y
      · exact .inr ⟨l, List.mem_cons_self, .inr c1⟩
      · rw [if_neg c1] at h'
        by_cases c2 : l.a = x ∧ l.b = y
        · exact .inr ⟨l, List.mem_cons_self, .inl c2⟩
        · rw [if_neg c2] at h'
          exact .inl h'
    · exact .inr ⟨m, List.mem_cons_of_mem _ hm, e⟩
theorem look_in {N : Net} (ok : NetOk N) {x y c : Int} (h : look N.ls x y = some c) : (0 ≤ x ∧ x < N.n) ∧ 0 ≤ y ∧ y < N.n := by
  rcases look_some_of N.ls none h with h' | ⟨l, hl, e⟩
  · cases h'
  · have o := ok.ok l hl
    have := o.a0
    have := o.ab
    have := o.bn
    omega
theorem keep_fold : ∀ (ls : List Lnk) (f : Option Int) {x y : Int}, (∀ l ∈ ls, ¬ (l.b = x ∧ l.a = y) ∧ ¬ (l.a = x ∧ l.b = y)) → ls.foldl (lstep x y) f = f
  | [], f, x, y, _ => rfl
  | l :: ls, f, x, y, h => by
    show ls.foldl (lstep x y) (lstep x y f l) = f
    have hl := h l List.mem_cons_self
    rw [show lstep x y f l = f by
      unfold lstep
      rw [if_neg hl.1, if_neg hl.2]]
    exact keep_fold ls f fun m hm => h m (List.mem_cons_of_mem _ hm)
theorem look_of : ∀ (ls : List Lnk) (f : Option Int) {l : Lnk}, ls.Pairwise LnkLt → (∀ m ∈ ls, m.a < m.b) → l ∈ ls → ls.foldl (lstep l.a l.b) f = l.t ∧ ls.foldl (lstep l.b l.a) f = l.k
  | [], f, l, _, _, h => nomatch h
  | m :: ls, f, l, hp, ha, h => by
    have hp' := List.pairwise_cons.mp hp
    rcases List.mem_cons.mp h with e | h'
    · subst e
      have hl := ha l List.mem_cons_self
      have far : ∀ m ∈ ls, ¬ (m.b = l.a ∧ m.a = l.b) ∧ ¬ (m.a = l.a ∧ m.b = l.b) := fun m hm => by
        have h1 := hp'.1 m hm
        have h2 := ha m (List.mem_cons_of_mem _ hm)
        unfold LnkLt at h1
        omega
      have far2 : ∀ m ∈ ls, ¬ (m.b = l.b ∧ m.a = l.a) ∧ ¬ (m.a = l.b ∧ m.b = l.a) := fun m hm => by
        have := far m hm
        omega
      constructor
      · show ls.foldl (lstep l.a l.b) (lstep l.a l.b f l) = l.t
        rw [keep_fold ls _ far]
        unfold lstep
        rw [if_neg (by omega), if_pos ⟨rfl, rfl⟩]
      · show ls.foldl (lstep l.b l.a) (lstep l.b l.a f l) = l.k
        rw [keep_fold ls _ far2]
        unfold lstep
        rw [if_pos ⟨rfl, rfl⟩]
    · exact ⟨(look_of ls (lstep l.a l.b f m) hp'.2 (fun m hm => ha m (List.mem_cons_of_mem _ hm)) h').1, (look_of ls (lstep l.b l.a f m) hp'.2 (fun m hm => ha m (List.mem_cons_of_mem _ hm)) h').2⟩
theorem look_there {N : Net} (ok : NetOk N) {l : Lnk} (h : l ∈ N.ls) : look N.ls l.a l.b = l.t := (look_of N.ls none ok.lt (fun m hm => (ok.ok m hm).ab) h).1
theorem look_back {N : Net} (ok : NetOk N) {l : Lnk} (h : l ∈ N.ls) : look N.ls l.b l.a = l.k := (look_of N.ls none ok.lt (fun m hm => (ok.ok m hm).ab) h).2
/-! ### the sum of a road -/
def sstep (N : Net) : Option (Option Int × Int) → Int → Option (Option Int × Int)
  | none, _ => none
  | some (p, t), x => if 0 ≤ x ∧ x < N.n then (match p with
    | none => some (some x, t)
    | some y => match look N.ls y x with
      | none => none
      | some c => some (some x, t + c)) else none
def sumSt (N : Net) (rd : List Int) : Option (Option Int × Int) := rd.foldl (sstep N) (some (none, 0))
def lawSum (N : Net) (rd : List Int) : Option Int := if rd = [] then none else (sumSt N rd).map (·.2)
theorem sumSt_snoc {N : Net} {rd : List Int} {x : Int} : sumSt N (rd ++ [x]) = sstep N (sumSt N rd) x := by
  unfold sumSt
  rw [List.foldl_append]
  rfl
theorem fold_none (N : Net) : ∀ rd : List Int, rd.foldl (sstep N) none = none
  | [] => rfl
  | _ :: rd => fold_none N rd
theorem sumSt_none {N : Net} {rd : List Int} {k : Nat} (h : sumSt N (rd.take k) = none) : sumSt N rd = none := by
  have e : rd.take k ++ rd.drop k = rd := List.take_append_drop k rd
  rw [← e]
  unfold sumSt at h ⊢
  rw [List.foldl_append, h]
  exact fold_none N _
/-- the sum after i pairs -/
def rsTo (N : Net) (rd : List Int) : Nat → Option Int
  | 0 => some 0
  | i + 1 => match rsTo N rd i with
    | none => none
    | some t => match rd[i]?, rd[i + 1]? with
      | some x, some y => match look N.ls x y with
        | none => none
        | some c => some (t + c)
      | _, _ => none
def roadSum (N : Net) : List Int → Option Int
  | [] => none
  | x :: r => if 0 ≤ x ∧ x < N.n then rsTo N (x :: r) r.length else none
theorem rs_none {N : Net} {rd : List Int} {i : Nat} (h : rsTo N rd i = none) : ∀ k, rsTo N rd (i + k) = none
  | 0 => h
  | k + 1 => by
    show (match rsTo N rd (i + k) with
      | none => none
      | some t => match rd[i + k]?, rd[i + k + 1]? with
        | some x, some y => match look N.ls x y with
          | none => none
          | some c => some (t + c)
        | _, _ => none) = none
    rw [rs_none h k]
theorem sum_rs {N : Net} (ok : NetOk N) {x : Int} {r : List Int} (hx : 0 ≤ x ∧ x < N.n) : ∀ (k : Nat) (y : Int), (x :: r)[k]? = some y → sumSt N ((x :: r).take (k + 1)) = (rsTo N (x :: r) k).map fun t => (some y, t)
  | 0, y, h => by
    cases h
    show (if 0 ≤ x ∧ x < N.n then some (some x, (0 : Int)) else none) = some (some x, 0)
    rw [if_pos hx]
  | k + 1, y, h => by
    have hk : k < (x :: r).length := by
      have := (List.getElem?_eq_some_iff.mp h).1
      omega
    have hz : (x :: r)[k]? = some (x :: r)[k] := List.getElem?_eq_getElem hk
    have ih := sum_rs ok hx k _ hz
    rw [take_snoc h, sumSt_snoc, ih]
    show sstep N ((rsTo N (x :: r) k).map _) y = (match rsTo N (x :: r) k with
      | none => none
      | some t => match (x :: r)[k]?, (x :: r)[k + 1]? with
        | some x, some y => match look N.ls x y with
          | none => none
          | some c => some (t + c)
        | _, _ => none).map _
    rw [hz, h]
    cases rsTo N (x :: r) k with
    | none => rfl
    | some t =>
      show (if 0 ≤ y ∧ y < N.n then (match look N.ls (x :: r)[k] y with
        | none => none
        | some c => some (some y, t + c)) else none) = Option.map _ (match look N.ls (x :: r)[k] y with
          | none => none
          | some c => some (t + c))
      cases e : look N.ls (x :: r)[k] y with
      | none =>
        split <;> rfl
      | some c =>
        rw [if_pos (look_in ok e).2]
        rfl
theorem law_road {N : Net} (ok : NetOk N) : ∀ rd : List Int, roadSum N rd = lawSum N rd
  | [] => rfl
  | x :: r => by
    show (if 0 ≤ x ∧ x < N.n then rsTo N (x :: r) r.length else none) = (if x :: r = [] then none else (sumSt N (x :: r)).map (·.2))
    rw [if_neg (List.cons_ne_nil x r)]
    by_cases hx : 0 ≤ x ∧ x < N.n
    · rw [if_pos hx]
      have hk : r.length < (x :: r).length := Nat.lt_succ_self _
      have := sum_rs ok hx r.length _ (List.getElem?_eq_getElem hk)
      rw [List.take_of_length_le (show (x :: r).length ≤ r.length + 1 from Nat.le_refl _)] at this
      rw [this]
      cases rsTo N (x :: r) r.length <;> rfl
    · rw [if_neg hx]
      have e : sumSt N (x :: r) = none := sumSt_none (k := 1) (by
        show (if 0 ≤ x ∧ x < N.n then some (some x, (0 : Int)) else none) = none
        rw [if_neg hx])
      rw [e]
      rfl
/-- for .. in zip of two lists, of any lengths -/
theorem for_zip2 {K : PySem.W.Frag} {a b : Addr} {xs ys : List V} {g : TG} {tb : TS} {D : Ends} {σ : L2.St} {H : Hp} (Pv : Nat → L2.St → Hp → Prop) (h0 : Pv 0 σ H)
    (hq : ∀ i σ H, Pv i σ H → SqL K H a xs ∧ SqL K H b ys)
    (hs : ∀ (i : Nat) x y T σ H, xs[i]? = some x → ys[i]? = some y → Pv i σ H → H T = none → g (.ref T) σ (upd H T (.tup [x, y])) fun σ2 H2 => tb { D with nx := Pv (i + 1), ct := Pv (i + 1), bk := D.nx } σ2 H2)
    (hd : ∀ σ H, Pv (min xs.length ys.length) σ H → D.nx σ H) :
    ∃ W : Nat → Nat → L2.St → Hp → Prop, (∃ m, W 0 m σ H) ∧ ∀ i m σ H, W i m σ H → ((Itz K a b).stop i H ∧ D.nx σ H) ∨
      ((Itz K a b).go i H ∧ ∃ N : L2.St → Hp → Prop, (∀ σ' H', N σ' H' → ∃ m', m' < m ∧ W (i + 1) m' σ' H') ∧ ∀ v H', (Itz K a b).yld i H v H' → g v σ H' fun σ2 H2 => tb { D with nx := N, ct := N, bk := D.nx } σ2 H2) := by
  refine ⟨fun i m σ H => m + i = min xs.length ys.length ∧ Pv i σ H, ⟨min xs.length ys.length, rfl, h0⟩, fun i m σ H hW => ?_⟩
  obtain ⟨em, p⟩ := hW
  obtain ⟨qx, qy⟩ := hq i σ H p
  by_cases hlt : i < min xs.length ys.length
  · have h1 : i < xs.length := by omega
    have h2 : i < ys.length := by omega
    refine .inr ⟨⟨xs, ys, xs[i], ys[i], qx, qy, List.getElem?_eq_getElem h1, List.getElem?_eq_getElem h2⟩, Pv (i + 1), fun σ' H' p' => ⟨m - 1, by omega, by omega, p'⟩, fun v H' yy => ?_⟩
    obtain ⟨T, x', y', rfl, hT, rfl, f1, f2⟩ := yy
    exact hs i x' y' T σ H (f1 xs qx) (f2 ys qy) p hT
  · have e : i = min xs.length ys.length := by omega
    rw [e] at p
    exact .inl ⟨⟨xs, ys, qx, qy, by omega⟩, hd σ H p⟩
def spRS (K : PySem.W.Frag) : Sp := fun vs H Q _ => ∃ (v : V) (b : Addr) (N : Net) (rd : List Int), vs = [v, .ref b] ∧ Dp K H v (netD N) ∧ N.ls.length ≤ 1600 ∧ SqL K H b (rd.map V.int) ∧ rd.length ≤ 1000 ∧
  ∀ H', Same H H' → Q (oV (roadSum N rd)) H'
theorem rs_succ {N : Net} {rd : List Int} {i : Nat} {t x y : Int} (h : rsTo N rd i = some t) (hx : rd[i]? = some x) (hy : rd[i + 1]? = some y) : rsTo N rd (i + 1) = (look N.ls x y).map fun c => t + c := by
  show (match rsTo N rd i with
    | none => none
    | some t => match rd[i]?, rd[i + 1]? with
      | some x, some y => match look N.ls x y with
        | none => none
        | some c => some (t + c)
      | _, _ => none) = _
  rw [h, hx, hy]
  show (match look N.ls x y with
    | none => none
    | some c => some (t + c)) = _
  cases look N.ls x y <;> rfl
/-! ### the dict of the ways of links -/
def lkS (x y : Int) (f : Option V) (l : Lnk) : Option V := if x = l.b ∧ y = l.a then some (oV l.k) else if x = l.a ∧ y = l.b then some (oV l.t) else f
def lkv (ls : List Lnk) (x y : Int) : Option V := ls.foldl (lkS x y) none
theorem lkv_snoc {ls : List Lnk} {l : Lnk} {x y : Int} : lkv (ls ++ [l]) x y = lkS x y (lkv ls x y) l := by
  unfold lkv
  rw [List.foldl_append]
  rfl
theorem key2 {x y a b : Int} : (([Sum.inl x, Sum.inl y] : List L2.Key) = [Sum.inl a, Sum.inl b]) ↔ (x = a ∧ y = b) := by
  constructor
  · intro e
    injection e with e1 e2
    injection e2 with e2 _
    exact ⟨Sum.inl.inj e1, Sum.inl.inj e2⟩
  · rintro ⟨rfl, rfl⟩
    rfl
structure LinksAt (H : Hp) (d : Addr) (ls : List Lnk) : Prop where
  ex : ∃ kvs : List (List L2.Key × V), H d = some (.dT kvs) ∧ kvs.length ≤ 2 * ls.length ∧ ∀ x y : Int, valV kvs [Sum.inl x, Sum.inl y] = lkv ls x y
theorem LinksAt.to {H H' : Hp} {d : Addr} {ls : List Lnk} (h : LinksAt H d ls) (s : Same H H') : LinksAt H' d ls := by
  obtain ⟨kvs, e, l, v⟩ := h.ex
  exact ⟨kvs, s _ _ e, l, v⟩
theorem put_len {kvs : List (List L2.Key × V)} {k : List L2.Key} {v : V} : (putK kvs k v).length ≤ kvs.length + 1 := by
  unfold putK
  split
  · rw [List.length_map]
    omega
  · rw [List.length_append]
    exact Nat.le_refl _
def spLinkWays (K : PySem.W.Frag) : Sp := fun vs H Q _ => ∃ (v : V) (N : Net), vs = [v] ∧ Dp K H v (netD N) ∧ N.ls.length ≤ 1700 ∧ ∀ H' d, Same H H' → H d = none → LinksAt H' d N.ls → Q (.ref d) H'
theorem q_dputK {σ : L2.St} {H : Hp} {td ta tb te : TE} {D : Ends} {tw : TS} {v : V} {o : Addr} {kvs : List (List L2.Key × V)} {y1 y2 : Int} (hv : Vl te σ H v) (ho : Vl td σ H (.ref o)) (h1 : Vl ta σ H (.int y1)) (h2 : Vl tb σ H (.int y2)) (hd : H o = some (.dT kvs)) (hl : kvs.length < sizeLine)
    (k : ∀ T, H T = none → o ≠ T → tw D σ (upd (upd H T (.tup [.int y1, .int y2])) o (.dT (putK kvs [.inl y1, .inl y2] v)))) : tSeq (sDPut td (tTup (tCons ta (tCons tb tNil))) te) tw D σ H := q_dput (ty := td) hv ho h1 h2 hd hl k
theorem g_dputK {σ : L2.St} {H : Hp} {td ta tb te : TE} {D : Ends} {v : V} {o : Addr} {kvs : List (List L2.Key × V)} {y1 y2 : Int} (hv : Vl te σ H v) (ho : Vl td σ H (.ref o)) (h1 : Vl ta σ H (.int y1)) (h2 : Vl tb σ H (.int y2)) (hd : H o = some (.dT kvs)) (hl : kvs.length < sizeLine)
    (k : ∀ T, H T = none → o ≠ T → D.nx σ (upd (upd H T (.tup [.int y1, .int y2])) o (.dT (putK kvs [.inl y1, .inl y2] v)))) : sDPut td (tTup (tCons ta (tCons tb tNil))) te D σ H := q_dputK (tw := fun D σ H => D.nx σ H) hv ho h1 h2 hd hl k
abbrev sLinkWays : Stmt := topS 2
theorem scLinkWays : FnScope ["net", "prices", "a", "b", "there", "back"] ["net"] (defScope sLinkWays) := ⟨rfl, rfl, rfl, by decide +kernel, rfl, by decide +kernel, by decide +kernel⟩
section
variable {P : Program} {w : World} {K : PySem.W.Frag} {mg : Str → Option Value} {base : Heap}
theorem ok_linkWays {f : Addr} {fd : FuncData} {k : Nat} (F : Fun K "link_ways" "link_ways" sLinkWays f fd) : FnOk P w K mg base CX0 (k + 1) f fd ["net"] (spLinkWays K) := by
  refine F.ok scLinkWays (fun vs H Q E h => ?_) (fun cdv A outer s H vs Q E hr h => ?_)
  · obtain ⟨v, N, rfl, _⟩ := h
    rfl
  · obtain ⟨v, N, rfl, hN, hl, q⟩ := h
    have hu := hu_of hr
    refine ⟨_, pss_cons (ps_set (i := 1) scLinkWays.nd rfl (.inl rfl) pe_dnewT)
      (pss_cons (ps_for PassesOwn.never rfl (pi_list (pe_ix ix_tup (pv 0) pe_int (fun _ _ => rfl))) (pg_tup rfl (pgs_cons (pg_name (i := 2) scLinkWays.nd rfl (.inl rfl)) (pgs_cons (pg_name (i := 3) scLinkWays.nd rfl (.inl rfl)) (pgs_cons (pg_name (i := 4) scLinkWays.nd rfl (.inl rfl)) (pgs_cons (pg_name (i := 5) scLinkWays.nd rfl (.inl rfl)) pgs_nil)))))
      (pss_cons (ps_dput hu (pv 1) (pe_tup (pa_cons (pv 2) (pa_cons (pv 3) pa_nil))) (pv 4) rfl)
        (pss_one (ps_dput hu (pv 1) (pe_tup (pa_cons (pv 3) (pa_cons (pv 2) pa_nil))) (pv 5) rfl))))
      (pss_one (ps_ret (pv 1)))), ?_⟩
    obtain ⟨p, c, xs, rfl, hp, hc, hx⟩ := Dp.net_inv hN
    refine q_dnewT fun o no => ?_
    refine q_forLnk (Hb := H) (vl_ixT (K := K) (vl_var rfl) vl_c (seqT (same_upd no) hp) (atI_nat (j := 1) rfl)) hc hx (same_upd no)
      (fun i σ H3 => ∃ y2 y3 y4 y5 kvs, σ = [some (.ref p), some (.ref o), y2, y3, y4, y5] ∧ Same H H3 ∧ H3 o = some (.dT kvs) ∧ kvs.length ≤ 2 * i ∧ ∀ x y : Int, valV kvs [Sum.inl x, Sum.inl y] = lkv (N.ls.take i) x y)
      ⟨none, none, none, none, [], rfl, same_upd no, upd_same, Nat.zero_le _, fun x y => rfl⟩ (fun i σ H3 hP => ?_) (fun i l σ H3 hi hP => ?_) (fun σ H3 hP => ?_)
    · obtain ⟨_, _, _, _, _, _, s3, _⟩ := hP
      exact s3
    · obtain ⟨y2, y3, y4, y5, kvs, rfl, s3, ho, hlen, hv⟩ := hP
      have hil := (List.getElem?_eq_some_iff.mp hi).1
      refine q_dputK (vl_var rfl) (vl_var rfl) (vl_var rfl) (vl_var rfl) ho (Nat.lt_of_le_of_lt (m := 10000) (by omega) (by decide)) fun T nT oT => ?_
      have hl1 := put_len (kvs := kvs) (k := [Sum.inl l.a, Sum.inl l.b]) (v := oV l.t)
      refine g_dputK (vl_var rfl) (vl_var rfl) (vl_var rfl) (vl_var rfl) upd_same (Nat.lt_of_le_of_lt (m := 10000) (by omega) (by decide)) fun T2 nT2 oT2 => ?_
      have hl2 := put_len (kvs := putK kvs [Sum.inl l.a, Sum.inl l.b] (oV l.t)) (k := [Sum.inl l.b, Sum.inl l.a]) (v := oV l.k)
      have s4 : Same H (upd (upd H3 T (.tup [.int l.a, .int l.b])) o (.dT (putK kvs [Sum.inl l.a, Sum.inl l.b] (oV l.t)))) := same_upd' (s3.trans (same_upd nT)) no
      refine ⟨_, _, _, _, _, rfl, same_upd' (s4.trans (same_upd nT2)) no, upd_same, by omega, fun x y => ?_⟩
      rw [valV_put, valV_put, hv, take_snoc hi, lkv_snoc]
      unfold lkS
      by_cases c1 : x = l.b ∧ y = l.a
      · rw [if_pos (key2.mpr c1), if_pos c1]
      · rw [if_neg (fun z => c1 (key2.mp z)), if_neg c1]
        by_cases c2 : x = l.a ∧ y = l.b
        · rw [if_pos (key2.mpr c2), if_pos c2]
        · rw [if_neg (fun z => c2 (key2.mp z)), if_neg c2]
    · obtain ⟨y2, y3, y4, y5, kvs, rfl, s3, ho, hlen, hv⟩ := hP
      rw [List.take_length] at hv
      exact g_ret (vl_var rfl) (q H3 o s3 no ⟨kvs, ho, hlen, hv⟩)
end
/-! ### road_sum over link_ways -/
theorem lkS_look {x y : Int} : ∀ (ls : List Lnk) (f : Option V) (g : Option Int), f.getD .non = oV g → (ls.foldl (lkS x y) f).getD .non = oV (ls.foldl (lstep x y) g)
  | [], _, _, h => h
  | l :: ls, f, g, h => by
    rw [List.foldl_cons, List.foldl_cons]
    refine lkS_look ls _ _ ?_
    unfold lkS lstep
    by_cases c1 : l.b = x ∧ l.a = y
    · rw [if_pos c1, if_pos ⟨c1.1.symm, c1.2.symm⟩]
      rfl
    · rw [if_neg c1, if_neg (fun z => c1 ⟨z.1.symm, z.2.symm⟩)]
      by_cases c2 : l.a = x ∧ l.b = y
      · rw [if_pos c2, if_pos ⟨c2.1.symm, c2.2.symm⟩]
        rfl
      · rw [if_neg c2, if_neg (fun z => c2 ⟨z.1.symm, z.2.symm⟩)]
        exact h
theorem lkv_look {ls : List Lnk} {x y : Int} : (lkv ls x y).getD .non = oV (look ls x y) := lkS_look ls none none rfl
abbrev sRS : Stmt := topS 1
theorem scRS : FnScope ["net", "road", "prices", "total", "a", "b", "cost"] ["net", "road"] (defScope sRS) := ⟨rfl, rfl, rfl, by decide +kernel, rfl, by decide +kernel, by decide +kernel⟩
section
variable {P : Program} {w : World} {K : PySem.W.Frag} {mg : Str → Option Value} {base : Heap}
theorem ok_rs {f : Addr} {fd : FuncData} {k : Nat} (F : Fun K "road_sum" "road_sum" sRS f fd) (mz : mg "zip" = none) (c_link_ways : Kal P w K mg base k "link_ways" ["net"] (spLinkWays K)) : FnOk P w K mg base CX0 (k + 1) f fd ["net", "road"] (spRS K) := by
  refine F.ok scRS (fun vs H Q E h => ?_) (fun cdv A outer s H vs Q E hr h => ?_)
  · obtain ⟨v, b, N, rd, rfl, _⟩ := h
    rfl
  · obtain ⟨v, b, N, rd, rfl, hN, hlen, hR, hrl, q⟩ := h
    have hu := hu_of hr
    refine ⟨_, pss_cons (ps_if (PW.pt (pw_or (pt_not (pt_truth (pv 1) (by intro _; rfl))) (pw_or1 (pt_not (pt_chain op_le op_lt pe_int (pe_ix ix_list (pv 1) pe_int (fun _ _ => rfl)) (pe_ix ix_tup (pv 0) pe_int (fun _ _ => rfl)))))))
      (pss_one (ps_ret pe_non))
      pss_nil)
      (pss_cons (ps_set (i := 2) scRS.nd rfl (.inl rfl) (pe_k c_link_ways hr (by first | decide | omega) (by rfl) (pa_cons (pv 0) pa_nil)))
      (pss_cons (ps_set (i := 3) scRS.nd rfl (.inl rfl) pe_int)
      (pss_cons (ps_for PassesOwn.never rfl (pi_zip (by rfl) mz (pa_cons (pv 1) (pa_cons (pe_slice sl_list (pv 1) (po_some pe_int) po_none) pa_nil))) (pg_tup rfl (pgs_cons (pg_name (i := 4) scRS.nd rfl (.inl rfl)) (pgs_cons (pg_name (i := 5) scRS.nd rfl (.inl rfl)) pgs_nil)))
      (pss_cons (ps_set (i := 6) scRS.nd rfl (.inl rfl) (pe_dget1 hu (pv 2) (pe_tup (pa_cons (pv 4) (pa_cons (pv 5) pa_nil))) ⟨by rfl, by rfl, by rfl, by rfl⟩))
        (pss_cons (ps_if (pt_cmpR op_isN (pv 6) pe_non (nomark _))
        (pss_one (ps_ret pe_non))
        pss_nil)
        (pss_one (ps_set (i := 3) scRS.nd rfl (.inl rfl) (pe_op op_add (pv 3) (pv 6)))))))
      (pss_one (ps_ret (pv 3)))))), ?_⟩
    obtain ⟨p, c, xs, rfl, hp, hc, hx⟩ := Dp.net_inv hN
    cases rd with
    | nil =>
      refine q_when (b := true) (fun Q q => ⟨.ref b, rfl, false, .inl ⟨_, hR, rfl⟩, iteT q⟩) (fun _ => ?_) (fun e => nomatch e)
      exact g_ret vl_c (q H (Same.refl H))
    | cons x r =>
      refine q_when (b := false || !(decide ((0 : Int) ≤ x) && decide (x < N.n))) (an_or (fun Q q => ⟨.ref b, rfl, true, .inl ⟨_, hR, rfl⟩, q⟩) fun _ => an_not (an_test (vl_chainI vl_c (vl_ixL (vl_var rfl) vl_c hR (atI_nat (j := 0) rfl)) (vl_ixT (vl_var rfl) vl_c hp (atI_nat (j := 0) rfl))))) (fun hb => ?_) (fun hb => ?_)
      · refine g_ret vl_c ?_
        have e : roadSum N (x :: r) = none := by
          show (if 0 ≤ x ∧ x < N.n then _ else none) = none
          rw [if_neg]
          intro h
          rw [decide_eq_true h.1, decide_eq_true h.2] at hb
          cases hb
        have := q H (Same.refl H)
        rw [e] at this
        exact this
      · have hx0 : 0 ≤ x ∧ x < N.n := by
          rw [Bool.false_or, Bool.not_eq_false', Bool.and_eq_true] at hb
          exact ⟨of_decide_eq_true hb.1, of_decide_eq_true hb.2⟩
        have er : roadSum N (x :: r) = rsTo N (x :: r) r.length := if_pos hx0
        rw [er] at q
        refine q_asgE ⟨.ref p, rfl, .ref p, N, rfl, hN, by omega, fun H3 o s3 no hL => ?_⟩
        obtain ⟨kvs, ho, hkl, hk⟩ := hL.ex
        refine q_asg vl_c ?_
        have hR3 := s3.seq hR
        refine ⟨.ref b, rfl, .ref b, rfl, 1, rfl, b, _, rfl, hR3, fun S nS => ?_⟩
        have sS : Same H3 (upd H3 S (.lst (cutV ((x :: r).map V.int) (some 1) none))) := same_upd nS
        have ecut : cutV ((x :: r).map V.int) (some 1) none = r.map V.int := by
          unfold cutV
          rw [show HT.sIx ((x :: r).map V.int).length 0 (some 1) = min 1 ((x :: r).map V.int).length from HT.sIx_nat _ 0 1, HT.sIx_none]
          rw [show min 1 ((x :: r).map V.int).length = 1 by
            rw [List.length_map, List.length_cons]
            omega]
          show List.take _ (r.map V.int) = r.map V.int
          rw [List.length_map, List.length_cons, Nat.add_sub_cancel]
          exact List.take_of_length_le (by rw [List.length_map]; exact Nat.le_refl _)
        refine ⟨b, S, _, _, rfl, sS.seq hR3, .inl (.inl upd_same), ?_⟩
        rw [ecut]
        rw [ecut] at sS
        refine for_zip2 (xs := (x :: r).map V.int) (ys := r.map V.int)
          (fun i σ H4 => ∃ y5 y6 y10 t, σ = [some (.ref p), some (.ref b), some (.ref o), some (.int t), y5, y6, y10] ∧ Same (upd H3 S (.lst (r.map V.int))) H4 ∧ rsTo N (x :: r) i = some t)
          ⟨_, _, _, 0, rfl, Same.refl _, rfl⟩ (fun i σ H4 hP => ?_) (fun i u v T σ H4 hu hv hP nT => ?_) (fun σ H4 hP => ?_)
        · obtain ⟨_, _, _, _, _, s4, _⟩ := hP
          exact ⟨(sS.trans s4).seq hR3, .inl (.inl (s4 _ _ upd_same))⟩
        · obtain ⟨y5, y6, y10, t, rfl, s4, et⟩ := hP
          rw [List.getElem?_map] at hu hv
          cases eu : (x :: r)[i]? with
          | none =>
            rw [eu] at hu
            cases hu
          | some u' =>
            cases ev : r[i]? with
            | none =>
              rw [ev] at hv
              cases hv
            | some v' =>
              rw [eu] at hu
              rw [ev] at hv
              cases hu
              cases hv
              refine ⟨T, _, rfl, .of upd_same, rfl, _, _, rfl, _, _, rfl, rfl, ?_⟩
              have ho4 : H4 o = some (.dT kvs) := s4 _ _ (sS _ _ ho)
              have sT : Same H4 (upd H4 T (.tup [.int u', .int v'])) := same_upd nT
              refine q_dgetT (vl_var rfl) (fun _ => vl_var rfl) (fun _ => vl_var rfl) (sT _ _ ho4) fun T2 nT2 => ?_
              have sT2 : Same (upd H4 T (.tup [.int u', .int v'])) (upd (upd H4 T (.tup [.int u', .int v'])) T2 (.tup [.int u', .int v'])) := same_upd nT2
              rw [hk u' v', lkv_look]
              have en := rs_succ et eu (show (x :: r)[i + 1]? = some v' from ev)
              have hir : i < r.length := (List.getElem?_eq_some_iff.mp ev).1
              have sE := (s3.trans sS).trans ((s4.trans sT).trans sT2)
              cases el : look N.ls u' v' with
              | none =>
                rw [el] at en
                refine q_when (b := decide (V.non = V.non)) (by exact an_test (vl_isN (vl_var rfl))) (fun _ => ?_) (fun e => by
                  rw [decide_eq_true rfl] at e
                  cases e)
                have e2 := rs_none en (r.length - (i + 1))
                rw [show i + 1 + (r.length - (i + 1)) = r.length by omega] at e2
                rw [e2] at q
                exact g_ret vl_c (q _ sE)
              | some cc =>
                rw [el] at en
                refine q_when (b := decide (V.int cc = V.non)) (by exact an_test (vl_isN (vl_var rfl))) (fun e => by
                  cases of_decide_eq_true e) (fun _ => ?_)
                refine g_asg (vl_I0 (vl_var rfl) (vl_var rfl)) ?_
                exact ⟨_, _, _, t + cc, rfl, (s4.trans sT).trans sT2, en⟩
        · obtain ⟨y5, y6, y10, t, rfl, s4, et⟩ := hP
          have em : min ((x :: r).map V.int).length (r.map V.int).length = r.length := by
            rw [List.length_map, List.length_map, List.length_cons]
            omega
          rw [em] at et
          rw [et] at q
          exact g_ret (vl_var rfl) (q _ ((s3.trans sS).trans s4))
end
theorem eqv_ii {p q r s : Int} : PyData.eqv (.tuple [.int p, .int q]) (.tuple [.int r, .int s]) = decide (p = r ∧ q = s) := by
  show (p == r && (q == s && true)) = _
  rw [Bool.and_true, Bool.eq_iff_iff]
  simp
/-- if (a, b) == (c, d): the tuples are made on the way -/
theorem if_TT {K : PySem.W.Frag} {σ : L2.St} {H : Hp} {ta tb tc td : TE} {t u : TS} {D : Ends} {p q r s : Int} (ha : ∀ H', Same H H' → Vl ta σ H' (.int p)) (hb : ∀ H', Same H H' → Vl tb σ H' (.int q)) (hc : ∀ H', Same H H' → Vl tc σ H' (.int r)) (hd : ∀ H', Same H H' → Vl td σ H' (.int s))
    (h1 : ∀ H', Same H H' → (p = r ∧ q = s) → t D σ H') (h2 : ∀ H', Same H H' → ¬ (p = r ∧ q = s) → u D σ H') :
    tIfS (tTest (tOp (rEqD K) (tTup (tCons ta (tCons tb tNil))) (tTup (tCons tc (tCons td tNil))))) t u D σ H :=
  ha H (Same.refl H) _ (hb H (Same.refl H) _ ⟨by show 2 ≤ sizeLine; decide, fun T nT => by
    have s1 : Same H (upd H T (.tup [.int p, .int q])) := same_upd nT
    refine hc _ s1 _ (hd _ s1 _ ⟨by show 2 ≤ sizeLine; decide, fun S nS => ?_⟩)
    have s2 : Same (upd H T (.tup [.int p, .int q])) (upd (upd H T (.tup [.int p, .int q])) S (.tup [.int r, .int s])) := same_upd nS
    refine ⟨.tuple [.int p, .int q], .tuple [.int r, .int s], .tup (.of (s2 _ _ upd_same)) (.cons (.int _) (.cons (.int _) .nil)), .tup (.of upd_same) (.cons (.int _) (.cons (.int _) .nil)), by rfl, by rfl, _, rfl, ?_⟩
    rw [eqv_ii]
    exact ite2 (fun e => h1 _ (s1.trans s2) (of_decide_eq_true e)) (fun e => h2 _ (s1.trans s2) (fun h => e (decide_eq_true h)))⟩)
abbrev sSum : Stmt := topS 11
theorem scSum : FnScope ["net", "road", "total", "k", "found", "a", "b", "there", "back"] ["net", "road"] (defScope sSum) := ⟨rfl, rfl, rfl, by decide +kernel, rfl, by decide +kernel, by decide +kernel⟩
def spSum (K : PySem.W.Frag) : Sp := fun vs H Q _ => ∃ (v : V) (b : Addr) (N : Net) (rd : List Int), vs = [v, .ref b] ∧ Dp K H v (netD N) ∧ SqL K H b (rd.map V.int) ∧ rd.length ≤ 1000 ∧
  ∀ H', Same H H' → Q (oV (lawSum N rd)) H'
section
variable {P : Program} {w : World} {K : PySem.W.Frag} {mg : Str → Option Value} {base : Heap}
theorem ok_sum {f : Addr} {fd : FuncData} {k : Nat} (F : Fun K "_law_sum" "_law_sum" sSum f fd) (ml : mg "len" = none) (mr : mg "range" = none) : FnOk P w K mg base CX0 (k + 1) f fd ["net", "road"] (spSum K) := by
  refine F.ok scSum (fun vs H Q E h => ?_) (fun cdv A outer s H vs Q E hr h => ?_)
  · obtain ⟨v, b, N, rd, rfl, _⟩ := h
    rfl
  · obtain ⟨v, b, N, rd, rfl, hN, hR, hrl, q⟩ := h
    refine ⟨_, pss_cons (ps_if (pt_cmpR op_eq (pe_callB call_len_seq (by rfl) ml PySem.boot_len (pa_cons (pv 1) pa_nil)) pe_int (nomark _)) (pss_one (ps_ret pe_non)) pss_nil)
      (pss_cons (ps_set (i := 2) scSum.nd rfl (.inl rfl) pe_int)
      (pss_cons (ps_for PassesOwn.never rfl (pi_range1 (by rfl) mr (pa_cons (pe_callB call_len_seq (by rfl) ml PySem.boot_len (pa_cons (pv 1) pa_nil)) pa_nil)) (pg_name (i := 3) scSum.nd rfl (.inl rfl))
        (pss_cons (ps_if (pt_not (pt_chain op_le op_lt pe_int (pe_ix ix_list (pv 1) (pv 3) (fun _ _ => rfl)) (pe_ix ix_tup (pv 0) pe_int (fun _ _ => rfl)))) (pss_one (ps_ret pe_non)) pss_nil)
        (pss_one (ps_if (pt_cmpR op_gt (pv 3) pe_int (nomark _))
          (pss_cons (ps_set (i := 4) scSum.nd rfl (.inl rfl) pe_non)
          (pss_cons (ps_for PassesOwn.never rfl (pi_list (pe_ix ix_tup (pv 0) pe_int (fun _ _ => rfl))) (pg_tup rfl (pgs_cons (pg_name (i := 5) scSum.nd rfl (.inl rfl)) (pgs_cons (pg_name (i := 6) scSum.nd rfl (.inl rfl)) (pgs_cons (pg_name (i := 7) scSum.nd rfl (.inl rfl)) (pgs_cons (pg_name (i := 8) scSum.nd rfl (.inl rfl)) pgs_nil)))))
            (Evl.pss_cut (ps_if (pt_cmpR (op_eqD hr.units) (pe_tup (pa_cons (pv 5) (pa_cons (pv 6) pa_nil))) (pe_tup (pa_cons (pe_ix ix_list (pv 1) (pe_op op_sub (pv 3) pe_int) (fun _ _ => rfl)) (pa_cons (pe_ix ix_list (pv 1) (pv 3) (fun _ _ => rfl)) pa_nil))) (nomark _))
              (pss_one (ps_set (i := 4) scSum.nd rfl (.inl rfl) (pv 7))) pss_nil)
            (pss_one (ps_if (pt_cmpR (op_eqD hr.units) (pe_tup (pa_cons (pv 6) (pa_cons (pv 5) pa_nil))) (pe_tup (pa_cons (pe_ix ix_list (pv 1) (pe_op op_sub (pv 3) pe_int) (fun _ _ => rfl)) (pa_cons (pe_ix ix_list (pv 1) (pv 3) (fun _ _ => rfl)) pa_nil))) (nomark _))
              (pss_one (ps_set (i := 4) scSum.nd rfl (.inl rfl) (pv 8))) pss_nil))))
          (pss_cons (ps_if (pt_cmpR op_isN (pv 4) pe_non (nomark _)) (pss_one (ps_ret pe_non)) pss_nil)
          (pss_one (ps_set (i := 2) scSum.nd rfl (.inl rfl) (pe_op op_add (pv 2) (pv 4))))))) pss_nil))))
      (pss_one (ps_ret (pv 2))))), ?_⟩
    obtain ⟨p, c, xs, rfl, hp, hc, hx⟩ := Dp.net_inv hN
    refine q_when (b := decide (V.int (rd.length : Int) = V.int 0)) (by exact an_test (vl_eq ((vl_lenL (vl_var rfl) hR).is (by rw [List.length_map])) vl_c rfl)) (fun hb => ?_) (fun hb => ?_)
    · have e := V.int.inj (of_decide_eq_true hb)
      have e2 : rd = [] := List.eq_nil_of_length_eq_zero (by omega)
      subst e2
      exact g_ret vl_c (q H (Same.refl H))
    · have hne : rd ≠ [] := fun e => by
        subst e
        exact of_decide_eq_false hb rfl
      have eq : lawSum N rd = (sumSt N rd).map (·.2) := if_neg hne
      rw [eq] at q
      refine q_asg vl_c ?_
      refine q_forR (n := (rd.length : Int)) (va_cons ((vl_lenL (vl_var rfl) hR).is (by rw [List.length_map])) va_nil) ⟨by omega, by omega⟩
        (fun i σ H3 => ∃ t y3 y4 y5 y6 y7 y8, σ = [some (.ref p), some (.ref b), some (.int t), y3, y4, y5, y6, y7, y8] ∧ Same H H3 ∧ sumSt N (rd.take i) = some (if i = 0 then none else rd[i - 1]?, t))
        ⟨0, none, none, none, none, none, none, rfl, Same.refl H, rfl⟩ (fun i σ H3 hi hP => ?_) (fun σ H3 hP => ?_)
      · obtain ⟨t, y3, y4, y5, y6, y7, y8, rfl, s3, et⟩ := hP
        have hi2 : i < rd.length := by omega
        have gi : rd[i]? = some rd[i] := List.getElem?_eq_getElem hi2
        generalize rd[i] = x at gi
        have gv : (rd.map V.int)[i]? = some (.int x) := by
          rw [List.getElem?_map, gi]
          rfl
        have hR3 := s3.seq hR
        have en : sumSt N (rd.take (i + 1)) = sstep N (some (if i = 0 then none else rd[i - 1]?, t)) x := by
          rw [take_snoc gi, sumSt_snoc, et]
        refine q_when (b := !(decide ((0 : Int) ≤ x) && decide (x < N.n))) (by exact an_not (an_test (vl_chainI vl_c (vl_ixL (vl_var rfl) (vl_var rfl) hR3 (atI_nat gv)) (vl_ixT (vl_var rfl) vl_c (seqT s3 hp) (atI_nat (j := 0) rfl))))) (fun hb => ?_) (fun hb => ?_)
        · have hx0 : ¬ (0 ≤ x ∧ x < N.n) := fun h => by
            rw [decide_eq_true h.1, decide_eq_true h.2] at hb
            cases hb
          have e1 : sumSt N (rd.take (i + 1)) = none := by
            rw [en]
            show (if 0 ≤ x ∧ x < N.n then _ else none) = none
            rw [if_neg hx0]
          have := q H3 s3
          rw [sumSt_none e1] at this
          exact g_ret vl_c this
        · have hx0 : 0 ≤ x ∧ x < N.n := by
            rw [Bool.not_eq_false', Bool.and_eq_true] at hb
            exact ⟨of_decide_eq_true hb.1, of_decide_eq_true hb.2⟩
          have en1 : sumSt N (rd.take (i + 1)) = match (if i = 0 then none else rd[i - 1]?) with
              | none => some (some x, t)
              | some y => match look N.ls y x with
                | none => none
                | some c => some (some x, t + c) := by
            rw [en]
            exact if_pos hx0
          refine g_when (b := decide ((0 : Int) < (i : Int))) (by exact an_test (vl_I0 (vl_var rfl) vl_c)) (fun hb => ?_) (fun hb => ?_)
          · have hi0 : 0 < i := by
              have := of_decide_eq_true hb
              omega
            have hpl : i - 1 < rd.length := by omega
            have gp : rd[i - 1]? = some rd[i - 1] := List.getElem?_eq_getElem hpl
            generalize rd[i - 1] = y at gp
            have gpv : (rd.map V.int)[i - 1]? = some (.int y) := by
              rw [List.getElem?_map, gp]
              rfl
            have gpI : atI (rd.map V.int) ((i : Int) - 1) = some (.int y) := by
              have := atI_nat gpv
              rw [show ((i - 1 : Nat) : Int) = (i : Int) - 1 by omega] at this
              exact this
            rw [if_neg (by omega), gp] at en1
            have en1 : sumSt N (rd.take (i + 1)) = match look N.ls y x with
                | none => none
                | some c => some (some x, t + c) := en1
            refine q_asg vl_c ?_
            refine q_forLnk (j1 := 5) (j2 := 6) (j3 := 7) (j4 := 8) (Hb := H) (vl_ixT (vl_var rfl) vl_c (seqT s3 hp) (atI_nat (j := 1) rfl)) hc hx s3
              (fun j σ H4 => ∃ y5 y6 y7 y8, σ = [some (.ref p), some (.ref b), some (.int t), some (.int i), some (oV (look (N.ls.take j) y x)), y5, y6, y7, y8] ∧ Same H H4)
              ⟨_, _, _, _, rfl, s3⟩ (fun j σ H4 hP => ?_) (fun j l σ H4 hl hP => ?_) (fun σ H4 hP => ?_)
            · obtain ⟨_, _, _, _, _, s4⟩ := hP
              exact s4
            · obtain ⟨y5, y6, y7, y8, rfl, s4⟩ := hP
              rw [take_snoc hl, look_snoc]
              generalize look (N.ls.take j) y x = fo
              have hI : ∀ H', Same H4 H' → SqL K H' b (rd.map V.int) := fun H' s' => (s4.trans s').seq hR
              refine q_cut (M := fun σ' H' => σ' = [some (.ref p), some (.ref b), some (.int t), some (.int i), some (oV (if l.a = y ∧ l.b = x then l.t else fo)), some (.int l.a), some (.int l.b), some (oV l.t), some (oV l.k)] ∧ Same H H') ?_ ?_
              · refine if_TT (fun _ _ => vl_var rfl) (fun _ _ => vl_var rfl) (fun H' s' => vl_ixL (vl_var rfl) (vl_I0 (vl_var rfl) vl_c) (hI H' s') gpI) (fun H' s' => vl_ixL (vl_var rfl) (vl_var rfl) (hI H' s') (atI_nat gv)) (fun H' s' e => ?_) (fun H' s' e => ?_)
                · rw [if_pos e]
                  exact g_asg (vl_var rfl) ⟨rfl, s4.trans s'⟩
                · rw [if_neg e]
                  exact ⟨rfl, s4.trans s'⟩
              · rintro σ' H5 ⟨rfl, s5⟩
                have hI : ∀ H', Same H5 H' → SqL K H' b (rd.map V.int) := fun H' s' => (s5.trans s').seq hR
                refine if_TT (fun _ _ => vl_var rfl) (fun _ _ => vl_var rfl) (fun H' s' => vl_ixL (vl_var rfl) (vl_I0 (vl_var rfl) vl_c) (hI H' s') gpI) (fun H' s' => vl_ixL (vl_var rfl) (vl_var rfl) (hI H' s') (atI_nat gv)) (fun H' s' e => ?_) (fun H' s' e => ?_)
                · have e3 : lstep y x fo l = l.k := if_pos e
                  rw [e3]
                  exact g_asg (vl_var rfl) ⟨_, _, _, _, rfl, s5.trans s'⟩
                · have e3 : lstep y x fo l = (if l.a = y ∧ l.b = x then l.t else fo) := if_neg e
                  rw [e3]
                  exact ⟨_, _, _, _, rfl, s5.trans s'⟩
            · obtain ⟨y5, y6, y7, y8, rfl, s4⟩ := hP
              rw [List.take_length]
              cases el : look N.ls y x with
              | none =>
                rw [el] at en1
                refine q_when (b := decide (V.non = V.non)) (by exact an_test (vl_isN (vl_var rfl))) (fun _ => ?_) (fun e => by
                  rw [decide_eq_true rfl] at e
                  cases e)
                have := q H4 s4
                rw [sumSt_none en1] at this
                exact g_ret vl_c this
              | some cc =>
                rw [el] at en1
                refine q_when (b := decide (V.int cc = V.non)) (by exact an_test (vl_isN (vl_var rfl))) (fun e => by
                  cases of_decide_eq_true e) (fun _ => ?_)
                refine g_asg (vl_I0 (vl_var rfl) (vl_var rfl)) ⟨t + cc, _, _, _, _, _, _, rfl, s4, ?_⟩
                rw [en1, if_neg (Nat.succ_ne_zero i), Nat.add_sub_cancel, gi]
          · have hi0 : i = 0 := by
              have := of_decide_eq_false hb
              omega
            subst hi0
            refine ⟨t, _, _, _, _, _, _, rfl, s3, ?_⟩
            rw [en1, if_neg (Nat.succ_ne_zero 0), gi, if_pos rfl]
      · obtain ⟨t, y3, y4, y5, y6, y7, y8, rfl, s3, et⟩ := hP
        rw [show ((rd.length : Int)).toNat = rd.length by omega, List.take_length] at et
        rw [et] at q
        exact g_ret (vl_var rfl) (q H3 s3)
end
theorem q_forRI {j : Nat} {σ : L2.St} {H : Hp} {ta : TE} {P : Int → Prop} {tz tw : TS} {D : Ends} (h : Vi ta σ H P) (hs : ∀ n, P n → tSeq (tFor (iRng1 (tCons (tC (.int n)) tNil)) (gName j) tz) tw D σ H) : tSeq (tFor (iRng1 (tCons ta tNil)) (gName j) tz) tw D σ H :=
  h _ fun n hn => hs n hn
abbrev sWalk : Stmt := topS 10
theorem scWalk : FnScope ["draws", "k", "net", "road", "turn", "steps", "a", "b", "there", "back"] ["draws", "k", "net"] (defScope sWalk) := ⟨rfl, rfl, rfl, by decide +kernel, rfl, by decide +kernel, by decide +kernel⟩
/-- a road of open links that ends with x -/
def WalkOk (N : Net) (rd : List Int) (x : Int) : Prop := (∃ r0, rd = r0 ++ [x]) ∧ ∃ t, sumSt N rd = some (some x, t)
theorem WalkOk.one {N : Net} {x : Int} (h : 0 ≤ x ∧ x < N.n) : WalkOk N [x] x := ⟨⟨[], rfl⟩, 0, by
  show (if 0 ≤ x ∧ x < N.n then some (some x, (0 : Int)) else none) = _
  rw [if_pos h]⟩
theorem WalkOk.app {N : Net} {rd : List Int} {x y c : Int} (h : WalkOk N rd x) (hy : 0 ≤ y ∧ y < N.n) (hc : look N.ls x y = some c) : WalkOk N (rd ++ [y]) y := by
  obtain ⟨_, t, e⟩ := h
  refine ⟨⟨rd, rfl⟩, t + c, ?_⟩
  rw [sumSt_snoc, e]
  show (if 0 ≤ y ∧ y < N.n then (match look N.ls x y with
    | none => none
    | some c => some (some y, t + c)) else none) = _
  rw [if_pos hy, hc]
theorem WalkOk.sum {N : Net} {rd : List Int} {x : Int} (h : WalkOk N rd x) : rd ≠ [] ∧ ∃ t, lawSum N rd = some t := by
  obtain ⟨⟨r0, e0⟩, t, e⟩ := h
  have hne : rd ≠ [] := fun z => by
    rw [z] at e0
    exact List.append_ne_nil_of_right_ne_nil r0 (List.cons_ne_nil x []) e0.symm
  refine ⟨hne, t, ?_⟩
  show (if rd = [] then none else (sumSt N rd).map (·.2)) = _
  rw [if_neg hne, e]
  rfl
def spWalk (K : PySem.W.Frag) : Sp := fun vs H Q _ => ∃ (a : Addr) (ds : List Int) (k : Int) (v : V) (N : Net), vs = [.ref a, .int k, v] ∧ SqL K H a (ds.map V.int) ∧ 0 ≤ k ∧ Dp K H v (netD N) ∧ NetOk N ∧
  ∀ H' p rd x, Same H H' → H p = none → H' p = some (.lst (rd.map V.int)) → WalkOk N rd x → rd.length ≤ 10 → Q (.ref p) H'
/-- the places that a way from x leads to -/
def StepsOk (N : Net) (x : Int) (st : List Int) : Prop := ∀ y ∈ st, (0 ≤ y ∧ y < N.n) ∧ ∃ c, look N.ls x y = some c
theorem StepsOk.app {N : Net} {x y : Int} {st : List Int} (h : StepsOk N x st) (hy : 0 ≤ y ∧ y < N.n) (hc : ∃ c, look N.ls x y = some c) : StepsOk N x (st ++ [y]) := fun z hz => by
  rcases List.mem_append.mp hz with h' | h'
  · exact h z h'
  · rw [List.mem_singleton.mp h']
    exact ⟨hy, hc⟩
section
variable {P : Program} {w : World} {K : PySem.W.Frag} {mg : Str → Option Value} {base : Heap}
theorem ok_walk {f : Addr} {fd : FuncData} (F : Fun K "_law_walk" "_law_walk" sWalk f fd) (M : Kal P w K mg base 1 "_law_mix" ["draws", "k", "many"] (spAt K)) (ml : mg "len" = none) (mr : mg "range" = none) : FnOk P w K mg base CX0 2 f fd ["draws", "k", "net"] (spWalk K) := by
  refine F.ok scWalk (fun vs H Q E h => ?_) (fun cdv A outer s H vs Q E hr h => ?_)
  · obtain ⟨a, ds, k, v, N, rfl, _⟩ := h
    rfl
  · obtain ⟨a, ds, k, v, N, rfl, hS, hk, hN, hok, q⟩ := h
    refine ⟨_, pss_cons (ps_set (i := 3) scWalk.nd rfl (.inl rfl) (pe_lst (pa_cons (pe_k M hr (by decide) (by rfl) (pa_cons (pv 0) (pa_cons (pv 1) (pa_cons (pe_ix ix_tup (pv 2) pe_int (fun _ _ => rfl)) pa_nil)))) pa_nil)))
      (pss_cons (ps_for PassesOwn.never rfl (pi_range1 (by rfl) mr (pa_cons (pe_k M hr (by decide) (by rfl) (pa_cons (pv 0) (pa_cons (pe_op op_add (pv 1) pe_int) (pa_cons pe_int pa_nil)))) pa_nil)) (pg_name (i := 4) scWalk.nd rfl (.inl rfl))
        (pss_cons (ps_set (i := 5) scWalk.nd rfl (.inl rfl) (pe_lst pa_nil))
        (pss_cons (ps_for PassesOwn.never rfl (pi_list (pe_ix ix_tup (pv 2) pe_int (fun _ _ => rfl))) (pg_tup rfl (pgs_cons (pg_name (i := 6) scWalk.nd rfl (.inl rfl)) (pgs_cons (pg_name (i := 7) scWalk.nd rfl (.inl rfl)) (pgs_cons (pg_name (i := 8) scWalk.nd rfl (.inl rfl)) (pgs_cons (pg_name (i := 9) scWalk.nd rfl (.inl rfl)) pgs_nil)))))
          (Evl.pss_cut (ps_if (PW.pt (pw_and (pt_cmpR op_eq (pv 6) (pe_ix ix_list (pv 3) (pe_un un_neg pe_int) (fun _ _ => rfl)) (nomark _)) (pw_and1 (pt_cmpR op_notN (pv 8) pe_non (nomark _)))))
            (pss_one (ps_expr (pe_bm PySem.F.plainAttrs_list PySem.F.slot_list_append PySem.F.type_list_append mt_append (pv 5) (pa_cons (pv 7) pa_nil)))) pss_nil)
          (pss_one (ps_if (PW.pt (pw_and (pt_cmpR op_eq (pv 7) (pe_ix ix_list (pv 3) (pe_un un_neg pe_int) (fun _ _ => rfl)) (nomark _)) (pw_and1 (pt_cmpR op_notN (pv 9) pe_non (nomark _)))))
            (pss_one (ps_expr (pe_bm PySem.F.plainAttrs_list PySem.F.slot_list_append PySem.F.type_list_append mt_append (pv 5) (pa_cons (pv 6) pa_nil)))) pss_nil))))
        (pss_one (ps_if (pt_cmpR op_gt (pe_callB call_len_seq (by rfl) ml PySem.boot_len (pa_cons (pv 5) pa_nil)) pe_int (nomark _))
          (pss_one (ps_expr (pe_bm PySem.F.plainAttrs_list PySem.F.slot_list_append PySem.F.type_list_append mt_append (pv 3)
            (pa_cons (pe_ix ix_list (pv 5) (pe_k M hr (by decide) (by rfl) (pa_cons (pv 0) (pa_cons (pe_op op_add (pe_op op_add (pv 1) pe_int) (pv 4)) (pa_cons (pe_callB call_len_seq (by rfl) ml PySem.boot_len (pa_cons (pv 5) pa_nil)) pa_nil)))) (fun _ _ => rfl)) pa_nil)))) pss_nil)))))
      (pss_one (ps_ret (pv 3)))), ?_⟩
    obtain ⟨p, c, xs, rfl, hp, hc, hx⟩ := Dp.net_inv hN
    have hn1 := hok.n1
    refine (vi_call (P := fun r => 0 ≤ r ∧ r < N.n) (va_cons (vl_var rfl) (va_cons (vl_var rfl) (va_cons (vl_ixT (vl_var rfl) vl_c hp (atI_nat (j := 0) rfl)) va_nil))) fun Q E q => ⟨a, ds, k, N.n, rfl, hS, hk, by omega, q⟩) _ fun r hr => ?_
    refine ⟨by show 1 ≤ sizeLine; decide, fun o no => ?_⟩
    have s1 : Same H (upd H o (.lst [.int r])) := same_upd no
    refine q_forRI (P := fun n => 0 ≤ n ∧ n < 10) (vi_call (va_cons (vl_var rfl) (va_cons (vl_I0 (vl_var rfl) vl_c) (va_cons vl_c va_nil))) fun Q E q => ⟨a, ds, k + 1, 10, rfl, s1.seq hS, by omega, by decide, q⟩) fun n hn => ?_
    refine q_forR (n := n) (va_cons vl_c va_nil) ⟨by omega, by omega⟩
      (fun i σ H3 => ∃ y4 y5 y6 y7 y8 y9 rd x, σ = [some (.ref a), some (.int k), some (.ref p), some (.ref o), y4, y5, y6, y7, y8, y9] ∧ Same H H3 ∧ H3 o = some (.lst (rd.map V.int)) ∧ WalkOk N rd x ∧ rd.length ≤ 1 + i)
      ⟨none, none, none, none, none, none, [r], r, rfl, s1, upd_same, .one hr, Nat.le_refl _⟩ (fun i σ H3 hi hP => ?_) (fun σ H3 hP => ?_)
    · obtain ⟨y4, y5, y6, y7, y8, y9, rd, x, rfl, s3, ho, hW, hrl⟩ := hP
      refine q_lnew fun S nS => ?_
      have oS : o ≠ S := ne_of_none ho nS
      have sS : ∀ st : List V, Same H3 (upd H3 S (.lst st)) := fun st => same_upd nS
      have gx : atI (rd.map V.int) (-1) = some (.int x) := by
        obtain ⟨⟨r0, e0⟩, _⟩ := hW
        rw [e0, List.map_append]
        exact atI_last _ _
      refine q_forLnk (j1 := 6) (j2 := 7) (j3 := 8) (j4 := 9) (Hb := H) (vl_ixT (vl_var rfl) vl_c (seqT (s3.trans (sS _)) hp) (atI_nat (j := 1) rfl)) hc hx (s3.trans (sS _))
        (fun j σ H4 => ∃ y6 y7 y8 y9 st, σ = [some (.ref a), some (.int k), some (.ref p), some (.ref o), some (.int i), some (.ref S), y6, y7, y8, y9] ∧ H4 = upd H3 S (.lst (st.map V.int)) ∧ StepsOk N x st ∧ st.length ≤ 2 * j)
        ⟨_, _, _, _, [], rfl, rfl, fun _ h => (nomatch h), Nat.le_refl _⟩ (fun j σ H4 hP => ?_) (fun j l σ H4 hl hP => ?_) (fun σ H4 hP => ?_)
      · obtain ⟨_, _, _, _, st, _, rfl, _⟩ := hP
        exact s3.trans (sS _)
      · obtain ⟨y6, y7, y8, y9, st, rfl, rfl, hst, hsl⟩ := hP
        have hm : l ∈ N.ls := List.mem_of_getElem? hl
        have hlo := hok.ok l hm
        have hj := (List.getElem?_eq_some_iff.mp hl).1
        have hlen := hok.len
        have a0 := hlo.a0
        have ab := hlo.ab
        have bn := hlo.bn
        have oR : ∀ st : List V, SqL K (upd H3 S (.lst st)) o (rd.map V.int) := fun st => .inl (.inl (by
          rw [upd_ne oS]
          exact ho))
        refine q_cut (M := fun σ' H' => ∃ st : List Int, σ' = [some (.ref a), some (.int k), some (.ref p), some (.ref o), some (.int i), some (.ref S), some (.int l.a), some (.int l.b), some (oV l.t), some (oV l.k)] ∧ H' = upd H3 S (.lst (st.map V.int)) ∧ StepsOk N x st ∧ st.length ≤ 2 * j + 1) ?_ ?_
        · refine g_when (b := decide (V.int l.a = V.int x) && !decide (oV l.t = V.non)) (by exact an_and (an_test (vl_eq (vl_var rfl) (vl_ixL (vl_var rfl) (vl_neg vl_c) (oR _) gx) rfl)) fun _ => an_test (vl_notN (vl_var rfl))) (fun hb => ?_) (fun _ => ⟨st, rfl, rfl, hst, by omega⟩)
          rw [Bool.and_eq_true, Bool.not_eq_true'] at hb
          have e1 := V.int.inj (of_decide_eq_true hb.1)
          have e2 := of_decide_eq_false hb.2
          have e3 := look_there hok hm
          refine g_app (vl_var rfl) upd_same (vl_var rfl) ?_ ?_
          · rw [List.length_map]
            exact Nat.lt_of_le_of_lt (show st.length ≤ 10000 by omega) (by decide)
          · refine ⟨st ++ [l.b], rfl, ?_, hst.app ⟨by omega, by omega⟩ ?_, ?_⟩
            · rw [upd_upd, List.map_append]
              rfl
            · rw [e1] at e3
              cases et : l.t with
              | none =>
                rw [et] at e2
                exact absurd rfl e2
              | some cc =>
                rw [et] at e3
                exact ⟨cc, e3⟩
            · rw [List.length_append]
              show st.length + 1 ≤ 2 * j + 1
              omega
        · rintro σ' H' ⟨st, rfl, rfl, hst, hsl⟩
          refine g_when (b := decide (V.int l.b = V.int x) && !decide (oV l.k = V.non)) (by exact an_and (an_test (vl_eq (vl_var rfl) (vl_ixL (vl_var rfl) (vl_neg vl_c) (oR _) gx) rfl)) fun _ => an_test (vl_notN (vl_var rfl))) (fun hb => ?_) (fun _ => ⟨_, _, _, _, st, rfl, rfl, hst, by omega⟩)
          rw [Bool.and_eq_true, Bool.not_eq_true'] at hb
          have e1 := V.int.inj (of_decide_eq_true hb.1)
          have e2 := of_decide_eq_false hb.2
          have e3 := look_back hok hm
          refine g_app (vl_var rfl) upd_same (vl_var rfl) ?_ ?_
          · rw [List.length_map]
            exact Nat.lt_of_le_of_lt (show st.length ≤ 10000 by omega) (by decide)
          · refine ⟨_, _, _, _, st ++ [l.a], rfl, ?_, hst.app ⟨by omega, by omega⟩ ?_, ?_⟩
            · rw [upd_upd, List.map_append]
              rfl
            · rw [e1] at e3
              cases et : l.k with
              | none =>
                rw [et] at e2
                exact absurd rfl e2
              | some cc =>
                rw [et] at e3
                exact ⟨cc, e3⟩
            · rw [List.length_append]
              show st.length + 1 ≤ 2 * (j + 1)
              omega
      · obtain ⟨y6, y7, y8, y9, st, rfl, rfl, hst, hsl⟩ := hP
        have hSt : SqL K (upd H3 S (.lst (st.map V.int))) S (st.map V.int) := .inl (.inl upd_same)
        have ho4 : upd H3 S (.lst (st.map V.int)) o = some (.lst (rd.map V.int)) := by
          rw [upd_ne oS]
          exact ho
        refine g_when (b := decide ((0 : Int) < (st.length : Int))) (by exact an_test (vl_I0 ((vl_lenL (vl_var rfl) hSt).is (by rw [List.length_map])) vl_c)) (fun hb => ?_) (fun _ => ?_)
        · have hb := of_decide_eq_true hb
          refine ⟨.ref o, rfl, .inl ⟨rfl, _, .inl (.inl ho4)⟩, .ref S, rfl, ?_⟩
          refine (vi_call (P := fun r => 0 ≤ r ∧ r < (st.length : Int)) (va_cons (vl_var rfl) (va_cons (vl_I0 (vl_I0 (vl_var rfl) vl_c) (vl_var rfl)) (va_cons ((vl_lenL (vl_var rfl) hSt).is (by rw [List.length_map])) va_nil))) fun Q E q => ⟨a, ds, k + 2 + i, (st.length : Int), rfl, (s3.trans (sS _)).seq hS, by omega, hb, q⟩) _ fun r hr => ?_
          obtain ⟨d, g', hd⟩ := at_int (ds := st) hr.1 hr.2
          obtain ⟨hy, cc, hcc⟩ := hst d (List.mem_of_getElem? hd)
          refine ⟨S, _, _, _, rfl, rfl, hSt, g', o, _, _, rfl, rfl, ho4, ?_, ?_⟩
          · rw [List.length_map]
            exact Nat.lt_of_le_of_lt (show rd.length ≤ 10000 by omega) (by decide)
          · refine ⟨_, _, _, _, _, _, rd ++ [d], d, rfl, same_upd' (s3.trans (sS _)) no, ?_, hW.app hy hcc, ?_⟩
            · rw [upd_same, List.map_append]
              rfl
            · rw [List.length_append]
              show rd.length + 1 ≤ 1 + (i + 1)
              omega
        · exact ⟨_, _, _, _, _, _, rd, x, rfl, s3.trans (sS _), ho4, hW, by omega⟩
    · obtain ⟨y4, y5, y6, y7, y8, y9, rd, x, rfl, s3, ho, hW, hrl⟩ := hP
      exact g_ret (vl_var rfl) (q H3 o rd x s3 no ho hW (by omega))
end
/-! ### data that is the same is equal -/
theorem lay_o : ∀ o : Option Int, (oD o).canLay0 = true ∧ (oD o).depth = 0
  | none => ⟨rfl, rfl⟩
  | some _ => ⟨rfl, rfl⟩
theorem lay_lnks : ∀ ls : List Lnk, PyData.canLayAll0 (ls.map lnkD) = true ∧ PyData.depthAll (ls.map lnkD) ≤ 1
  | [] => ⟨rfl, Nat.zero_le _⟩
  | l :: ls => by
    have h1 := lay_o l.t
    have h2 := lay_o l.k
    have ih := lay_lnks ls
    constructor
    · show (((true && (true && ((oD l.t).canLay0 && ((oD l.k).canLay0 && true)))) && PyData.canLayAll0 (ls.map lnkD)) = true)
      rw [h1.1, h2.1, ih.1]
      rfl
    · show max (max 0 (max 0 (max (oD l.t).depth (max (oD l.k).depth 0))) + 1) (PyData.depthAll (ls.map lnkD)) ≤ 1
      rw [h1.2, h2.2]
      have := ih.2
      simp only [Nat.max_self, Nat.zero_add]
      omega
theorem shaped_net (N : Net) : SeqAt.shaped (netD N) = true := by
  have h := lay_lnks N.ls
  show ((true && (PyData.canLayAll0 (N.ls.map lnkD) && true)) && decide (max 0 (max (PyData.depthAll (N.ls.map lnkD) + 1) 0) + 1 ≤ 64)) = true
  rw [h.1, decide_eq_true (show max 0 (max (PyData.depthAll (N.ls.map lnkD) + 1) 0) + 1 ≤ 64 by
    have := h.2
    omega)]
  rfl
theorem eqv_net (N : Net) : PyData.eqv (netD N) (netD N) = true := SeqAt.eqv_refl _ (Bool.and_eq_true_iff.mp (shaped_net N)).1
/-! ### new lists -/
def Vn (te : TE) (σ : L2.St) (H : Hp) (xs : List V) : Prop := ∀ Q : VK, (∀ p H', Same H H' → H p = none → H' p = some (.lst xs) → Q (.ref p) H') → te σ H Q
section
variable {K : PySem.W.Frag} {σ : L2.St} {H : Hp} {ta tb te : TE} {tr : TA} {xs ys : List V} {a : Addr} {D : Ends} {tw : TS}
theorem vn_lst (h : Va tr σ H xs) (hz : xs.length ≤ sizeLine) : Vn (tLst tr) σ H xs := fun Q q => h _ ⟨hz, fun p np => q p _ (same_upd np) np upd_same⟩
theorem vn_slice {tl th : TO} {lo hi : Option Int} (h : Vl te σ H (.ref a)) (hl : ∀ Q : Option Int → Hp → Prop, Q lo H → tl σ H Q) (hh : ∀ Q : Option Int → Hp → Prop, Q hi H → th σ H Q) (hx : SqL K H a xs) : Vn (tSl (rSlL K) te tl th) σ H (cutV xs lo hi) := fun Q q =>
  h _ (hl _ (hh _ ⟨a, xs, rfl, hx, fun p np => q p _ (same_upd np) np upd_same⟩))
theorem vn_rev (h : Vl te σ H (.ref a)) (hx : SqL K H a xs) : Vn (tRevL K te) σ H xs.reverse := fun Q q => h _ ⟨a, xs, rfl, hx, fun p np => q p _ (same_upd np) np upd_same⟩
theorem vn_cat (ha : Vn ta σ H xs) (hb : ∀ H', Same H H' → Vn tb σ H' ys) (hz : xs.length + ys.length ≤ sizeLine) : Vn (tOp rCat ta tb) σ H (xs ++ ys) := fun Q q => ha _ fun p H1 s1 np hp => hb H1 s1 _ fun r H2 s2 nr hr =>
  ⟨p, r, xs, ys, rfl, rfl, s2 _ _ hp, hr, hz, fun t nt => q t _ ((s1.trans s2).trans (same_upd nt)) (Same.free (s1.trans s2) nt) upd_same⟩
theorem vn_listOf (h : Vl te σ H (.ref a)) (hx : SqL K H a xs) : Vn (tCB (fun xs H Q => ∃ p ys, xs = [V.ref p] ∧ (SqL K H p ys ∨ SqT K H p ys) ∧ ∀ l, H l = none → Q (V.ref l) (upd H l (.lst ys))) (tCons te tNil)) σ H xs := fun Q q =>
  h _ ⟨a, xs, rfl, .inl hx, fun p np => q p _ (same_upd np) np upd_same⟩
theorem q_asgN {i : Nat} (h : Vn te σ H xs) (k : ∀ p H', Same H H' → H p = none → H' p = some (.lst xs) → tw D (σ.set i (some (.ref p))) H') : tSeq (tAsg te (gName i)) tw D σ H := h _ k
end
theorem cut_to {xs : List V} {n : Nat} (h : n ≤ xs.length) : cutV xs none (some (n : Int)) = xs.take n := by
  unfold cutV
  rw [HT.sIx_none, HT.sIx_nat, Nat.min_eq_left h, Nat.sub_zero, List.drop_zero]
theorem cut_from {xs : List V} {n : Nat} (h : n ≤ xs.length) : cutV xs (some (n : Int)) none = xs.drop n := by
  unfold cutV
  rw [HT.sIx_none, HT.sIx_nat, Nat.min_eq_left h]
  exact List.take_of_length_le (by rw [List.length_drop]; exact Nat.le_refl _)
/-- lists of lists of ints -/
theorem Dp.ints {K : PySem.W.Frag} {H : Hp} {p : Addr} {ns : List Int} (h : SqL K H p (ns.map V.int)) : Dp K H (.ref p) (.list (ns.map PyData.int)) := .lst h (DpAll.ints ns)
theorem Dp.ints_inv {K : PySem.W.Frag} {H : Hp} {v : V} {ns : List Int} (h : Dp K H v (.list (ns.map PyData.int))) : ∃ p, v = .ref p ∧ SqL K H p (ns.map V.int) := by
  obtain ⟨a, xs, rfl, hs, ha⟩ := Dp.lst_inv h
  rw [DpAll.ints_inv ha] at hs
  exact ⟨a, rfl, hs⟩
abbrev sLaw : Stmt := topS 12
theorem scLaw : FnScope ["script", "draws", "net", "kept", "road", "place", "cell", "roads", "other", "told", "due"] ["script"] (defScope sLaw) := ⟨rfl, rfl, rfl, by decide +kernel, rfl, by decide +kernel, by decide +kernel⟩
def spLaw (K : PySem.W.Frag) : Sp := fun vs H Q _ => ∃ (a : Addr) (ns : List Int), vs = [.ref a] ∧ SqL K H a (ns.map V.int) ∧ ns.length ≤ 63 ∧ ∀ H', Q (.bl true) H'
/-- a Dp list that grows at its end -/
theorem ne_dec {o : Option Int} : (!decide (oV o = oV o)) = false := by
  rw [decide_eq_true rfl]
  rfl
section
variable {P : Program} {w : World} {K : PySem.W.Frag} {mg : Str → Option Value} {base : Heap}
theorem ok_law {f : Addr} {fd : FuncData} (F : Fun K "law" "law" sLaw f fd) (cD : Kal P w K mg base 1 "_law_draws" ["script"] (spDraws K)) (cN : Kal P w K mg base 3 "_law_net" ["draws", "k", "most"] (spNet K)) (cW : Kal P w K mg base 2 "_law_walk" ["draws", "k", "net"] (spWalk K))
    (cA : Kal P w K mg base 1 "_law_at" ["draws", "k", "many"] (spAt K)) (cR : Kal P w K mg base 2 "road_sum" ["net", "road"] (spRS K)) (cS : Kal P w K mg base 1 "_law_sum" ["net", "road"] (spSum K)) (cI : Kal P w K mg base 1 "_law_is_integer" ["actual"] spIsI)
    (ml : mg "len" = none) (mL : mg "list" = none) : FnOk P w K mg base CX0 4 f fd ["script"] (spLaw K) := by
  refine F.ok scLaw (fun vs H Q E h => ?_) (fun cdv A outer s H vs Q E hr h => ?_)
  · obtain ⟨a, ns, rfl, _⟩ := h
    rfl
  · obtain ⟨a, ns, rfl, hS, hlen, q⟩ := h
    refine ⟨_, pss_cons (ps_set (i := 1) scLaw.nd rfl (.inl rfl) (pe_k cD hr (by decide) (by rfl) (pa_cons (pv 0) pa_nil)))
      (pss_cons (ps_set (i := 2) scLaw.nd rfl (.inl rfl) (pe_k cN hr (by decide) (by rfl) (pa_cons (pv 1) (pa_cons pe_int (pa_cons pe_int pa_nil)))))
      (pss_cons (ps_set (i := 3) scLaw.nd rfl (.inl rfl) (pe_tup (pa_cons (pe_ix ix_tup (pv 2) pe_int (fun _ _ => rfl)) (pa_cons (pe_callTy call_list_of (by rfl) mL (by decide +kernel) (pa_cons (pe_ix ix_tup (pv 2) pe_int (fun _ _ => rfl)) pa_nil)) pa_nil))))
      (pss_cons (ps_set (i := 4) scLaw.nd rfl (.inl rfl) (pe_k cW hr (by decide) (by rfl) (pa_cons (pv 1) (pa_cons pe_int (pa_cons (pv 2) pa_nil)))))
      (pss_cons (ps_set (i := 5) scLaw.nd rfl (.inl rfl) (pe_k cA hr (by decide) (by rfl) (pa_cons (pv 1) (pa_cons pe_int (pa_cons (pe_callB call_len_seq (by rfl) ml PySem.boot_len (pa_cons (pv 4) pa_nil)) pa_nil)))))
      (pss_cons (ps_set (i := 6) scLaw.nd rfl (.inl rfl) (pe_op op_sub (pe_k cA hr (by decide) (by rfl) (pa_cons (pv 1) (pa_cons pe_int (pa_cons (pe_op op_add (pe_ix ix_tup (pv 2) pe_int (fun _ _ => rfl)) pe_int) pa_nil)))) pe_int))
      (pss_cons (ps_set (i := 7) scLaw.nd rfl (.inl rfl) (pe_lst (pa_cons (pv 4)
        (pa_cons (pe_op op_cat (pe_op op_cat (pe_slice sl_list (pv 4) po_none (po_some (pv 5))) (pe_lst (pa_cons (pv 6) pa_nil))) (pe_slice sl_list (pv 4) (po_some (pe_op op_add (pv 5) pe_int)) po_none))
        (pa_cons (pe_op op_cat (pe_slice sl_list (pv 4) po_none (po_some (pv 5))) (pe_slice sl_list (pv 4) (po_some (pe_op op_add (pv 5) pe_int)) po_none))
        (pa_cons (pe_revL (pv 4)) (pa_cons (pe_lst pa_nil) pa_nil)))))))
      (pss_cons (ps_expr (pe_bm PySem.F.plainAttrs_list PySem.F.slot_list_append PySem.F.type_list_append mt_append (pv 7)
        (pa_cons (pe_op op_cat (pe_op op_cat (pe_slice sl_list (pv 4) po_none (po_some (pv 5))) (pe_lst (pa_cons (pe_ix ix_list (pv 4) (pv 5) (fun _ _ => rfl)) pa_nil))) (pe_slice sl_list (pv 4) (po_some (pv 5)) po_none)) pa_nil)))
      (pss_cons (ps_for PassesOwn.never rfl (pi_list (pv 7)) (pg_name (i := 8) scLaw.nd rfl (.inl rfl))
        (pss_cons (ps_set (i := 9) scLaw.nd rfl (.inl rfl) (pe_k cR hr (by decide) (by rfl) (pa_cons (pv 2) (pa_cons (pe_callTy call_list_of (by rfl) mL (by decide +kernel) (pa_cons (pv 8) pa_nil)) pa_nil))))
        (pss_cons (ps_set (i := 10) scLaw.nd rfl (.inl rfl) (pe_k cS hr (by decide) (by rfl) (pa_cons (pv 3) (pa_cons (pv 8) pa_nil))))
        (pss_one (ps_if (PW.pt (pw_or (pt_cmpR op_ne (pv 9) (pv 10) (nomark _)) (pw_or (PW.pt (pw_and (pt_cmpR op_notN (pv 9) pe_non (nomark _)) (pw_and1 (pt_not (pt_val (pe_k cI hr (by decide) (by rfl) (pa_cons (pv 9) pa_nil)))))))
            (pw_or1 (pt_cmpR (op_neD hr.units) (pv 2) (pv 3) (nomark _))))))
          (pss_one (ps_ret pe_bl)) pss_nil)))))
      (pss_one (ps_ret (pe_cmpR op_notN (pe_k cS hr (by decide) (by rfl) (pa_cons (pv 3) (pa_cons (pv 4) pa_nil))) pe_non (nomark _)))))))))))), ?_⟩
    -- draws
    refine ⟨.ref a, rfl, a, ns, rfl, hS, hlen, fun H1 d ds s1 nd hd hok => ?_⟩
    have hD1 : SqL K H1 d (ds.map V.int) := .inl (.inl hd)
    -- net
    refine ⟨.ref d, rfl, d, ds, 6, 8, rfl, hD1, by decide, by decide, by decide, fun H2 v N s2 hN okN hn8 => ?_⟩
    obtain ⟨p, c, xs, rfl, hp, hc, hx⟩ := hN
    have n1 := okN.n1
    -- kept
    refine (vl_ixT (K := K) (vl_var rfl) vl_c (.of hp) (atI_nat (j := 0) rfl)) _ ?_
    refine (vl_ixT (K := K) (vl_var rfl) vl_c (.of hp) (atI_nat (j := 1) rfl)) _ ?_
    refine ⟨c, xs, rfl, .inl (.of hc), fun l nl => ⟨by show 2 ≤ sizeLine; decide, fun t nt => ?_⟩⟩
    have s3 : Same H2 (upd H2 l (.lst xs)) := same_upd nl
    have s4 : Same (upd H2 l (.lst xs)) (upd (upd H2 l (.lst xs)) t (.tup [.int N.n, .ref l])) := same_upd nt
    have hK4 : NetAt K (upd (upd H2 l (.lst xs)) t (.tup [.int N.n, .ref l])) (.ref t) N := ⟨t, l, xs, rfl, upd_same, s4 _ _ upd_same, DpAll.to hx (s3.trans s4)⟩
    have hN4 : NetAt K (upd (upd H2 l (.lst xs)) t (.tup [.int N.n, .ref l])) (.ref p) N := NetAt.to ⟨p, c, xs, rfl, hp, hc, hx⟩ (s3.trans s4)
    have hD4 := (s2.trans (s3.trans s4)).seq hD1
    generalize upd (upd H2 l (.lst xs)) t (.tup [.int N.n, .ref l]) = H4 at s4 hK4 hN4 hD4 ⊢
    -- road
    refine ⟨.ref d, rfl, .ref p, rfl, d, ds, 90, .ref p, N, rfl, hD4, by decide, hN4.dp, okN, fun H5 o rd x s5 no ho hW hrl => ?_⟩
    obtain ⟨hne, tt, hsum⟩ := hW.sum
    have hO5 : SqL K H5 o (rd.map V.int) := .of ho
    have hD5 := s5.seq hD4
    have hl0 : 0 < rd.length := List.length_pos_iff.mpr hne
    -- place
    refine q_asgI (P := fun r => 0 ≤ r ∧ r < (rd.length : Int)) (vi_call (va_cons (vl_var rfl) (va_cons vl_c (va_cons ((vl_lenL (vl_var rfl) hO5).is (by rw [List.length_map])) va_nil))) fun Q E q => ⟨d, ds, 0, (rd.length : Int), rfl, hD5, by decide, by omega, q⟩) (fun pl hpl => ?_)
    obtain ⟨j, rfl⟩ : ∃ j : Nat, pl = (j : Int) := ⟨pl.toNat, by omega⟩
    have hj : j < rd.length := by omega
    -- cell
    have hN5 := hN4.to s5
    obtain ⟨p', c', xs', ep, hp5, hc5, hx5⟩ := id hN5
    cases ep
    refine q_asgI (P := fun _ => True) (vi_I0 (vi_call (P := fun r => 0 ≤ r ∧ r < N.n + 2) (va_cons (vl_var rfl) (va_cons vl_c (va_cons (vl_I0 (vl_ixT (vl_var rfl) vl_c (.of hp5) (atI_nat (j := 0) rfl)) vl_c) va_nil))) fun Q E q => ⟨d, ds, 1, N.n + 2, rfl, hD5, by decide, by omega, q⟩) (vi_of vl_c) (fun _ _ _ _ => trivial)) (fun ce _ => ?_)
    -- roads
    have hlv : (rd.map V.int).length = rd.length := List.length_map _
    have hO : ∀ H', Same H5 H' → SqL K H' o (rd.map V.int) := fun H' s' => s'.seq hO5
    have small : ∀ n : Nat, n ≤ 1000 → n ≤ sizeLine := fun n h => Nat.le_of_lt (small1000 h)
    have cto : cutV (rd.map V.int) none (some (j : Int)) = (rd.take j).map V.int := by
      rw [cut_to (by omega), List.map_take]
    have cfr : cutV (rd.map V.int) (some ((j : Int) + 1)) none = (rd.drop (j + 1)).map V.int := by
      rw [show (j : Int) + 1 = ((j + 1 : Nat) : Int) by omega, cut_from (by omega), List.map_drop]
    have cfj : cutV (rd.map V.int) (some (j : Int)) none = (rd.drop j).map V.int := by
      rw [cut_from (by omega), List.map_drop]
    have vTo : ∀ H', Same H5 H' → Vn (tSl (rSlL K) (tVar 4) tNoPart (tPart (tVar 5))) [some (.ref a), some (.ref d), some (.ref p), some (.ref t), some (.ref o), some (.int j), some (.int ce), none, none, none, none] H' ((rd.take j).map V.int) := fun H' s' => by
      rw [← cto]
      exact vn_slice (vl_var rfl) (fun _ q => q) (fun _ q => ⟨_, rfl, _, rfl, q⟩) (hO H' s')
    have vFr : ∀ H', Same H5 H' → Vn (tSl (rSlL K) (tVar 4) (tPart (tOp (rI0 fun i j => .int (i + j)) (tVar 5) (tC (.int 1)))) tNoPart) [some (.ref a), some (.ref d), some (.ref p), some (.ref t), some (.ref o), some (.int j), some (.int ce), none, none, none, none] H' ((rd.drop (j + 1)).map V.int) := fun H' s' => by
      rw [← cfr]
      exact vn_slice (vl_var rfl) (fun _ q => ⟨_, rfl, _, _, rfl, rfl, _, rfl, q⟩) (fun _ q => q) (hO H' s')
    have lt1 : (rd.take j).length ≤ 10 := by
      rw [List.length_take]
      omega
    have ld1 : (rd.drop (j + 1)).length ≤ 10 := by
      rw [List.length_drop]
      omega
    have ld2 : (rd.drop j).length ≤ 10 := by
      rw [List.length_drop]
      omega
    refine ⟨.ref o, rfl, ?_⟩
    refine (vn_cat (vn_cat (vTo H5 (Same.refl H5)) (fun H' s' => vn_lst (va_cons (vl_var rfl) va_nil) (small _ (show 1 ≤ 1000 by decide))) (small _ (by
      rw [List.length_map]
      show _ + 1 ≤ 1000
      omega))) (fun H' s' => vFr H' s') (small _ (by
        rw [List.length_append, List.length_map, List.length_map]
        show _ + 1 + _ ≤ 1000
        omega))) _ fun p2 H6 s6 n2 h2 => ?_
    refine (vn_cat (vTo H6 s6) (fun H' s' => vFr H' (s6.trans s')) (small _ (by
      rw [List.length_map, List.length_map]
      omega))) _ fun p3 H7 s7 n3 h3 => ?_
    refine (vn_rev (vl_var rfl) (hO H7 (s6.trans s7))) _ fun p4 H8 s8 n4 h4 => ?_
    refine (vn_lst va_nil (Nat.zero_le _)) _ fun p5 H9 s9 n5 h5 => ?_
    refine ⟨by show 5 ≤ sizeLine; decide, fun R nR => ?_⟩
    have s59 := ((s6.trans s7).trans s8).trans s9
    -- roads.append
    have sR : Same H9 (upd H9 R (.lst [.ref o, .ref p2, .ref p3, .ref p4, .ref p5])) := same_upd nR
    refine ⟨.ref R, rfl, .inl ⟨rfl, _, .inl (.inl upd_same)⟩, ?_⟩
    obtain ⟨dj, gj, _⟩ := at_int (ds := rd) (k := (j : Int)) (by omega) (by omega)
    refine (vn_cat (vn_cat (xs := (rd.take j).map V.int) (ys := [.int dj]) (by
        rw [← cto]
        exact vn_slice (vl_var rfl) (fun _ q => q) (fun _ q => ⟨_, rfl, _, rfl, q⟩) (hO _ (s59.trans sR))) (fun H' s' => vn_lst (va_cons (vl_ixL (vl_var rfl) (vl_var rfl) (hO _ ((s59.trans sR).trans s')) gj) va_nil) (small _ (show 1 ≤ 1000 by decide))) (small _ (by
        rw [List.length_map]
        show _ + 1 ≤ 1000
        omega))) (ys := (rd.drop j).map V.int) (fun H' s' => by
          rw [← cfj]
          exact vn_slice (vl_var rfl) (fun _ q => ⟨_, rfl, _, rfl, q⟩) (fun _ q => q) (hO _ ((s59.trans sR).trans s'))) (small _ (by
        rw [List.length_append, List.length_map, List.length_map]
        show _ + 1 + _ ≤ 1000
        omega))) _ fun p6 H10 s10 n6 h6 => ?_
    refine ⟨R, _, _, rfl, rfl, s10 _ _ upd_same, by show 5 < sizeLine; decide, ?_⟩
    have s510 : Same H5 H10 := (s59.trans sR).trans s10
    have hb9 : Same H9 (but H10 R) := same_but (sR.trans s10) nR
    have nR6 : p6 ≠ R := fun e => by
      rw [e, upd_same] at n6
      cases n6
    have hall : DpAll K (but H10 R) [.ref o, .ref p2, .ref p3, .ref p4, .ref p5, .ref p6]
        ([rd, rd.take j ++ [ce] ++ rd.drop (j + 1), rd.take j ++ rd.drop (j + 1), rd.reverse, [], rd.take j ++ [dj] ++ rd.drop j].map fun r => PyData.list (r.map PyData.int)) := by
      refine .cons (Dp.ints (.of (hb9 _ _ (s59 _ _ ho)))) (.cons (Dp.ints (.of (hb9 _ _ (s9 _ _ (s8 _ _ (s7 _ _ ?_)))))) (.cons (Dp.ints (.of (hb9 _ _ (s9 _ _ (s8 _ _ ?_))))) (.cons (Dp.ints (.of (hb9 _ _ (s9 _ _ ?_)))) (.cons (Dp.ints (ns := []) (.of (hb9 _ _ h5))) (.cons (Dp.ints (.of ?_)) .nil)))))
      · rw [h2, List.map_append, List.map_append]
        rfl
      · rw [h3, List.map_append]
      · rw [h4, List.map_reverse]
      · rw [but_ne nR6, h6, List.map_append, List.map_append]
        rfl
    have hsm : ∀ r ∈ [rd, rd.take j ++ [ce] ++ rd.drop (j + 1), rd.take j ++ rd.drop (j + 1), rd.reverse, [], rd.take j ++ [dj] ++ rd.drop j], r.length ≤ 1000 := by
      intro r hr
      simp only [List.mem_cons, List.not_mem_nil, or_false] at hr
      rcases hr with e | e | e | e | e | e <;> subst e
      · omega
      · rw [List.length_append, List.length_append]
        show _ + 1 + _ ≤ 1000
        omega
      · rw [List.length_append]
        omega
      · rw [List.length_reverse]
        omega
      · exact Nat.zero_le _
      · rw [List.length_append, List.length_append]
        show _ + 1 + _ ≤ 1000
        omega
    generalize [rd, rd.take j ++ [ce] ++ rd.drop (j + 1), rd.take j ++ rd.drop (j + 1), rd.reverse, [], rd.take j ++ [dj] ++ rd.drop j] = rds at hall hsm
    have sF : Same (but H10 R) (upd H10 R (.lst ([.ref o, .ref p2, .ref p3, .ref p4, .ref p5] ++ [.ref p6]))) := but_upd_same
    have s5b : Same H5 (but H10 R) := s59.trans hb9
    -- the loop
    refine q_forL (vl_var rfl) (.of upd_same)
      (fun i σ H' => ∃ y8 y9 y10, σ = [some (.ref a), some (.ref d), some (.ref p), some (.ref t), some (.ref o), some (.int j), some (.int ce), some (.ref R), y8, y9, y10] ∧ Same (upd H10 R (.lst ([.ref o, .ref p2, .ref p3, .ref p4, .ref p5] ++ [.ref p6]))) H')
      ⟨_, _, _, rfl, Same.refl _⟩ (fun i σ' H' hP => ?_) (fun i y σ' H' hy hP => ?_) (fun σ' H' hP => ?_)
    · obtain ⟨_, _, _, _, s'⟩ := hP
      exact .of (s' _ _ upd_same)
    · obtain ⟨y8, y9, y10, rfl, s'⟩ := hP
      have ei : i < rds.length := by
        have e1 := DpAll.len hall
        rw [List.length_map] at e1
        have e2 := (List.getElem?_eq_some_iff.mp hy).1
        rw [← e1]
        exact e2
      obtain ⟨y', ey, dy⟩ := DpAll.get (i := i) (d := .list (rds[i].map PyData.int)) hall (by
        rw [List.getElem?_map, List.getElem?_eq_getElem ei]
        rfl)
      have hz : rds[i].length ≤ 1000 := hsm _ (List.getElem_mem ei)
      generalize rds[i] = od at dy hz
      cases ey.symm.trans hy
      obtain ⟨b, rfl, hb⟩ := Dp.ints_inv (Dp.to dy (sF.trans s'))
      have sN : Same H5 H' := s5b.trans (sF.trans s')
      refine q_asgE ⟨.ref p, rfl, ?_⟩
      refine (vn_listOf (vl_var rfl) hb) _ fun b2 H11 s11 nb2 hb2 => ?_
      refine ⟨.ref p, b2, N, od, rfl, (hN5.to (sN.trans s11)).dp, okN.len, .of hb2, hz, fun H12 s12 => ?_⟩
      refine q_asgE ⟨.ref t, rfl, .ref b, rfl, .ref t, b, N, od, rfl, (hK4.to (s5.trans (sN.trans (s11.trans s12)))).dp, (s11.trans s12).seq hb, hz, fun H13 s13 => ?_⟩
      rw [law_road okN]
      have sL := s11.trans (s12.trans s13)
      have e0 : (∀ H' : Hp, True) := fun _ => trivial
      refine g_when (b := !decide (oV (lawSum N od) = oV (lawSum N od)) || ((!decide (oV (lawSum N od) = V.non)) && !true || !true)) ?_ (fun hb => ?_) (fun _ => ?_)
      · refine an_or (an_test (vl_ne (vl_var rfl) (vl_var rfl) ?_)) fun _ => an_or ?_ fun _ => ?_
        · cases lawSum N od <;> rfl
        · cases lawSum N od with
          | none => exact an_and (an_test (vl_notN (vl_var rfl))) fun h => nomatch h
          | some z => exact an_and (an_test (vl_notN (vl_var rfl))) fun _ => an_not (an_B fun Q q => ⟨_, rfl, z, rfl, q⟩)
        · exact an_test (vl_op (vl_var rfl) (vl_var rfl) fun _ k => ⟨netD N, netD N, (hN5.to (sN.trans sL)).dp, (hK4.to (s5.trans (sN.trans sL))).dp, shaped_net N, shaped_net N, by
            rw [eqv_net]
            exact k⟩)
      · rw [decide_eq_true rfl] at hb
        simp at hb
      · exact ⟨_, _, _, rfl, s'.trans sL⟩
    · obtain ⟨y8, y9, y10, rfl, s'⟩ := hP
      have sN : Same H5 H' := s5b.trans (sF.trans s')
      refine ⟨.ref t, rfl, .ref o, rfl, .ref t, o, N, rd, rfl, (hK4.to (s5.trans sN)).dp, hO H' sN, by omega, fun H12 s12 => ?_⟩
      rw [hsum]
      exact ⟨rfl, q H12⟩
end
/-! ### what the top has written; the law's own head -/
theorem df_mk {K : PySem.W.Frag} {h : Heap} {mg : Str → Option Value} {x : Str} {st : Stmt} {ps : List Str} {f : Addr} {oc : Value} {od an : Option Addr} {osl : Array (Option Value)} {kV doc pm cdv ct : Value} (X : K.In h) (G : h.Ns mainGlobals mg)
    (a : PySem.W.nsIn K mainGlobals x = some (some (.ref f))) (l : K.lookup f = some ⟨oc, od, .func (PySem.W.fnOf x x (defArgs st) (defBody st) (defScope st) .none kV doc pm an cdv ct), osl⟩) (c : PySem.W.codeIn K cdv x = true) (k : PySem.W.keepIn K (.ref f) = true)
    (hb : ∀ (kV doc pm : Value) (an : Option Addr) (cdv ct : Value) (us : List Value), us.length = ps.length → bindArgs (PySem.W.fnOf x x (defArgs st) (defBody st) (defScope st) .none kV doc pm an cdv ct) ⟨us, []⟩ = pure (ps.zip us)) : Df K mg x st ps :=
  ⟨f, _, fun_mk l c k, PySem.W.mg_of X G a, (fun_mk l c k).binds hb⟩
theorem all_mk {l : PySem.W.OpenLaw} {w : World} {K : PySem.W.Frag} {h : Heap} {mg : Str → Option Value} {fa f0 f1 f2 f3 f4 f5 f6 f7 f8 f9 f10 : Addr} (X : K.In h) (G : h.Ns mainGlobals mg) (hfa : mg "law" = some (.ref fa))
    {od0 an0 od1 an1 od2 an2 od3 an3 od4 an4 od5 an5 od6 an6 od7 an7 od8 an8 od9 an9 od10 an10 : Option Addr} {sl0 sl1 sl2 sl3 sl4 sl5 sl6 sl7 sl8 sl9 sl10 : Array (Option Value)} {oc0 kV0 dc0 pm0 cd0 ct0 oc1 kV1 dc1 pm1 cd1 ct1 oc2 kV2 dc2 pm2 cd2 ct2 oc3 kV3 dc3 pm3 cd3 ct3 oc4 kV4 dc4 pm4 cd4 ct4 oc5 kV5 dc5 pm5 cd5 ct5 oc6 kV6 dc6 pm6 cd6 ct6 oc7 kV7 dc7 pm7 cd7 ct7 oc8 kV8 dc8 pm8 cd8 ct8 oc9 kV9 dc9 pm9 cd9 ct9 oc10 kV10 dc10 pm10 cd10 ct10 : Value}
    (a0 : PySem.W.nsIn K mainGlobals "road_sum" = some (some (.ref f0))) (l0 : K.lookup f0 = some ⟨oc0, od0, .func (PySem.W.fnOf "road_sum" "road_sum" (defArgs sRS) (defBody sRS) (defScope sRS) .none kV0 dc0 pm0 an0 cd0 ct0), sl0⟩) (c0 : PySem.W.codeIn K cd0 "road_sum" = true) (k0 : PySem.W.keepIn K (.ref f0) = true)
    (a1 : PySem.W.nsIn K mainGlobals "link_ways" = some (some (.ref f1))) (l1 : K.lookup f1 = some ⟨oc1, od1, .func (PySem.W.fnOf "link_ways" "link_ways" (defArgs sLinkWays) (defBody sLinkWays) (defScope sLinkWays) .none kV1 dc1 pm1 an1 cd1 ct1), sl1⟩) (c1 : PySem.W.codeIn K cd1 "link_ways" = true) (k1 : PySem.W.keepIn K (.ref f1) = true)
    (a2 : PySem.W.nsIn K mainGlobals "_law_draws" = some (some (.ref f2))) (l2 : K.lookup f2 = some ⟨oc2, od2, .func (PySem.W.fnOf "_law_draws" "_law_draws" (defArgs sDraws) (defBody sDraws) (defScope sDraws) .none kV2 dc2 pm2 an2 cd2 ct2), sl2⟩) (c2 : PySem.W.codeIn K cd2 "_law_draws" = true) (k2 : PySem.W.keepIn K (.ref f2) = true)
    (a3 : PySem.W.nsIn K mainGlobals "_law_at" = some (some (.ref f3))) (l3 : K.lookup f3 = some ⟨oc3, od3, .func (PySem.W.fnOf "_law_at" "_law_at" (defArgs sAt) (defBody sAt) (defScope sAt) .none kV3 dc3 pm3 an3 cd3 ct3), sl3⟩) (c3 : PySem.W.codeIn K cd3 "_law_at" = true) (k3 : PySem.W.keepIn K (.ref f3) = true)
    (a4 : PySem.W.nsIn K mainGlobals "_law_mix" = some (some (.ref f4))) (l4 : K.lookup f4 = some ⟨oc4, od4, .func (PySem.W.fnOf "_law_mix" "_law_mix" (defArgs sMix) (defBody sMix) (defScope sMix) .none kV4 dc4 pm4 an4 cd4 ct4), sl4⟩) (c4 : PySem.W.codeIn K cd4 "_law_mix" = true) (k4 : PySem.W.keepIn K (.ref f4) = true)
    (a5 : PySem.W.nsIn K mainGlobals "_law_price" = some (some (.ref f5))) (l5 : K.lookup f5 = some ⟨oc5, od5, .func (PySem.W.fnOf "_law_price" "_law_price" (defArgs sPrice) (defBody sPrice) (defScope sPrice) .none kV5 dc5 pm5 an5 cd5 ct5), sl5⟩) (c5 : PySem.W.codeIn K cd5 "_law_price" = true) (k5 : PySem.W.keepIn K (.ref f5) = true)
    (a6 : PySem.W.nsIn K mainGlobals "_law_net" = some (some (.ref f6))) (l6 : K.lookup f6 = some ⟨oc6, od6, .func (PySem.W.fnOf "_law_net" "_law_net" (defArgs sNet) (defBody sNet) (defScope sNet) .none kV6 dc6 pm6 an6 cd6 ct6), sl6⟩) (c6 : PySem.W.codeIn K cd6 "_law_net" = true) (k6 : PySem.W.keepIn K (.ref f6) = true)
    (a7 : PySem.W.nsIn K mainGlobals "_law_is_integer" = some (some (.ref f7))) (l7 : K.lookup f7 = some ⟨oc7, od7, .func (PySem.W.fnOf "_law_is_integer" "_law_is_integer" (defArgs sIsI) (defBody sIsI) (defScope sIsI) .none kV7 dc7 pm7 an7 cd7 ct7), sl7⟩) (c7 : PySem.W.codeIn K cd7 "_law_is_integer" = true) (k7 : PySem.W.keepIn K (.ref f7) = true)
    (a8 : PySem.W.nsIn K mainGlobals "_law_walk" = some (some (.ref f8))) (l8 : K.lookup f8 = some ⟨oc8, od8, .func (PySem.W.fnOf "_law_walk" "_law_walk" (defArgs sWalk) (defBody sWalk) (defScope sWalk) .none kV8 dc8 pm8 an8 cd8 ct8), sl8⟩) (c8 : PySem.W.codeIn K cd8 "_law_walk" = true) (k8 : PySem.W.keepIn K (.ref f8) = true)
    (a9 : PySem.W.nsIn K mainGlobals "_law_sum" = some (some (.ref f9))) (l9 : K.lookup f9 = some ⟨oc9, od9, .func (PySem.W.fnOf "_law_sum" "_law_sum" (defArgs sSum) (defBody sSum) (defScope sSum) .none kV9 dc9 pm9 an9 cd9 ct9), sl9⟩) (c9 : PySem.W.codeIn K cd9 "_law_sum" = true) (k9 : PySem.W.keepIn K (.ref f9) = true)
    (a10 : PySem.W.nsIn K mainGlobals "law" = some (some (.ref f10))) (l10 : K.lookup f10 = some ⟨oc10, od10, .func (PySem.W.fnOf "law" "law" (defArgs sLaw) (defBody sLaw) (defScope sLaw) .none kV10 dc10 pm10 an10 cd10 ct10), sl10⟩) (c10 : PySem.W.codeIn K cd10 "law" = true) (k10 : PySem.W.keepIn K (.ref f10) = true)
    (z0 : PySem.W.nsIn K mainGlobals "range" = some none) (z1 : PySem.W.nsIn K mainGlobals "min" = some none) (z2 : PySem.W.nsIn K mainGlobals "len" = some none) (z3 : PySem.W.nsIn K mainGlobals "abs" = some none) (z4 : PySem.W.nsIn K mainGlobals "int" = some none) (z5 : PySem.W.nsIn K mainGlobals "bool" = some none) (z6 : PySem.W.nsIn K mainGlobals "isinstance" = some none) (z7 : PySem.W.nsIn K mainGlobals "zip" = some none) (z8 : PySem.W.nsIn K mainGlobals "list" = some none) :
    ∃ fd : FuncData, (∀ (s : Shared) (v : Value), BindsTo s fd ⟨[v], []⟩ [("script", v)]) ∧ ∀ base : Heap, K.In base → base.Ns mainGlobals mg → FnOk l.prog w K mg base CX0 4 fa fd ["script"] (spLaw K) := by
  have e := hfa.symm.trans (PySem.W.mg_of X G a10)
  cases e
  have D_road_sum : Df K mg "road_sum" sRS ["net", "road"] := df_mk X G a0 l0 c0 k0 (fun _ _ _ _ _ _ us hl => match us, hl with | [_, _], _ => rfl)
  have D_link_ways : Df K mg "link_ways" sLinkWays ["net"] := df_mk X G a1 l1 c1 k1 (fun _ _ _ _ _ _ us hl => match us, hl with | [_], _ => rfl)
  have D__law_draws : Df K mg "_law_draws" sDraws ["script"] := df_mk X G a2 l2 c2 k2 (fun _ _ _ _ _ _ us hl => match us, hl with | [_], _ => rfl)
  have D__law_at : Df K mg "_law_at" sAt ["draws", "k", "many"] := df_mk X G a3 l3 c3 k3 (fun _ _ _ _ _ _ us hl => match us, hl with | [_, _, _], _ => rfl)
  have D__law_mix : Df K mg "_law_mix" sMix ["draws", "k", "many"] := df_mk X G a4 l4 c4 k4 (fun _ _ _ _ _ _ us hl => match us, hl with | [_, _, _], _ => rfl)
  have D__law_price : Df K mg "_law_price" sPrice ["draws", "k"] := df_mk X G a5 l5 c5 k5 (fun _ _ _ _ _ _ us hl => match us, hl with | [_, _], _ => rfl)
  have D__law_net : Df K mg "_law_net" sNet ["draws", "k", "most"] := df_mk X G a6 l6 c6 k6 (fun _ _ _ _ _ _ us hl => match us, hl with | [_, _, _], _ => rfl)
  have D__law_is_integer : Df K mg "_law_is_integer" sIsI ["actual"] := df_mk X G a7 l7 c7 k7 (fun _ _ _ _ _ _ us hl => match us, hl with | [_], _ => rfl)
  have D__law_walk : Df K mg "_law_walk" sWalk ["draws", "k", "net"] := df_mk X G a8 l8 c8 k8 (fun _ _ _ _ _ _ us hl => match us, hl with | [_, _, _], _ => rfl)
  have D__law_sum : Df K mg "_law_sum" sSum ["net", "road"] := df_mk X G a9 l9 c9 k9 (fun _ _ _ _ _ _ us hl => match us, hl with | [_, _], _ => rfl)
  have b_range := PySem.W.mg_none_of X G z0
  have b_min := PySem.W.mg_none_of X G z1
  have b_len := PySem.W.mg_none_of X G z2
  have b_abs := PySem.W.mg_none_of X G z3
  have b_int := PySem.W.mg_none_of X G z4
  have b_bool := PySem.W.mg_none_of X G z5
  have b_isinstance := PySem.W.mg_none_of X G z6
  have b_zip := PySem.W.mg_none_of X G z7
  have b_list := PySem.W.mg_none_of X G z8
  have F_law := fun_mk (st := sLaw) l10 c10 k10
  refine ⟨PySem.W.fnOf "law" "law" (defArgs sLaw) (defBody sLaw) (defScope sLaw) .none kV10 dc10 pm10 an10 cd10 ct10, fun s v => .of_eq rfl, fun base _ _ => ?_⟩
  have cLk := kal_of D_link_ways (fun f fd F => ok_linkWays (P := l.prog) (w := w) (base := base) (K := K) (mg := mg) (k := 0) F)
  have cR := kal_of D_road_sum (fun f fd F => ok_rs F b_zip cLk)
  have cD := kal_of D__law_draws (fun f fd F => ok_draws (P := l.prog) (w := w) (base := base) (k := 0) F b_range b_min b_len b_abs b_int)
  have cA := kal_of D__law_at (fun f fd F => ok_at (P := l.prog) (w := w) (base := base) (k := 0) F b_len b_int)
  have cI := kal_of D__law_is_integer (fun f fd F => ok_isI (P := l.prog) (w := w) (base := base) (k := 0) F b_isinstance b_int b_bool)
  have cM := kal_of D__law_mix (fun f fd F => ok_mix (P := l.prog) (w := w) (base := base) (k := 0) F b_len b_int)
  have cP := kal_of D__law_price (fun f fd F => ok_price F cM b_int)
  have cN := kal_of D__law_net (fun f fd F => ok_net F cM cP b_range)
  have cW := kal_of D__law_walk (fun f fd F => ok_walk F cM b_len b_range)
  have cS := kal_of D__law_sum (fun f fd F => ok_sum (P := l.prog) (w := w) (base := base) (k := 0) F b_len b_range)
  exact ok_law F_law cD cN cW cA cR cS cI b_len b_list
end Ovc
open PySem PySem.W PyProof.Rows
set_option maxHeartbeats 0 in
theorem PySem.Challenge.cw_overpasses_k01_sums_of_roads_holds : PySem.Challenge.rw_overpasses_k01_sums_of_roads.Holds := by
  w_on; o_law; k_head; (case hw => w_witness2)
  k_fill
  refine L2.walk_of (l := PySem.Challenge.rw_overpasses_k01_sums_of_roads) (n := 63) (k := 4) (x := "script") (CX := fun _ => L2.CX0) (sp := fun w => Ovc.spLaw _) rfl (by decide) rfl ⟨rfl, by decide, by decide⟩ (fun w h Y => PySem.W.kIn_of Y) ?F (fun _ _ a ns hl _ hS => ⟨a, ns, rfl, hS, hl, fun _ => rfl⟩) (fun _ _ _ _ _ h => h)
  case F =>
    intro w mg fa h KX G hmg
    refine' Ovc.all_mk KX G hmg ?a0 ?l0 ?c0 ?k0 ?a1 ?l1 ?c1 ?k1 ?a2 ?l2 ?c2 ?k2 ?a3 ?l3 ?c3 ?k3 ?a4 ?l4 ?c4 ?k4 ?a5 ?l5 ?c5 ?k5 ?a6 ?l6 ?c6 ?k6 ?a7 ?l7 ?c7 ?k7 ?a8 ?l8 ?c8 ?k8 ?a9 ?l9 ?c9 ?k9 ?a10 ?l10 ?c10 ?k10 ?z0 ?z1 ?z2 ?z3 ?z4 ?z5 ?z6 ?z7 ?z8
    (case a0 => k_is)
    (case l0 => k_is)
    (case c0 => k_is)
    (case k0 => k_is)
    (case a1 => k_is)
    (case l1 => k_is)
    (case c1 => k_is)
    (case k1 => k_is)
    (case a2 => k_is)
    (case l2 => k_is)
    (case c2 => k_is)
    (case k2 => k_is)
    (case a3 => k_is)
    (case l3 => k_is)
    (case c3 => k_is)
    (case k3 => k_is)
    (case a4 => k_is)
    (case l4 => k_is)
    (case c4 => k_is)
    (case k4 => k_is)
    (case a5 => k_is)
    (case l5 => k_is)
    (case c5 => k_is)
    (case k5 => k_is)
    (case a6 => k_is)
    (case l6 => k_is)
    (case c6 => k_is)
    (case k6 => k_is)
    (case a7 => k_is)
    (case l7 => k_is)
    (case c7 => k_is)
    (case k7 => k_is)
    (case a8 => k_is)
    (case l8 => k_is)
    (case c8 => k_is)
    (case k8 => k_is)
    (case a9 => k_is)
    (case l9 => k_is)
    (case c9 => k_is)
    (case k9 => k_is)
    (case a10 => k_is)
    (case l10 => k_is)
    (case c10 => k_is)
    (case k10 => k_is)
    (case z0 => k_is)
    (case z1 => k_is)
    (case z2 => k_is)
    (case z3 => k_is)
    (case z4 => k_is)
    (case z5 => k_is)
    (case z6 => k_is)
    (case z7 => k_is)
    (case z8 => k_is)
