import PyProof.Rows.All
import Wide.All
import OpenK.AllK
import Wide.FinOn
import PySem.Challenge.RW_overpasses_k08_errors_are_apart
import KE.KExcIs
import HandS.Base
import HandS.Call
import HandS.List
import HandS.Comp
import HandS.Dict
import HandS.Ends
import HandS.Iter
import HandS.Text
import HandS.Words
import HandS.Evl
import HandS.IsInst
import HandS.Style
import HandS.Exc
import HandS.TryOnly
import HandS.TryMany
import HandS.ExcOwn
import HandS.WordsExc
import HandS.ExcValue
import HandS.ExcIs
set_option Elab.async false
set_option linter.all false
set_option maxRecDepth 100000
set_option maxHeartbeats 2000000
namespace Ovc
open PySem PySem.Spec PyProof.Rows L2
def topS (i : Nat) : Stmt := PySem.Challenge.pw_overpasses_k08_errors_are_apart.main.body.getD i (.Pass ⟨0, 0, 0, 0⟩)
/-! ### heaps -/
theorem same_upd {H : Hp} {p : Addr} {o : HO} (h : H p = none) : Same H (upd H p o) := fun b x e => by
  rw [upd_ne (ne_of_none e h)]
  exact e
theorem same_upd' {G H : Hp} {p : Addr} {o : HO} (s : Same G H) (h : G p = none) : Same G (upd H p o) := fun b x e => by
  rw [upd_ne (ne_of_none e h)]
  exact s b x e
/-- all of H but what stands at o -/
def but (H : Hp) (o : Addr) : Hp := fun b => if b = o then none else H b
theorem but_at {H : Hp} {o : Addr} : but H o o = none := if_pos rfl
theorem but_ne {H : Hp} {o b : Addr} (h : b ≠ o) : but H o b = H b := if_neg h
theorem but_same {H : Hp} {o : Addr} : Same (but H o) H := fun b x e => by
  by_cases h : b = o
  · rw [h, but_at] at e
    cases e
  · rw [but_ne h] at e
    exact e
theorem same_but {G H : Hp} {o : Addr} (s : Same G H) (n : G o = none) : Same G (but H o) := fun b x e => by
  rw [but_ne (ne_of_none e n)]
  exact s b x e
theorem but_mono {H H' : Hp} {o : Addr} (s : Same H H') : Same (but H o) (but H' o) := fun b x e => by
  by_cases h : b = o
  · rw [h, but_at] at e
    cases e
  · rw [but_ne h] at e ⊢
    exact s b x e
theorem but_upd {H : Hp} {o : Addr} {u : HO} : but (upd H o u) o = but H o := by
  funext b
  by_cases h : b = o
  · rw [h, but_at, but_at]
  · rw [but_ne h, but_ne h, upd_ne h]
/-- a store at o, seen from what stands beside it -/
theorem but_upd_same {H : Hp} {o : Addr} {u : HO} : Same (but H o) (upd H o u) := fun b x e => by
  by_cases h : b = o
  · rw [h, but_at] at e
    cases e
  · rw [but_ne h] at e
    rw [upd_ne h]
    exact e
theorem seqT {K : PySem.W.Frag} {H H' : Hp} {a : Addr} {xs : List V} (e : Same H H') (h : SqT K H a xs) : SqT K H' a xs := by
  rcases h with (h | ⟨o, h⟩) | h
  · exact .inl (.inl (e _ _ h))
  · exact .inl (.inr ⟨o, e _ _ h⟩)
  · exact .inr h
mutual
theorem dpS {K : PySem.W.Frag} {H H' : Hp} (s : Same H H') : ∀ (d : PyData) (v : V), Dp K H v d → Dp K H' v d
  | .none, _, h => by
    cases h
    exact .non
  | .bool b, _, h => by
    cases h
    exact .bl b
  | .int i, _, h => by
    cases h
    exact .int i
  | .str x, _, h => by
    cases h
    exact .str x
  | .list ds, _, h => by
    cases h with
    | lst hs ha => exact .lst (s.seq hs) (dpSAll s ds _ ha)
  | .tuple ds, _, h => by
    cases h with
    | tup hs ha => exact .tup (seqT s hs) (dpSAll s ds _ ha)
  | .dict _, _, h => by cases h
theorem dpSAll {K : PySem.W.Frag} {H H' : Hp} (s : Same H H') : ∀ (ds : List PyData) (vs : List V), DpAll K H vs ds → DpAll K H' vs ds
  | [], _, h => by
    cases h
    exact .nil
  | d :: ds, _, h => by
    cases h with
    | cons h1 h2 => exact .cons (dpS s d _ h1) (dpSAll s ds _ h2)
end
theorem Dp.to {K : PySem.W.Frag} {H H' : Hp} {v : V} {d : PyData} (h : Dp K H v d) (s : Same H H') : Dp K H' v d := dpS s d v h
theorem DpAll.to {K : PySem.W.Frag} {H H' : Hp} {vs : List V} {ds : List PyData} (h : DpAll K H vs ds) (s : Same H H') : DpAll K H' vs ds := dpSAll s ds vs h
theorem DpAll.len {K : PySem.W.Frag} {H : Hp} : ∀ {vs : List V} {ds : List PyData}, DpAll K H vs ds → vs.length = ds.length
  | _, _, .nil => rfl
  | _, _, .cons _ t => by
    rw [List.length_cons, List.length_cons, DpAll.len t]
theorem DpAll.get {K : PySem.W.Frag} {H : Hp} : ∀ {vs : List V} {ds : List PyData} {i : Nat} {d : PyData}, DpAll K H vs ds → ds[i]? = some d → ∃ v, vs[i]? = some v ∧ Dp K H v d
  | _, _, i, d, .nil, e => by simp at e
  | _, _, 0, d, .cons h _, e => by
    have e' := Option.some.inj e
    subst e'
    exact ⟨_, rfl, h⟩
  | _, _, i + 1, d, .cons _ t, e => DpAll.get (i := i) t e
theorem DpAll.app {K : PySem.W.Frag} {H : Hp} : ∀ {vs ws : List V} {ds es : List PyData}, DpAll K H vs ds → DpAll K H ws es → DpAll K H (vs ++ ws) (ds ++ es)
  | _, _, _, _, .nil, t => t
  | _, _, _, _, .cons h r, t => .cons h (DpAll.app r t)
theorem DpAll.take {K : PySem.W.Frag} {H : Hp} : ∀ {vs : List V} {ds : List PyData} (n : Nat), DpAll K H vs ds → DpAll K H (vs.take n) (ds.take n)
  | _, _, 0, _ => .nil
  | _, _, _ + 1, .nil => .nil
  | _, _, n + 1, .cons h t => .cons h (DpAll.take n t)
theorem DpAll.drop {K : PySem.W.Frag} {H : Hp} : ∀ {vs : List V} {ds : List PyData} (n : Nat), DpAll K H vs ds → DpAll K H (vs.drop n) (ds.drop n)
  | _, _, 0, h => h
  | _, _, _ + 1, .nil => .nil
  | _, _, n + 1, .cons _ t => DpAll.drop n t
theorem DpAll.one {K : PySem.W.Frag} {H : Hp} {v : V} {d : PyData} (h : Dp K H v d) : DpAll K H [v] [d] := .cons h .nil
theorem Dp.int_inv {K : PySem.W.Frag} {H : Hp} {v : V} {i : Int} (h : Dp K H v (.int i)) : v = .int i := by
  cases h
  rfl
theorem DpAll.ints {K : PySem.W.Frag} {H : Hp} : ∀ ns : List Int, DpAll K H (ns.map V.int) (ns.map PyData.int)
  | [] => .nil
  | n :: ns => .cons (.int n) (DpAll.ints ns)
theorem DpAll.ints_inv {K : PySem.W.Frag} {H : Hp} : ∀ {ns : List Int} {vs : List V}, DpAll K H vs (ns.map PyData.int) → vs = ns.map V.int
  | [], _, h => by
    cases h
    rfl
  | n :: ns, _, h => by
    cases h with
    | cons h1 h2 =>
      rw [Dp.int_inv h1, DpAll.ints_inv h2]
      rfl
theorem Dp.lst_inv {K : PySem.W.Frag} {H : Hp} {v : V} {ds : List PyData} (h : Dp K H v (.list ds)) : ∃ a xs, v = .ref a ∧ SqL K H a xs ∧ DpAll K H xs ds := by
  cases h with
  | lst hs ha => exact ⟨_, _, rfl, hs, ha⟩
theorem Dp.tup_inv {K : PySem.W.Frag} {H : Hp} {v : V} {ds : List PyData} (h : Dp K H v (.tuple ds)) : ∃ a xs, v = .ref a ∧ SqT K H a xs ∧ DpAll K H xs ds := by
  cases h with
  | tup hs ha => exact ⟨_, _, rfl, hs, ha⟩
/-! ### an int or None -/
def oV : Option Int → V
  | none => .non
  | some i => .int i
def oD : Option Int → PyData
  | none => .none
  | some i => .int i
theorem Dp.o {K : PySem.W.Frag} {H : Hp} : ∀ o : Option Int, Dp K H (oV o) (oD o)
  | none => .non
  | some i => .int i
theorem Dp.o_inv {K : PySem.W.Frag} {H : Hp} {v : V} : ∀ {o : Option Int}, Dp K H v (oD o) → v = oV o
  | none, h => by
    cases h
    rfl
  | some i, h => by
    cases h
    rfl
theorem oV_non {o : Option Int} : decide (oV o = .non) = o.isNone := by
  cases o <;> rfl
theorem eqv_o : ∀ a b : Option Int, PyData.eqv (oD a) (oD b) = decide (a = b)
  | none, none => by rfl
  | none, some _ => by rfl
  | some _, none => by rfl
  | some a, some b => by
    show (a == b) = _
    by_cases h : a = b
    · subst h
      rw [decide_eq_true rfl]
      exact beq_self_eq_true a
    · rw [decide_eq_false (fun e => h (Option.some.inj e))]
      exact beq_eq_false_iff_ne.mpr h
theorem shaped_o (a : Option Int) : SeqAt.shaped (oD a) = true := by
  cases a <;> rfl
/-! ### links and nets -/
structure Lnk where
  a : Int
  b : Int
  t : Option Int
  k : Option Int
structure Net where
  n : Int
  ls : List Lnk
def lnkV (l : Lnk) : List V := [.int l.a, .int l.b, oV l.t, oV l.k]
def lnkD (l : Lnk) : PyData := .tuple [.int l.a, .int l.b, oD l.t, oD l.k]
def netD (N : Net) : PyData := .tuple [.int N.n, .list (N.ls.map lnkD)]
theorem Dp.lnk_inv {K : PySem.W.Frag} {H : Hp} {v : V} {l : Lnk} (h : Dp K H v (lnkD l)) : ∃ a, v = .ref a ∧ SqT K H a (lnkV l) := by
  obtain ⟨a, xs, rfl, hs, ha⟩ := Dp.tup_inv h
  cases ha with
  | cons h1 r1 =>
    cases r1 with
    | cons h2 r2 =>
      cases r2 with
      | cons h3 r3 =>
        cases r3 with
        | cons h4 r4 =>
          cases r4
          rw [Dp.int_inv h1, Dp.int_inv h2, Dp.o_inv h3, Dp.o_inv h4] at hs
          exact ⟨a, rfl, hs⟩
theorem Dp.lnk {K : PySem.W.Frag} {H : Hp} {a : Addr} {l : Lnk} (h : SqT K H a (lnkV l)) : Dp K H (.ref a) (lnkD l) :=
  .tup h (.cons (.int _) (.cons (.int _) (.cons (Dp.o _) (.cons (Dp.o _) .nil))))
theorem Dp.net_inv {K : PySem.W.Frag} {H : Hp} {v : V} {N : Net} (h : Dp K H v (netD N)) : ∃ p q xs, v = .ref p ∧ SqT K H p [.int N.n, .ref q] ∧ SqL K H q xs ∧ DpAll K H xs (N.ls.map lnkD) := by
  obtain ⟨a, xs, rfl, hs, ha⟩ := Dp.tup_inv h
  cases ha with
  | cons h1 r1 =>
    cases r1 with
    | cons h2 r2 =>
      cases r2
      obtain ⟨q, ys, rfl, hl, hy⟩ := Dp.lst_inv h2
      rw [Dp.int_inv h1] at hs
      exact ⟨a, q, ys, rfl, hs, hl, hy⟩
theorem Dp.net {K : PySem.W.Frag} {H : Hp} {p q : Addr} {xs : List V} {N : Net} (h : SqT K H p [.int N.n, .ref q]) (hq : SqL K H q xs) (hx : DpAll K H xs (N.ls.map lnkD)) : Dp K H (.ref p) (netD N) :=
  .tup h (.cons (.int _) (.cons (.lst hq hx) .nil))
/-! ### pure expressions: what they evaluate to, the heap as it is -/
def Vl (te : TE) (σ : L2.St) (H : Hp) (v : V) : Prop := ∀ Q : VK, Q v H → te σ H Q
def An (t : TT) (σ : L2.St) (H : Hp) (b : Bool) : Prop := ∀ Q : Bool → Hp → Prop, Q b H → t σ H Q
def Va (ta : TA) (σ : L2.St) (H : Hp) (vs : List V) : Prop := ∀ Q : List V → Hp → Prop, Q vs H → ta σ H Q
section
variable {K : PySem.W.Frag} {σ : L2.St} {H : Hp} {i : Nat} {v x y z : V} {ta tb te tv : TE} {b : Bool} {a : Addr} {t u c : TT} {tr : TA} {D : Ends} {tz tw : TS}
theorem va_nil : Va tNil σ H [] := fun _ q => q
theorem va_cons {vs : List V} (h : Vl ta σ H x) (hr : Va tr σ H vs) : Va (tCons ta tr) σ H (x :: vs) := fun Q q => h _ (hr _ q)
theorem vl_var (h : σ[i]? = some (some v)) : Vl (tVar i) σ H v := fun _ q => ⟨v, h, q⟩
theorem vl_c : Vl (tC v) σ H v := fun _ q => q
theorem vl_op {r : R2} (ha : Vl ta σ H x) (hb : Vl tb σ H y) (hr : ∀ Q : VK, Q z H → r x y H Q) : Vl (tOp r ta tb) σ H z := fun Q q => ha _ (hb _ (hr _ q))
theorem vl_I0 {g : Int → Int → V} {p q : Int} (ha : Vl ta σ H (.int p)) (hb : Vl tb σ H (.int q)) : Vl (tOp (rI0 g) ta tb) σ H (g p q) := vl_op ha hb fun _ k => ⟨p, q, rfl, rfl, k⟩
theorem vl_I {C : Int → Int → Prop} {g : Int → Int → V} {p q : Int} (ha : Vl ta σ H (.int p)) (hb : Vl tb σ H (.int q)) (hc : C p q) : Vl (tOp (rI C g) ta tb) σ H (g p q) := vl_op ha hb fun _ k => ⟨p, q, rfl, rfl, hc, k⟩
theorem vl_un {r : V → Hp → VK → Prop} (ha : Vl ta σ H x) (hr : ∀ Q : VK, Q z H → r x H Q) : Vl (tUn r ta) σ H z := fun Q q => ha _ (hr _ q)
theorem vl_neg {p : Int} (ha : Vl ta σ H (.int p)) : Vl (tUn (rU fun i => .int (-i)) ta) σ H (.int (-p)) := vl_un ha fun _ k => ⟨p, rfl, k⟩
theorem vl_cb {r : List V → Hp → VK → Prop} {vs : List V} (h : Va tr σ H vs) (hr : ∀ Q : VK, Q z H → r vs H Q) : Vl (tCB r tr) σ H z := fun Q q => h _ (hr _ q)
theorem vl_int1 {p : Int} (ha : Vl ta σ H (.int p)) : Vl (tCB (fun xs H Q => (∃ i, xs = [V.int i] ∧ Q (V.int i) H) ∨ ∃ k, xs = [V.bl k] ∧ Q (V.int (if k then 1 else 0)) H) (tCons ta tNil)) σ H (.int p) :=
  vl_cb (va_cons ha va_nil) fun _ k => .inl ⟨p, rfl, k⟩
theorem vl_int1b {k : Bool} (ha : Vl ta σ H (.bl k)) : Vl (tCB (fun xs H Q => (∃ i, xs = [V.int i] ∧ Q (V.int i) H) ∨ ∃ k, xs = [V.bl k] ∧ Q (V.int (if k then 1 else 0)) H) (tCons ta tNil)) σ H (.int (if k then 1 else 0)) :=
  vl_cb (va_cons ha va_nil) fun _ q => .inr ⟨k, rfl, q⟩
theorem vl_abs {p : Int} (ha : Vl ta σ H (.int p)) : Vl (tCB (fun xs H Q => ∃ i, xs = [V.int i] ∧ Q (V.int (if i < 0 then -i else i)) H) (tCons ta tNil)) σ H (.int (if p < 0 then -p else p)) :=
  vl_cb (va_cons ha va_nil) fun _ k => ⟨p, rfl, k⟩
theorem vl_min2 {p q : Int} (ha : Vl ta σ H (.int p)) (hb : Vl tb σ H (.int q)) : Vl (tCB (fun xs H Q => ∃ i j, xs = [V.int i, V.int j] ∧ Q (V.int (if j < i then j else i)) H) (tCons ta (tCons tb tNil))) σ H (.int (if q < p then q else p)) :=
  vl_cb (va_cons ha (va_cons hb va_nil)) fun _ k => ⟨p, q, rfl, k⟩
theorem vl_max2 {p q : Int} (ha : Vl ta σ H (.int p)) (hb : Vl tb σ H (.int q)) : Vl (tCB (fun xs H Q => ∃ i j, xs = [V.int i, V.int j] ∧ Q (V.int (if j > i then j else i)) H) (tCons ta (tCons tb tNil))) σ H (.int (if q > p then q else p)) :=
  vl_cb (va_cons ha (va_cons hb va_nil)) fun _ k => ⟨p, q, rfl, k⟩
theorem vl_lenL {xs : List V} (ha : Vl ta σ H (.ref a)) (h : SqL K H a xs) : Vl (tCB (fun xs H Q => ∃ p ys, xs = [V.ref p] ∧ (SqL K H p ys ∨ SqT K H p ys) ∧ Q (V.int ys.length) H) (tCons ta tNil)) σ H (.int xs.length) :=
  vl_cb (va_cons ha va_nil) fun _ k => ⟨a, xs, rfl, .inl h, k⟩
theorem vl_ixL {xs : List V} {p : Int} (ha : Vl ta σ H (.ref a)) (hb : Vl tb σ H (.int p)) (h : SqL K H a xs) (hg : atI xs p = some z) : Vl (tOp (rIxL K) ta tb) σ H z :=
  vl_op ha hb fun _ k => ⟨a, xs, p, z, rfl, rfl, h, hg, k⟩
theorem vl_ixT {xs : List V} {p : Int} (ha : Vl ta σ H (.ref a)) (hb : Vl tb σ H (.int p)) (h : SqT K H a xs) (hg : atI xs p = some z) : Vl (tOp (rIxT K) ta tb) σ H z :=
  vl_op ha hb fun _ k => ⟨a, xs, p, z, rfl, rfl, h, hg, k⟩
theorem vl_eq (ha : Vl ta σ H x) (hb : Vl tb σ H y) (hs : scal x y = true) : Vl (tOp rEq ta tb) σ H (.bl (decide (x = y))) := vl_op ha hb fun _ k => ⟨hs, k⟩
theorem vl_ne (ha : Vl ta σ H x) (hb : Vl tb σ H y) (hs : scal x y = true) : Vl (tOp rNe ta tb) σ H (.bl (!decide (x = y))) := vl_op ha hb fun _ k => ⟨hs, k⟩
theorem vl_isN (ha : Vl ta σ H x) : Vl (tOp (fun x y H Q => y = V.non ∧ Q (V.bl (decide (x = V.non))) H) ta (tC .non)) σ H (.bl (decide (x = .non))) := vl_op ha vl_c fun _ k => ⟨rfl, k⟩
theorem vl_notN (ha : Vl ta σ H x) : Vl (tOp (fun x y H Q => y = V.non ∧ Q (V.bl (!decide (x = V.non))) H) ta (tC .non)) σ H (.bl (!decide (x = .non))) := vl_op ha vl_c fun _ k => ⟨rfl, k⟩
theorem vl_chain {r r' : R2} {tc : TE} {w : V} {k m : Bool} (ha : Vl ta σ H x) (hb : Vl tb σ H y) (hr : ∀ Q : VK, Q (.bl k) H → r x y H Q) (hc : Vl tc σ H w) (hr' : ∀ Q : VK, Q (.bl m) H → r' y w H Q) : Vl (tChain r r' ta tb tc) σ H (.bl (k && m)) := fun Q q =>
  ha _ (hb _ (hr _ ⟨k, rfl, by
    cases k with
    | true => exact iteT (hc _ (hr' _ q))
    | false => exact iteF q⟩))
theorem vl_chainI {g g' : Int → Int → Bool} {tc : TE} {p q s : Int} (ha : Vl ta σ H (.int p)) (hb : Vl tb σ H (.int q)) (hc : Vl tc σ H (.int s)) :
    Vl (tChain (rI0 fun i j => .bl (g i j)) (rI0 fun i j => .bl (g' i j)) ta tb tc) σ H (.bl (g p q && g' q s)) :=
  vl_chain ha hb (fun _ k => ⟨p, q, rfl, rfl, k⟩) hc (fun _ k => ⟨q, s, rfl, rfl, k⟩)
theorem vl_if {b : Bool} (h : An t σ H b) (h1 : b = true → Vl ta σ H v) (h2 : b = false → Vl tb σ H v) : Vl (tIf t ta tb) σ H v := fun Q q => h _ (by
  cases b with
  | true => exact iteT (h1 rfl _ q)
  | false => exact iteF (h2 rfl _ q))
theorem an_test {b : Bool} (h : Vl te σ H (.bl b)) : An (tTest te) σ H b := fun Q q => h _ ⟨b, rfl, q⟩
theorem an_B {b : Bool} (h : Vl te σ H (.bl b)) : An (tB te) σ H b := fun Q q => h _ ⟨b, rfl, q⟩
theorem an_not (h : An t σ H b) : An (tNot t) σ H (!b) := fun Q q => h _ q
theorem an_and {k m : Bool} (h1 : An t σ H k) (h2 : k = true → An u σ H m) : An (tAnd t u) σ H (k && m) := fun Q q => h1 _ (by
  cases k with
  | true => exact iteT (h2 rfl _ q)
  | false => exact iteF q)
theorem an_or {k m : Bool} (h1 : An t σ H k) (h2 : k = false → An u σ H m) : An (tOr t u) σ H (k || m) := fun Q q => h1 _ (by
  cases k with
  | true => exact iteT q
  | false => exact iteF (h2 rfl _ q))
theorem An.is {k m : Bool} (h : An t σ H k) (e : k = m) : An t σ H m := e ▸ h
theorem Vl.is {v w : V} (h : Vl te σ H v) (e : v = w) : Vl te σ H w := e ▸ h
/-! ### statements over them -/
theorem g_seq (h : tz { D with nx := tw D } σ H) : tSeq tz tw D σ H := h
theorem g_asg {i : Nat} (h : Vl te σ H v) (k : D.nx (σ.set i (some v)) H) : tAsg te (gName i) D σ H := h _ k
theorem g_ret (h : Vl te σ H v) (k : D.rt v H) : tRet te D σ H := h _ k
theorem g_if {b : Bool} (h : An t σ H b) (h1 : b = true → tz D σ H) (h2 : b = false → tw D σ H) : tIfS t tz tw D σ H := h _ (by
  cases b with
  | true => exact iteT (h1 rfl)
  | false => exact iteF (h2 rfl))
theorem g_app {l : Addr} {xs : List V} (ho : Vl ta σ H (.ref l)) (hl : H l = some (.lst xs)) (h : Vl te σ H v) (hz : xs.length < sizeLine) (k : D.nx σ (upd H l (.lst (xs ++ [v])))) :
    tDrop (tBM K "list" rAppend ta (tCons te tNil)) D σ H := ho _ ⟨.inl ⟨rfl, _, .inl (.inl hl)⟩, h _ ⟨l, xs, v, rfl, rfl, hl, hz, k⟩⟩
theorem at_int {ds : List Int} {k : Int} (h0 : 0 ≤ k) (h1 : k < (ds.length : Int)) : ∃ d, atI (ds.map V.int) k = some (.int d) ∧ ds[k.toNat]? = some d := by
  have hj : k.toNat < ds.length := by omega
  have g : (ds.map V.int)[k.toNat]? = some (.int ds[k.toNat]) := by
    rw [List.getElem?_map, List.getElem?_eq_getElem hj]
    rfl
  have g2 := atI_nat g
  rw [show ((k.toNat : Nat) : Int) = k by omega] at g2
  exact ⟨ds[k.toNat], g2, List.getElem?_eq_getElem hj⟩
/-! ### loops -/
theorem g_forR {j : Nat} {n : Int} (h : Va tr σ H [.int n]) (hn : -(2 ^ 62) ≤ n ∧ n < 2 ^ 62) (Pv : Nat → L2.St → Hp → Prop) (h0 : Pv 0 σ H)
    (hs : ∀ (i : Nat) σ H, (i : Int) < n → Pv i σ H → tz { D with nx := Pv (i + 1), ct := Pv (i + 1), bk := D.nx } (σ.set j (some (.int i))) H) (hd : ∀ σ H, Pv n.toNat σ H → D.nx σ H) :
    tFor (iRng1 tr) (gName j) tz D σ H := h _ ⟨n, rfl, hn.1, hn.2, for_range (lo := 0) (n := n.toNat) Pv h0 (fun i σ H hi p => by
      show tz _ (σ.set j (some (.int (0 + i)))) H
      rw [Int.zero_add]
      exact hs i σ H (by omega) p) hd⟩
theorem g_forR2 {j : Nat} {lo n : Int} (h : Va tr σ H [.int lo, .int n]) (hn : -(2 ^ 62) ≤ lo ∧ lo < 2 ^ 62 ∧ -(2 ^ 62) ≤ n ∧ n < 2 ^ 62) (Pv : Nat → L2.St → Hp → Prop) (h0 : Pv 0 σ H)
    (hs : ∀ (i : Nat) σ H, lo + (i : Int) < n → Pv i σ H → tz { D with nx := Pv (i + 1), ct := Pv (i + 1), bk := D.nx } (σ.set j (some (.int (lo + i)))) H) (hd : ∀ σ H, Pv (n - lo).toNat σ H → D.nx σ H) :
    tFor (iRng2 tr) (gName j) tz D σ H := h _ ⟨lo, n, rfl, hn, for_range (lo := lo) (n := (n - lo).toNat) Pv h0 (fun i σ H hi p => hs i σ H (by omega) p) hd⟩
theorem g_forL {j : Nat} {xs : List V} {tl : TE} (h : Vl tl σ H (.ref a)) (hx : SqL K H a xs) (Pv : Nat → L2.St → Hp → Prop) (h0 : Pv 0 σ H) (hl : ∀ i σ' H', Pv i σ' H' → SqL K H' a xs)
    (hs : ∀ (i : Nat) x σ H, xs[i]? = some x → Pv i σ H → tz { D with nx := Pv (i + 1), ct := Pv (i + 1), bk := D.nx } (σ.set j (some x)) H) (hd : ∀ σ H, Pv xs.length σ H → D.nx σ H) :
    tFor (iList K tl) (gName j) tz D σ H := h _ ⟨a, rfl, ⟨_, hx⟩, for_list (xs := xs) Pv h0 (fun i σ H _ p => hl i σ H p) hs hd⟩
/-- for a, b, there, back in links -/
theorem g_forLnk {j1 j2 j3 j4 : Nat} {Hb : Hp} {xs : List V} {ls : List Lnk} {tl : TE} (h : Vl tl σ H (.ref a)) (hx : SqL K Hb a xs) (hL : DpAll K Hb xs (ls.map lnkD)) (hb : Same Hb H) (Pv : Nat → L2.St → Hp → Prop) (h0 : Pv 0 σ H) (hl : ∀ i σ' H', Pv i σ' H' → Same Hb H')
    (hs : ∀ (i : Nat) l σ H, ls[i]? = some l → Pv i σ H → tz { D with nx := Pv (i + 1), ct := Pv (i + 1), bk := D.nx } ((((σ.set j1 (some (.int l.a))).set j2 (some (.int l.b))).set j3 (some (oV l.t))).set j4 (some (oV l.k))) H) (hd : ∀ σ H, Pv ls.length σ H → D.nx σ H) :
    tFor (iList K tl) (gTup K 4 (gCons (gName j1) (gCons (gName j2) (gCons (gName j3) (gCons (gName j4) gNil))))) tz D σ H := h _ ⟨a, rfl, ⟨_, hb.seq hx⟩, for_list (xs := xs) Pv h0 (fun i σ H _ p => (hl i σ H p).seq hx) (fun i x σ H hi p => by
      have e := DpAll.len hL
      rw [List.length_map] at e
      have hlt : i < xs.length := by
        by_cases hlt : i < xs.length
        · exact hlt
        · rw [List.getElem?_eq_none (by omega)] at hi
          cases hi
      have hg : ls[i]? = some ls[i] := List.getElem?_eq_getElem (by omega)
      obtain ⟨v, hv, dv⟩ := DpAll.get (i := i) (d := lnkD ls[i]) hL (by
        rw [List.getElem?_map, hg]
        rfl)
      cases hi.symm.trans hv
      obtain ⟨t, rfl, ht⟩ := Dp.lnk_inv dv
      exact ⟨t, _, rfl, seqT (hl i σ H p) ht, rfl, _, _, rfl, _, _, rfl, _, _, rfl, _, _, rfl, rfl, hs i _ σ H hg p⟩) (fun σ H p => by
      have e := DpAll.len hL
      rw [List.length_map] at e
      rw [e] at p
      exact hd σ H p)⟩
/-! ### the same with what follows -/
theorem q_asg {i : Nat} (h : Vl te σ H v) (k : tw D (σ.set i (some v)) H) : tSeq (tAsg te (gName i)) tw D σ H := h _ k
theorem q_if {b : Bool} {tu : TS} (h : An t σ H b) (h1 : b = true → tz { D with nx := tw D } σ H) (h2 : b = false → tu { D with nx := tw D } σ H) : tSeq (tIfS t tz tu) tw D σ H := g_if (D := { D with nx := tw D }) h h1 h2
/-- an if without else whose body leaves the def (or the turn) -/
theorem q_when {b : Bool} (h : An t σ H b) (h1 : b = true → tz { D with nx := tw D } σ H) (h2 : b = false → tw D σ H) : tSeq (tIfS t tz tNext) tw D σ H := g_if (D := { D with nx := tw D }) h h1 h2
theorem g_when {b : Bool} (h : An t σ H b) (h1 : b = true → tz D σ H) (h2 : b = false → D.nx σ H) : tIfS t tz tNext D σ H := g_if h h1 h2
theorem q_app {l : Addr} {xs : List V} (ho : Vl ta σ H (.ref l)) (hl : H l = some (.lst xs)) (h : Vl te σ H v) (hz : xs.length < sizeLine) (k : tw D σ (upd H l (.lst (xs ++ [v])))) :
    tSeq (tDrop (tBM K "list" rAppend ta (tCons te tNil))) tw D σ H := g_app (D := { D with nx := tw D }) ho hl h hz k
theorem q_forR {j : Nat} {n : Int} (h : Va tr σ H [.int n]) (hn : -(2 ^ 62) ≤ n ∧ n < 2 ^ 62) (Pv : Nat → L2.St → Hp → Prop) (h0 : Pv 0 σ H)
    (hs : ∀ (i : Nat) σ H, (i : Int) < n → Pv i σ H → tz { D with nx := Pv (i + 1), ct := Pv (i + 1), bk := tw D } (σ.set j (some (.int i))) H) (hd : ∀ σ H, Pv n.toNat σ H → tw D σ H) :
    tSeq (tFor (iRng1 tr) (gName j) tz) tw D σ H := g_forR (D := { D with nx := tw D }) h hn Pv h0 hs hd
theorem q_forR2 {j : Nat} {lo n : Int} (h : Va tr σ H [.int lo, .int n]) (hn : -(2 ^ 62) ≤ lo ∧ lo < 2 ^ 62 ∧ -(2 ^ 62) ≤ n ∧ n < 2 ^ 62) (Pv : Nat → L2.St → Hp → Prop) (h0 : Pv 0 σ H)
    (hs : ∀ (i : Nat) σ H, lo + (i : Int) < n → Pv i σ H → tz { D with nx := Pv (i + 1), ct := Pv (i + 1), bk := tw D } (σ.set j (some (.int (lo + i)))) H) (hd : ∀ σ H, Pv (n - lo).toNat σ H → tw D σ H) :
    tSeq (tFor (iRng2 tr) (gName j) tz) tw D σ H := g_forR2 (D := { D with nx := tw D }) h hn Pv h0 hs hd
theorem q_forL {j : Nat} {xs : List V} {tl : TE} (h : Vl tl σ H (.ref a)) (hx : SqL K H a xs) (Pv : Nat → L2.St → Hp → Prop) (h0 : Pv 0 σ H) (hl : ∀ i σ' H', Pv i σ' H' → SqL K H' a xs)
    (hs : ∀ (i : Nat) x σ H, xs[i]? = some x → Pv i σ H → tz { D with nx := Pv (i + 1), ct := Pv (i + 1), bk := tw D } (σ.set j (some x)) H) (hd : ∀ σ H, Pv xs.length σ H → tw D σ H) :
    tSeq (tFor (iList K tl) (gName j) tz) tw D σ H := g_forL (D := { D with nx := tw D }) h hx Pv h0 hl hs hd
theorem q_forLnk {j1 j2 j3 j4 : Nat} {Hb : Hp} {xs : List V} {ls : List Lnk} {tl : TE} (h : Vl tl σ H (.ref a)) (hx : SqL K Hb a xs) (hL : DpAll K Hb xs (ls.map lnkD)) (hb : Same Hb H) (Pv : Nat → L2.St → Hp → Prop) (h0 : Pv 0 σ H) (hl : ∀ i σ' H', Pv i σ' H' → Same Hb H')
    (hs : ∀ (i : Nat) l σ H, ls[i]? = some l → Pv i σ H → tz { D with nx := Pv (i + 1), ct := Pv (i + 1), bk := tw D } ((((σ.set j1 (some (.int l.a))).set j2 (some (.int l.b))).set j3 (some (oV l.t))).set j4 (some (oV l.k))) H) (hd : ∀ σ H, Pv ls.length σ H → tw D σ H) :
    tSeq (tFor (iList K tl) (gTup K 4 (gCons (gName j1) (gCons (gName j2) (gCons (gName j3) (gCons (gName j4) gNil))))) tz) tw D σ H := g_forLnk (D := { D with nx := tw D }) h hx hL hb Pv h0 hl hs hd
theorem q_asgT2 {i j : Nat} {p : Addr} (h : Vl te σ H (.ref p)) (hp : SqT K H p [x, y]) (k : tw D ((σ.set i (some x)).set j (some y)) H) : tSeq (tAsg te (gTup K 2 (gCons (gName i) (gCons (gName j) gNil)))) tw D σ H :=
  h _ ⟨p, _, rfl, hp, rfl, _, _, rfl, _, _, rfl, rfl, k⟩
theorem q_dnewT {i : Nat} (k : ∀ p, H p = none → tw D (σ.set i (some (.ref p))) (upd H p (.dT []))) : tSeq (tAsg tDNewT (gName i)) tw D σ H := k
theorem q_lnew {i : Nat} (k : ∀ p, H p = none → tw D (σ.set i (some (.ref p))) (upd H p (.lst []))) : tSeq (tAsg (tLst tNil) (gName i)) tw D σ H := ⟨Nat.zero_le _, k⟩
theorem q_dput {td ty : TE} {o : Addr} {kvs : List (List Key × V)} {y1 y2 : Int} (hv : Vl te σ H v) (ho : Vl td σ H (.ref o)) (h1 : Vl ta σ H (.int y1)) (h2 : Vl tb σ H (.int y2)) (hd : H o = some (.dT kvs)) (hl : kvs.length < sizeLine)
    (k : ∀ T, H T = none → o ≠ T → tw D σ (upd (upd H T (.tup [.int y1, .int y2])) o (.dT (putK kvs [.inl y1, .inl y2] v)))) : tSeq (sDPut td (tTup (tCons ta (tCons tb tNil))) te) tw D σ H :=
  hv _ (ho _ (h1 _ (h2 _ ⟨by show 2 ≤ sizeLine; decide, fun T nT => by
    have oT : o ≠ T := ne_of_none hd nT
    exact ⟨o, _, rfl, DPut.t (k := [.inl y1, .inl y2]) (by rw [upd_ne oT]; exact hd) upd_same hl, k T nT oT⟩⟩)))
theorem q_dgetT {i : Nat} {td : TE} {o : Addr} {kvs : List (List Key × V)} {y1 y2 : Int} (ho : Vl td σ H (.ref o)) (h1 : ∀ H, Vl ta σ H (.int y1)) (h2 : ∀ H, Vl tb σ H (.int y2)) (hd : H o = some (.dT kvs))
    (k : ∀ T, H T = none → tw D (σ.set i (some ((valV kvs [.inl y1, .inl y2]).getD .non))) (upd H T (.tup [.int y1, .int y2]))) : tSeq (tAsg (tDGet1 td (tTup (tCons ta (tCons tb tNil)))) (gName i)) tw D σ H :=
  ho _ ⟨o, rfl, .inr ⟨_, .inl hd⟩, h1 _ _ (h2 _ _ ⟨by show 2 ≤ sizeLine; decide, fun T nT => by
    have oT : o ≠ T := ne_of_none hd nT
    exact ⟨_, DGet.t (k := [.inl y1, .inl y2]) (by rw [upd_ne oT]; exact hd) upd_same, k T nT⟩⟩)⟩
theorem q_asgE {i : Nat} (h : te σ H fun v H' => tw D (σ.set i (some v)) H') : tSeq (tAsg te (gName i)) tw D σ H := h
theorem g_asgE {i : Nat} (h : te σ H fun v H' => D.nx (σ.set i (some v)) H') : tAsg te (gName i) D σ H := h
theorem q_cut {M : L2.St → Hp → Prop} (h : tz { D with nx := M } σ H) (k : ∀ σ' H', M σ' H' → tw D σ' H') : Evl.tCut tz tw D σ H := ⟨M, h, k⟩
end
/-! ### defs that may be called by their names -/
structure Df (K : PySem.W.Frag) (mg : Str → Option Value) (x : Str) (st : Stmt) (ps : List Str) : Prop where
  ex : ∃ (f : Addr) (fd : FuncData), Fun K x x st f fd ∧ mg x = some (.ref f) ∧ Binds K fd ps []
structure Kal (P : Program) (w : World) (K : PySem.W.Frag) (mg : Str → Option Value) (base : Heap) (k : Nat) (x : Str) (ps : List Str) (sp : Sp) : Prop where
  ex : ∃ (f : Addr) (fd : FuncData), FnOk P w K mg base CX0 k f fd ps sp ∧ mg x = some (.ref f) ∧ PySem.W.keepIn K (.ref f) = true ∧ Binds K fd ps []
theorem kal_of {P : Program} {w : World} {K : PySem.W.Frag} {mg : Str → Option Value} {base : Heap} {k : Nat} {x : Str} {st : Stmt} {ps : List Str} {sp : Sp} (A : Df K mg x st ps)
    (ok : ∀ f fd, Fun K x x st f fd → FnOk P w K mg base CX0 k f fd ps sp) : Kal P w K mg base k x ps sp := by
  obtain ⟨f, fd, F, g, b⟩ := A.ex
  exact ⟨f, fd, ok f fd F, g, F.kp, b⟩
theorem pe_k {X : Cx} {k j : Nat} {x : Str} {ps : List Str} {sp : Sp} {p pos : Pos} {e : Expr} {es : List Expr} {t : TA} (c : Kal X.prog X.w X.K X.mg X.base k x ps sp) (hr : Room j X.A) (hk : k ≤ j) (hg : Gl X x) (ha : PA X (e :: es) t)
    (hdb : (x == ("__debug__" : Str)) = false := by decide) (he : starEach (e :: es) X.env = (false, eval e X.env) :: starEach es X.env := by rfl) (hpl : (backTo pos (starEach es X.env)).any (·.1) = false := by rfl) :
    PE X (.Call (.Name x p) (e :: es) [] pos) (tCall sp [] E0 t) := by
  obtain ⟨f, fd, F, hm, kp, b⟩ := c.ex
  exact pe_call F (hr.mono hk) hg hm kp b .nil pass0 ha hdb he hpl
/-! ### values that are not told: ints of which P holds -/
def Vi (te : TE) (σ : L2.St) (H : Hp) (P : Int → Prop) : Prop := ∀ Q : VK, (∀ r, P r → Q (.int r) H) → te σ H Q
section
variable {K : PySem.W.Frag} {σ : L2.St} {H : Hp} {i : Nat} {ta tb te : TE} {tr : TA} {D : Ends} {tz tw tu : TS} {P P1 P2 : Int → Prop}
theorem vi_of {n : Int} (h : Vl te σ H (.int n)) : Vi te σ H (fun r => r = n) := fun _ q => h _ (q n rfl)
theorem vi_I0 {g : Int → Int → Int} (ha : Vi ta σ H P1) (hb : Vi tb σ H P2) (h : ∀ p q, P1 p → P2 q → P (g p q)) : Vi (tOp (rI0 fun i j => .int (g i j)) ta tb) σ H P := fun _ k =>
  ha _ fun p hp => hb _ fun q hq => ⟨p, q, rfl, rfl, k _ (h p q hp hq)⟩
theorem vi_call {sp : Sp} {vs : List V} (h : Va tr σ H vs) (hs : ∀ Q E, (∀ r, P r → Q (.int r) H) → sp vs H Q E) : Vi (tCall sp [] E0 tr) σ H P := fun Q q => h _ (by
  show sp (vs ++ []) H Q E0
  rw [List.append_nil]
  exact hs Q E0 q)
theorem vi_mono (h : Vi te σ H P1) (hh : ∀ r, P1 r → P r) : Vi te σ H P := fun Q q => h Q fun r hr => q r (hh r hr)
theorem g_asgI {i : Nat} (h : Vi te σ H P) (k : ∀ r, P r → D.nx (σ.set i (some (.int r))) H) : tAsg te (gName i) D σ H := h _ k
theorem q_asgI {i : Nat} (h : Vi te σ H P) (k : ∀ r, P r → tw D (σ.set i (some (.int r))) H) : tSeq (tAsg te (gName i)) tw D σ H := h _ k
theorem g_retI (h : Vi te σ H P) (k : ∀ r, P r → D.rt (.int r) H) : tRet te D σ H := h _ k
end
/-! ### data that is the same is equal -/
theorem lay_o : ∀ o : Option Int, (oD o).canLay0 = true ∧ (oD o).depth = 0
  | none => ⟨rfl, rfl⟩
  | some _ => ⟨rfl, rfl⟩
theorem lay_lnks : ∀ ls : List Lnk, PyData.canLayAll0 (ls.map lnkD) = true ∧ PyData.depthAll (ls.map lnkD) ≤ 1
  | [] => ⟨rfl, Nat.zero_le _⟩
  | l :: ls => by
    have h1 := lay_o l.t
    have h2 := lay_o l.k
    have ih := lay_lnks ls
    constructor
    · show (((true && (true && ((oD l.t).canLay0 && ((oD l.k).canLay0 && true)))) && PyData.canLayAll0 (ls.map lnkD)) = true)
      rw [h1.1, h2.1, ih.1]
      rfl
    · show max (max 0 (max 0 (max (oD l.t).depth (max (oD l.k).depth 0))) + 1) (PyData.depthAll (ls.map lnkD)) ≤ 1
      rw [h1.2, h2.2]
      have := ih.2
      simp only [Nat.max_self, Nat.zero_add]
      omega
theorem shaped_net (N : Net) : SeqAt.shaped (netD N) = true := by
  have h := lay_lnks N.ls
  show ((true && (PyData.canLayAll0 (N.ls.map lnkD) && true)) && decide (max 0 (max (PyData.depthAll (N.ls.map lnkD) + 1) 0) + 1 ≤ 64)) = true
  rw [h.1, decide_eq_true (show max 0 (max (PyData.depthAll (N.ls.map lnkD) + 1) 0) + 1 ≤ 64 by
    have := h.2
    omega)]
  rfl
theorem eqv_net (N : Net) : PyData.eqv (netD N) (netD N) = true := SeqAt.eqv_refl _ (Bool.and_eq_true_iff.mp (shaped_net N)).1
/-! ### new lists -/
def Vn (te : TE) (σ : L2.St) (H : Hp) (xs : List V) : Prop := ∀ Q : VK, (∀ p H', Same H H' → H p = none → H' p = some (.lst xs) → Q (.ref p) H') → te σ H Q
section
variable {K : PySem.W.Frag} {σ : L2.St} {H : Hp} {ta tb te : TE} {tr : TA} {xs ys : List V} {a : Addr} {D : Ends} {tw : TS}
theorem vn_lst (h : Va tr σ H xs) (hz : xs.length ≤ sizeLine) : Vn (tLst tr) σ H xs := fun Q q => h _ ⟨hz, fun p np => q p _ (same_upd np) np upd_same⟩
theorem vn_slice {tl th : TO} {lo hi : Option Int} (h : Vl te σ H (.ref a)) (hl : ∀ Q : Option Int → Hp → Prop, Q lo H → tl σ H Q) (hh : ∀ Q : Option Int → Hp → Prop, Q hi H → th σ H Q) (hx : SqL K H a xs) : Vn (tSl (rSlL K) te tl th) σ H (cutV xs lo hi) := fun Q q =>
  h _ (hl _ (hh _ ⟨a, xs, rfl, hx, fun p np => q p _ (same_upd np) np upd_same⟩))
theorem vn_rev (h : Vl te σ H (.ref a)) (hx : SqL K H a xs) : Vn (tRevL K te) σ H xs.reverse := fun Q q => h _ ⟨a, xs, rfl, hx, fun p np => q p _ (same_upd np) np upd_same⟩
theorem vn_cat (ha : Vn ta σ H xs) (hb : ∀ H', Same H H' → Vn tb σ H' ys) (hz : xs.length + ys.length ≤ sizeLine) : Vn (tOp rCat ta tb) σ H (xs ++ ys) := fun Q q => ha _ fun p H1 s1 np hp => hb H1 s1 _ fun r H2 s2 nr hr =>
  ⟨p, r, xs, ys, rfl, rfl, s2 _ _ hp, hr, hz, fun t nt => q t _ ((s1.trans s2).trans (same_upd nt)) (Same.free (s1.trans s2) nt) upd_same⟩
theorem vn_listOf (h : Vl te σ H (.ref a)) (hx : SqL K H a xs) : Vn (tCB (fun xs H Q => ∃ p ys, xs = [V.ref p] ∧ (SqL K H p ys ∨ SqT K H p ys) ∧ ∀ l, H l = none → Q (V.ref l) (upd H l (.lst ys))) (tCons te tNil)) σ H xs := fun Q q =>
  h _ ⟨a, xs, rfl, .inl hx, fun p np => q p _ (same_upd np) np upd_same⟩
theorem q_asgN {i : Nat} (h : Vn te σ H xs) (k : ∀ p H', Same H H' → H p = none → H' p = some (.lst xs) → tw D (σ.set i (some (.ref p))) H') : tSeq (tAsg te (gName i)) tw D σ H := h _ k
end
theorem cut_to {xs : List V} {n : Nat} (h : n ≤ xs.length) : cutV xs none (some (n : Int)) = xs.take n := by
  unfold cutV
  rw [HT.sIx_none, HT.sIx_nat, Nat.min_eq_left h, Nat.sub_zero, List.drop_zero]
theorem cut_from {xs : List V} {n : Nat} (h : n ≤ xs.length) : cutV xs (some (n : Int)) none = xs.drop n := by
  unfold cutV
  rw [HT.sIx_none, HT.sIx_nat, Nat.min_eq_left h]
  exact List.take_of_length_le (by rw [List.length_drop]; exact Nat.le_refl _)
/-- lists of lists of ints -/
theorem Dp.ints {K : PySem.W.Frag} {H : Hp} {p : Addr} {ns : List Int} (h : SqL K H p (ns.map V.int)) : Dp K H (.ref p) (.list (ns.map PyData.int)) := .lst h (DpAll.ints ns)
theorem Dp.ints_inv {K : PySem.W.Frag} {H : Hp} {v : V} {ns : List Int} (h : Dp K H v (.list (ns.map PyData.int))) : ∃ p, v = .ref p ∧ SqL K H p (ns.map V.int) := by
  obtain ⟨a, xs, rfl, hs, ha⟩ := Dp.lst_inv h
  rw [DpAll.ints_inv ha] at hs
  exact ⟨a, rfl, hs⟩
end Ovc
namespace PySem
namespace LowX
open PySem.W PySem.Calls PyProof.Rows PySem.HandSPX
/-! ### the text of __init__ -/
def iA (p1 p2 : Pos) : Arguments := { posonlyargs := [], args := [{ arg := "self", annotation := none, pos := p1 }, { arg := "at", annotation := none, pos := p2 }], vararg := none, kwonlyargs := [], kw_defaults := [], kwarg := none, defaults := [] }
def iB (q1 q2 q3 q4 : Pos) : List Stmt := [.Assign [.Attribute (.Name "self" q1) "at" q2] (.Name "at" q3) q4]
def iS : Scope := { kind := .function, names := [(PySem.Str.ofString "self", .local), (PySem.Str.ofString "at", .local)], isGenerator := false, isCoroutine := false, more := [] }
/-- what the written part says of Low, at C, and of its __init__, at fI -/
structure LowTxt (K : Frag) (mg : Str → Option Value) (xN : Str) (C fI : Addr) : Prop where
  gC : mg xN = some (.ref C)
  cls : ∃ nm q N bs bm sn sub ab col dd k0 k1 k2 k3 k5, K.lookup C = some (excClassObj nm q C N bs bm true sn sub ab col dd k0 k1 k2 k3 k5 "ValueError.__new__") ∧ refsVE bm = true
  sa : findIn K (.ref C) "__setattr__" = some (some (.builtin "object.__setattr__"))
  ga : findIn K (.ref C) "__getattribute__" = some (some (.builtin "BaseException.__getattribute__"))
  gg : findIn K (.ref C) "__getattr__" = some none
  noN : findIn K (.ref C) "at" = some none
  iC : findIn K (.ref C) "__init__" = some (some (.ref fI))
  tC : typeIn K (.ref fI) = some (.type "function")
  kC : keepIn K (.ref C) = true
  exC : subIn K (.ref C) (.type "BaseException") = some true
  tyC : typeIn K (.ref C) = some (.type "type")
  hdC : hasDictIn K C = true
  te : exmOne K (.ref C) (.ref C) = some true
  fn : ∃ (oc : Value) (od : Option Addr) (doc pm : Value) (an : Option Addr) (cdv ct : Value) (osl : Array (Option Value)) (p1 p2 q1 q2 q3 q4 : Pos),
    K.lookup fI = some ⟨oc, od, .func (fnOf "__init__" "OverpassesError.__init__" (iA p1 p2) (iB q1 q2 q3 q4) iS .none .none doc pm an cdv ct), osl⟩ ∧ codeIn K cdv "OverpassesError.__init__" = true
theorem one_size (v : Value) : [v].length ≤ sizeLine := by
  rw [sizeLine_eq]
  exact (by decide : 1 ≤ 16777216)
theorem kept_but {K : Frag} {h h' : Heap} {x : Addr} (X : K.In h) (hx : K.lookup x = none) (k : ∀ b o, b ≠ x → h.get? b = some o → h'.get? b = some o) : K.In h' := fun a o e =>
  k a o (fun z => by rw [z, hx] at e; cases e) (X a o e)
theorem ldC {M : Model} {s : Shared} {name : Str} {scope : Scope} {L a : Addr} {cd : Value} {m : Str → Option Value} {x : Str} {pos : Pos} {v : Value} {Q : Value → Shared → Prop} {A : Around} {E : Value → Shared → Prop} (hn : s.heap.Ns L m) (hv : m x = some v) (h : Q v s)
    (hk : scope.kind = .function := by rfl) (hl : (envOfC name scope L a cd).kindOf x = some .local := by rfl) (hd : (x == ("__debug__" : Str)) = false := by decide) :
    wpAny M A (eval (.Name x pos) (envOfC name scope L a cd)) Q E s := wpAny_Name (wpAny_loadName_local hk hl hn hv h) hd
/-- what __init__ leaves of a fresh exception at x -/
structure InitEnd (h h' : Heap) (x C dx t1 : Addr) (v : Value) : Prop where
  keep : ∀ b o, b ≠ x → h.get? b = some o → h'.get? b = some o
  obj : h'.get? x = some { cls := .ref C, dict := some dx, data := .fields #[.ref t1, .none, .none, .none, .bool false, .none] }
  dbig : h.objs.size ≤ dx
  dne : dx ≠ x
  ns : h'.Ns1 dx (fun y => if y = "at" then some v else none)
/-- a made Low -/
structure OwnMade (h h' : Heap) (e C d : Addr) (v : Value) : Prop where
  keep : ∀ b o, h.get? b = some o → h'.get? b = some o
  new : h.objs.size ≤ e
  obj : ∃ oe vs, h'.get? e = some oe ∧ oe.cls = .ref C ∧ oe.dict = some d ∧ oe.data = .fields vs ∧ vs[1]? = some .none
  dbig : h.objs.size ≤ d
  dne : d ≠ e
  ns : h'.Ns1 d (fun y => if y = "at" then some v else none)
section
variable {prog : Program} {w : World} {A : Around} {E : Value → Shared → Prop} {R : Result → Shared → Prop} {s : Shared} {K : Frag} {mg : Str → Option Value} {xN : Str} {C fI : Addr}
theorem low_init (T : LowTxt K mg xN C fI) {x t0 : Addr} {v : Value} (X : K.In s.heap) (hlim : s.heap.NoLimit) (hx : s.heap.get? x = some (excO C t0)) (hnx : K.lookup x = none) (hroom : A.depth < recursionLimit)
    (hq : ∀ h' tk dx, InitEnd s.heap h' x C dx t0 v → R (.ok (.ret .none)) { s with heap := h', toks := tk }) :
    codeAny (model prog w) A (.call (.ref fI) ⟨[.ref x, v], []⟩) R s := by
  obtain ⟨oc, od, doc, pm, an, cdv, ct, osl, p1, p2, q1, q2, q3, q4, ho, hcd⟩ := T.fn
  obtain ⟨nm, q, N, bs, bm, sn, sub, ab, col, dd, k0, k1, k2, k3, k5, hC, hbm⟩ := T.cls
  have hcl : clsIn K C = some { name := nm, bases := bs, mro := .ref C :: bm, ns := N, qualname := q, hasDict := true, slotNames := sn, subclasses := sub, abstract := ab, collection := col, hasDel := false } := by unfold clsIn; rw [hC] <;> rfl
  refine Att.call_fn (binds := [("self", .ref x), ("at", v)]) X hlim ho hcd hroom (BindsTo.of_eq (by first | rfl | with_unfolding_all rfl)) (by first | rfl | decide | with_unfolding_all rfl) (fun s₁ IC => ?_) rfl rfl rfl
  obtain ⟨h₁, tk₁, rfl⟩ := IC.toInCall.same
  have k : ∀ b o, s.heap.get? b = some o → h₁.get? b = some o := IC.toInCall.keep
  have hn := IC.toInCall.ns
  have hxL : s.heap.objs.size ≠ x := Nat.ne_of_gt (Heap.lt_size hx)
  have X₁ : K.In h₁ := X.keeps k
  have hx₁ := k _ _ hx
  -- self.by = by
  show wpAny _ _ (execs _ _) _ _ _
  refine wpAny_execs_cons (plainObj_wpAny_Assign_Attribute ?_)
  refine ldC (v := v) hn (by first | rfl | with_unfolding_all rfl | kernel_rfl) (ldC (v := .ref x) hn (by first | rfl | with_unfolding_all rfl | kernel_rfl) ?_)
  refine set_plain X₁ (ox := excO C t0) (od := none) ⟨hx₁, rfl, rfl, trivial⟩ T.sa ?_
  refine exc_osa X₁ hx₁ hcl (show refsVE (.ref C :: bm) = true from hbm) rfl T.noN (fun h₃ tk₃ dx k₃ dn dne hx₃ hn₃ => ?_)
  show wpAny _ _ (execs _ _) _ _ _
  have z : s.heap.objs.size < h₁.objs.size := hn.lt
  exact wpAny_execs_nil (hq h₃ tk₃ dx ⟨fun b o hb e => k₃ b o hb (k b o e), hx₃, Nat.le_of_lt (Nat.lt_of_lt_of_le z dn), dne, hn₃⟩)
theorem low_made (T : LowTxt K mg xN C fI) {v : Value} (X : K.In s.heap) (hlim : s.heap.NoLimit) (hroom : A.depth + 1 < recursionLimit)
    (hq : ∀ h' tk e d, OwnMade s.heap h' e C d v → R (.ok (.ret (.ref e))) { s with heap := h', toks := tk }) :
    codeAny (model prog w) A (.call (.ref C) ⟨[v], []⟩) R s := by
  obtain ⟨nm, q, N, bs, bm, sn, sub, ab, col, dd, k0, k1, k2, k3, k5, hC, hbm⟩ := T.cls
  obtain ⟨hp, g, dr, tk, os⟩ := s
  have k : ∀ b o, hp.get? b = some o → ((hp.push (kdv_tup [v])).push (excO C hp.objs.size)).get? b = some o := fun b o e => Heap.get?_push_of_some _ (Heap.get?_push_of_some _ e)
  have hget : ((hp.push (kdv_tup [v])).push (excO C hp.objs.size)).get? (hp.objs.size + 1) = some (excO C hp.objs.size) := by heap_get
  have hnx : K.lookup (hp.objs.size + 1) = none := by
    cases e : K.lookup (hp.objs.size + 1) with
    | none => rfl
    | some o =>
      have z : hp.get? (hp.objs.size + 1) = some o := X _ _ e
      exact absurd (Nat.lt_of_succ_lt (Heap.lt_size z)) (Nat.lt_irrefl _)
  refine call_own F.excBase_ValueError (fun X => refsVE_contains X bm hbm) (X _ _ hC) (looks_findIn X T.iC) (fun self => bind_fn X self T.tC) (one_size v) ?_
  refine low_init (s := ⟨(hp.push (kdv_tup [v])).push (excO C hp.objs.size), g, dr, tk, os⟩) T (X.keeps k) (hlim.keeps k) hget hnx ?_ fun h' tk' dx ⟨k', hx, dn, dne, hns⟩ => ?_
  · show A.depth + 1 < recursionLimit
    exact hroom
  · have old : ∀ b o, hp.get? b = some o → h'.get? b = some o := fun b o e => k' b o (Nat.ne_of_lt (Nat.lt_succ_of_lt (Heap.lt_size e))) (k b o e)
    have z : hp.objs.size + 1 + 1 ≤ dx := by
      first
        | (simpa only [Heap.size_push] using dn)
        | exact dn
        | (have q := dn; rw [Heap.size_push, Heap.size_push] at q; exact q)
    exact ⟨rfl, hq h' tk' (hp.objs.size + 1) dx ⟨old, Nat.le_succ _, ⟨_, _, hx, rfl, rfl, rfl, rfl⟩, Nat.le_trans (Nat.le_trans (Nat.le_succ _) (Nat.le_succ _)) z, dne, hns⟩⟩
end
end LowX
end PySem
namespace L2
open PySem PySem.Spec PyProof.Rows
theorem relO_low {v : V} {v' : Value} (r : RelV v v') (f : Str) : RelO (List.lookup f [(("at" : Str), v)]) (if f = "at" then some v' else none) := by
  by_cases hw : f = "at"
  · subst hw
    rw [if_pos rfl]
    have q : List.lookup ("at" : Str) [(("at" : Str), v)] = some v := by simp [List.lookup]
    rw [q]
    exact r
  · rw [if_neg hw]
    have qw : (f == ("at" : Str)) = false := by simpa using hw
    have q2 : List.lookup f [(("at" : Str), v)] = none := by simp [List.lookup, qw]
    rw [q2]
    trivial
section
variable {X : Cx} {xN : Str} {C fI : Addr}
/-- Low(e) -/
def tMkLow (C : Addr) (ta : TA) : St → Hp → XK → Prop := fun σ H Q => ta σ H fun vs H1 => ∃ v, vs = [v] ∧ ∀ d, H1 d = none → Q (.ref C) (some d) (upd H1 d (.xd [(("at" : Str), v)]))
theorem pmk_low {a : Expr} {ta : TA} {p pos : Pos} {k : Nat} (T : PySem.LowX.LowTxt X.K X.mg xN C fI) (hr : Room k X.A) (ha : PA X [a] ta) (hg : Gl X xN := by rfl) (hdb : (xN == ("__debug__" : Str)) = false := by decide)
    (he : starEach (a :: []) X.env = (false, eval a X.env) :: starEach [] X.env := by rfl) (hpl : (backTo pos (starEach [] X.env)).any (·.1) = false := by rfl) :
    PMk X (.Call (.Name xN p) [a] [] pos) (tMkLow C ta) := by
  intro pins s σ H Q I h
  refine wpAny_Call_Name_kw (ld_glob I hg T.gC ?_ hdb)
  refine PySem.W.callWith_K (h₀ := X.base) I.ok.mod.kin T.kC (thn (ha.run pos pins s σ H _ I h) fun us s1 hh => ?_) he hpl
  obtain ⟨vs, H1, I1, r1, v, ev, q1⟩ := hh
  subst ev
  refine ⟨I1.kIn, ?_⟩
  cases r1 with
  | cons rv rn =>
    rename_i v' us'
    cases rn
    show wpAny _ _ (call (.ref C) [v']) _ _ _
    have hlim := I1.nolimit
    obtain ⟨hp, g, dr, tk, os⟩ := s1
    refine wpAny_call (PySem.LowX.low_made T I1.kIn hlim (by have := hr.dp; omega) fun h' tk' e d M => ?_)
    show MkP X pins σ Q (.ref e) ⟨h', g, dr, tk', os⟩
    obtain ⟨oe, fv, hoe, hc, hd, hdat, h1⟩ := M.obj
    have hns := M.ns
    obtain ⟨G', g1, g2⟩ := restrict h' fun b => decide (b ≠ e)
    have gk : ∀ b, b ≠ e → G'.get? b = h'.get? b := fun b hb => g1 b (decide_eq_true hb)
    have ge : G'.get? e = none := g2 e (by simp)
    have old : ∀ b o, hp.get? b = some o → G'.get? b = some o := fun b o q => (gk b (Nat.ne_of_lt (Nat.lt_of_lt_of_le (Heap.lt_size q) M.new))).trans (M.keep b o q)
    have ob : ObjOk X.prog X.w (upd H1 d (.xd [(("at" : Str), v)])) G' d (.xd [(("at" : Str), v)]) :=
      ⟨_, hns.at (fun o q => (gk d M.dne).trans q), fun f => relO_low rv f⟩
    have J : Inv X pins σ (upd H1 d (.xd [(("at" : Str), v)])) ⟨G', g, dr, tk', os⟩ := I1.laid (t' := tk') old M.dbig ob
    refine ⟨e, oe, fv, ⟨G', g, dr, tk', os⟩, _, .ref C, some d, rfl, J, fun b o q => ?_, ge, hoe, ⟨hc, hd⟩, hdat, h1, ?_, rfl, I1.bare, raises_own T.exC T.tyC, q1 d (I1.hok.fresh M.dbig)⟩
    · by_cases hb : b = e
      · have q' : G'.get? b = some o := q
        rw [hb, ge] at q'; cases q'
      · exact (gk b hb).symm.trans q
    · rw [upd_ne (Ne.symm M.dne)]
      exact I1.hok.fresh M.new
/-- raise Low(e) -/
def tRaiseLow (C : Addr) (W : WX) (ta : TA) : TS := fun _ σ H => tMkLow C ta σ H fun cls d H' => W cls d σ H'
theorem ps_raiseLow {a : Expr} {ta : TA} {W : WX} {p pos pos2 : Pos} {k : Nat} (hc : X.calm = true) (T : PySem.LowX.LowTxt X.K X.mg xN C fI) (hr : Room k X.A) (tk : Takes X W) (ha : PA X [a] ta) (hg : Gl X xN := by rfl) (hdb : (xN == ("__debug__" : Str)) = false := by decide)
    (he : starEach (a :: []) X.env = (false, eval a X.env) :: starEach [] X.env := by rfl) (hpl : (backTo pos (starEach [] X.env)).any (·.1) = false := by rfl) :
    PS X (.Raise (some (.Call (.Name xN p) [a] [] pos)) none pos2) (tRaiseLow C W ta) := ps_raise hc tk (pmk_low T hr ha hg hdb he hpl)
/-- low.by, low the exception that the suite holds (at a; its class cls, its dict d) -/
def tByLow (C : Addr) (a : Addr) (cls : Value) (d : Option Addr) (te : TE) : TE := fun σ H Q => te σ H fun x H1 => x = .ref a ∧ cls = .ref C ∧ ∃ (dd : Addr) (v : V), d = some dd ∧ H1 dd = some (.xd [(("at" : Str), v)]) ∧ Q v H1
theorem pe_byLow {a : Addr} {oe : Obj} {cls : Value} {d : Option Addr} {pn : List (Addr × Obj)} {e : Expr} {te : TE} {pos : Pos} (T : PySem.LowX.LowTxt X.K X.mg xN C fI) (hz : Zc cls d oe) (hf : ∃ vs, oe.data = .fields vs) (he : PE (X.suite a ((a, oe) :: pn)) e te)
    (hb : attributeBase e "at" X.env (eval e X.env) = eval e X.env := by rfl) :
    PE (X.suite a ((a, oe) :: pn)) (.Attribute e "at" pos) (tByLow C a cls d te) := by
  refine ⟨fun pins s σ H Q I h => ?_⟩
  refine attr_of hb (thn (he.run pins s σ H _ I h) fun u s1 hh => ?_)
  obtain ⟨x, H1, I1, rx, ex, ec, dd, v, ed, ea, q⟩ := hh
  subst ex
  obtain rfl : u = Value.ref a := rx
  subst ec
  subst ed
  obtain ⟨ha, _⟩ := I1.pin (a, oe) (List.mem_append_left _ List.mem_cons_self)
  obtain ⟨vs, hd⟩ := hf
  have hx : ObjOk X.prog X.w H1 s1.heap dd (.xd [(("at" : Str), v)]) := I1.hok dd _ ea
  obtain ⟨mA, hns, hr⟩ := hx
  obtain ⟨od, ho, hl⟩ := lookIn_ns hns
  have l : List.lookup ("at" : Str) [(("at" : Str), v)] = some v := by simp [List.lookup]
  obtain ⟨u, hu, ru⟩ := RelO.some_of (v := v) (o := mA "at") (by rw [← l]; exact hr "at")
  have J : PySem.W.InstAt s1.heap a oe C (some od) := ⟨ha, hz.1, by unfold PySem.W.notCls; rw [hd] <;> rfl, by rw [hz.2]; exact ho⟩
  exact HandSPX.exc_get I1.kIn J T.ga T.gg T.exC (PySem.W.findObj_own T.hdC T.noN rfl (by rw [hl, hu])) (handed_of ru) ⟨v, H1, I1.tok _, ru, q⟩
end
end L2

namespace L2
open PySem PySem.Spec PyProof.Rows
/-- an if whose test is known -/
theorem if_true_of {c : Bool} {A B : Prop} (hc : c = true) (h : A) : if c = true then A else B := by
  rw [if_pos hc]
  exact h
theorem if_false_of {c : Bool} {A B : Prop} (hc : c = false) (h : B) : if c = true then A else B := by
  rw [hc, if_neg Bool.false_ne_true]
  exact h
end L2
namespace Ovc
open PySem PySem.Spec PyProof.Rows L2
/-! ### an own error, with an __init__ of its own, held as a value -/
/-- the object oe at a -/
def OwnO (a : Addr) (oe : Obj) : HO := .ext fun h => h.get? a = some oe
/-- at a an error of the class C whose attribute at is v -/
structure IsErr (H : Hp) (a C : Addr) (v : V) : Prop where
  ex : ∃ (d : Addr) (oe : Obj) (vs : Array Value), H a = some (OwnO a oe) ∧ oe.cls = .ref C ∧ oe.dict = some d ∧ oe.data = .fields vs ∧ H d = some (.xd [(("at" : Str), v)])
theorem IsErr.to {H H' : Hp} {a C : Addr} {v : V} (h : IsErr H a C v) (s : Same H H') : IsErr H' a C v := by
  obtain ⟨d, oe, vs, h1, h2, h3, h4, h5⟩ := h.ex
  exact ⟨d, oe, vs, s _ _ h1, h2, h3, h4, s _ _ h5⟩
/-- what is asked of its class -/
structure ErrOk (K : PySem.W.Frag) (C : Addr) : Prop where
  ga : PySem.W.findIn K (.ref C) "__getattribute__" = some (some (.builtin "BaseException.__getattribute__"))
  gg : PySem.W.findIn K (.ref C) "__getattr__" = some none
  exC : PySem.W.subIn K (.ref C) (.type "BaseException") = some true
  hdC : PySem.W.hasDictIn K C = true
  noN : PySem.W.findIn K (.ref C) "at" = some none
  ha : PySem.W.findIn K (.ref C) "__class__" = some (some (.builtin "object.__class__"))
  hn : PySem.W.specialIn K (.builtin "object.__class__") "__get__" = some (some (.builtin "getset_descriptor.__get__"))
  ht : PySem.W.takesIn K (.builtin "object.__class__") = some true
  hm : PySem.W.mroIn K C (.type "object") = some true
section
variable {X : Cx} {pins : List (Addr × Obj)} {σ : L2.St} {H : Hp} {s : Shared} {a C : Addr} {v : V}
theorem IsErr.inst (I : Inv X pins σ H s) (h : IsErr H a C v) : ∃ (oe od : Obj) (u : Value), PySem.W.InstAt s.heap a oe C (some od) ∧ RelV v u ∧ PySem.W.lookIn "at" od = some (some u) := by
  obtain ⟨d, oe, vs, h1, h2, h3, h4, h5⟩ := h.ex
  have e1 : s.heap.get? a = some oe := (I.hok a _ h1).1
  have hx : ObjOk X.prog X.w H s.heap d (.xd [(("at" : Str), v)]) := I.hok d _ h5
  obtain ⟨mA, hns, hr⟩ := hx
  obtain ⟨od, ho, hl⟩ := lookIn_ns hns
  have l : List.lookup ("at" : Str) [(("at" : Str), v)] = some v := by simp [List.lookup]
  obtain ⟨u, hu, ru⟩ := RelO.some_of (v := v) (o := mA "at") (by rw [← l]; exact hr "at")
  exact ⟨oe, od, u, ⟨e1, h2, by unfold PySem.W.notCls; rw [h4] <;> rfl, by rw [h3]; exact ho⟩, ru, by rw [hl, hu]⟩
end
/-- C(e), a new error -/
def tNewErr (C : Addr) (ta : TA) : TE := fun σ H Q => ta σ H fun vs H1 => ∃ v, vs = [v] ∧ ∀ a H2, Same H1 H2 → IsErr H2 a C v → Q (.ref a) H2
theorem pe_newErr {X : Cx} {xN : Str} {C fI : Addr} {a : Expr} {ta : TA} {p pos : Pos} {k : Nat} (T : PySem.LowX.LowTxt X.K X.mg xN C fI) (hr : Room k X.A) (ha : PA X [a] ta) (hg : Gl X xN := by rfl) (hdb : (xN == ("__debug__" : Str)) = false := by decide)
    (he : starEach (a :: []) X.env = (false, eval a X.env) :: starEach [] X.env := by rfl) (hpl : (backTo pos (starEach [] X.env)).any (·.1) = false := by rfl) :
    PE X (.Call (.Name xN p) [a] [] pos) (tNewErr C ta) := by
  refine ⟨fun pins s σ H Q I h => ?_⟩
  refine wpAny_Call_Name_kw (ld_glob I hg T.gC ?_ hdb)
  refine PySem.W.callWith_K (h₀ := X.base) I.ok.mod.kin T.kC (thn (ha.run pos pins s σ H _ I h) fun us s1 hh => ?_) he hpl
  obtain ⟨vs, H1, I1, r1, v, ev, q1⟩ := hh
  subst ev
  refine ⟨I1.kIn, ?_⟩
  cases r1 with
  | cons rv rn =>
    rename_i v' us'
    cases rn
    show wpAny _ _ (call (.ref C) [v']) _ _ _
    have hlim := I1.nolimit
    obtain ⟨hp, g, dr, tk, os⟩ := s1
    refine wpAny_call (PySem.LowX.low_made T I1.kIn hlim (by have := hr.dp; omega) fun h' tk' e d M => ?_)
    show EP X pins σ Q (.ref e) ⟨h', g, dr, tk', os⟩
    obtain ⟨oe, fv, hoe, hc, hd, hdat, h1⟩ := M.obj
    have hns := M.ns
    obtain ⟨G', g1, g2⟩ := restrict h' fun b => decide (b ≠ e)
    have gk : ∀ b, b ≠ e → G'.get? b = h'.get? b := fun b hb => g1 b (decide_eq_true hb)
    have ge : G'.get? e = none := g2 e (by simp)
    have old : ∀ b o, hp.get? b = some o → G'.get? b = some o := fun b o q => (gk b (Nat.ne_of_lt (Nat.lt_of_lt_of_le (Heap.lt_size q) M.new))).trans (M.keep b o q)
    have ob : ObjOk X.prog X.w (upd H1 d (.xd [(("at" : Str), v)])) G' d (.xd [(("at" : Str), v)]) :=
      ⟨_, hns.at (fun o q => (gk d M.dne).trans q), fun f => relO_low rv f⟩
    have J : Inv X pins σ (upd H1 d (.xd [(("at" : Str), v)])) ⟨G', g, dr, tk', os⟩ := I1.laid (t' := tk') old M.dbig ob
    have nd : H1 d = none := I1.hok.fresh M.dbig
    have ne : H1 e = none := I1.hok.fresh M.new
    have ne2 : upd H1 d (.xd [(("at" : Str), v)]) e = none := by
      rw [upd_ne (Ne.symm M.dne)]
      exact ne
    have J2 : Inv X pins σ (upd (upd H1 d (.xd [(("at" : Str), v)])) e (OwnO e oe)) ⟨h', g, dr, tk', os⟩ := J.laidN (h' := h') (t' := tk') (fun b o q => by
      by_cases hb : b = e
      · have q' : G'.get? b = some o := q
        rw [hb, ge] at q'
        cases q'
      · exact (gk b hb).symm.trans q) ge ne2 ⟨hoe, ⟨oe, hoe⟩, fun _ _ z k => k oe z⟩
    exact ⟨.ref e, _, J2, rfl, q1 e _ ((same_upd nd).trans (same_upd ne2)) ⟨d, oe, fv, upd_same, hc, hd, hdat, by
      rw [upd_ne M.dne]
      exact upd_same⟩⟩
/-- e.at -/
def tAtErr (K : PySem.W.Frag) (te : TE) : TE := fun σ H Q => te σ H fun x H1 => ∃ (a C : Addr) (v : V), x = .ref a ∧ IsErr H1 a C v ∧ ErrOk K C ∧ Q v H1
theorem pe_atErr {X : Cx} {e : Expr} {te : TE} {pos : Pos} (he : PE X e te) (hb : attributeBase e "at" X.env (eval e X.env) = eval e X.env := by rfl) : PE X (.Attribute e "at" pos) (tAtErr X.K te) := by
  refine ⟨fun pins s σ H Q I h => ?_⟩
  refine attr_of hb (thn (he.run pins s σ H _ I h) fun u s1 hh => ?_)
  obtain ⟨x, H1, I1, rx, a, C, v, ex, hE, T, q⟩ := hh
  subst ex
  obtain rfl : u = Value.ref a := rx
  obtain ⟨oe, od, u, J, ru, hl⟩ := hE.inst I1
  exact HandSPX.exc_get I1.kIn J T.ga T.gg T.exC (PySem.W.findObj_own T.hdC T.noN rfl hl) (handed_of ru) ⟨v, H1, I1.tok _, ru, q⟩
/-- isinstance(e, c) -/
def rIsErr (K : PySem.W.Frag) : List V → Hp → VK → Prop := fun xs H Q => ∃ (a C : Addr) (v c : V) (cv : Value) (b : Bool), xs = [.ref a, c] ∧ IsErr H a C v ∧ ErrOk K C ∧ ClsV c cv ∧ PySem.W.kitOne K (.ref C) cv = some b ∧ Q (.bl b) H
theorem call_isErr {X : Cx} : CallR X (.builtin "isinstance") (rIsErr X.K) := by
  intro pins s σ H xs us Q I r h
  obtain ⟨a, C, v, c, cv, b, rfl, hE, T, k, e, q⟩ := h
  obtain ⟨u1, u2, rfl, r1, r2⟩ := vals2 r
  have e2 := k.eq r2
  subst e2
  obtain rfl : u1 = Value.ref a := r1
  obtain ⟨oe, od, _, J, _, _⟩ := hE.inst I
  have hc : (PySem.W.clsIn X.K C).isSome = true := by
    obtain ⟨cd, hc, _⟩ := PySem.W.any_some T.hdC
    rw [hc]
    rfl
  exact PySem.W.kia_one (PySem.W.kitx_exc (x := a) (ox := oe) (od := some od) hc T.ga T.gg T.exC T.ha T.hn T.ht T.hm) I.kIn J e (fun z => nomatch z) fun tk => ⟨.bl b, H, I.tok tk, rfl, q⟩
section
variable {K : PySem.W.Frag} {σ : L2.St} {H : Hp} {ta tb te tl : TE} {tr : TA} {tt : TT} {a C : Addr} {v c : V} {cv : Value} {b : Bool}
theorem vl_isErr (h : Vl te σ H (.ref a)) (hc : Vl tb σ H c) (hE : IsErr H a C v) (T : ErrOk K C) (k : ClsV c cv) (e : PySem.W.kitOne K (.ref C) cv = some b) : Vl (tCB (rIsErr K) (tCons te (tCons tb tNil))) σ H (.bl b) :=
  vl_cb (va_cons h (va_cons hc va_nil)) fun _ q => ⟨a, C, v, c, cv, b, rfl, hE, T, k, e, q⟩
theorem vl_atErr (h : Vl te σ H (.ref a)) (hE : IsErr H a C v) (T : ErrOk K C) : Vl (tAtErr K te) σ H v := fun _ q => h _ ⟨a, C, v, rfl, hE, T, q⟩
theorem vn_lcR {j : Nat} {n : Int} {pb : Int → Bool} {f : Int → V} (hl : Va tr σ H [.int n]) (h0 : 0 ≤ n) (hz : n ≤ 1000000)
    (ht : ∀ x : Int, 0 ≤ x → x < n → ∀ H', Same H H' → An tt ((σ.set j none).set j (some (.int x))) H' (pb x)) (he : ∀ x : Int, 0 ≤ x → x < n → ∀ H', Same H H' → Vl te ((σ.set j none).set j (some (.int x))) H' (f x)) :
    Vn (tLc (iRng1 tr) (gName j) tt te [j]) σ H (((((List.range n.toNat).map fun (i : Nat) => (i : Int))).filter pb).map f) := fun Q q => by
  refine hl _ ⟨n, rfl, by omega, by omega, fun D nD => lc_range (lo := 0) (n := n.toNat) (fun i H' => H' D = some (.lst ((((List.range i).map fun (i : Nat) => (i : Int)).filter pb).map f)) ∧ Same H H') ⟨upd_same, same_upd nD⟩ (fun i H2 hi hP => ?_) (fun H2 hP => ?_)⟩
  · obtain ⟨hD, s2⟩ := hP
    have e : (((List.range (i + 1)).map fun (i : Nat) => (i : Int)).filter pb) = ((List.range i).map fun (i : Nat) => (i : Int)).filter pb ++ [(i : Int)].filter pb := by
      rw [List.range_succ, List.map_append]
      exact List.filter_append ..
    rw [Int.zero_add]
    refine ⟨?_, ht i (by omega) (by omega) H2 s2 _ ?_⟩
    · show ((σ.set j none).set j (some (V.int i))).set j none = σ.set j none
      rw [List.set_set, List.set_set]
    · cases hp : pb (i : Int) with
      | true =>
        have e2 : [(i : Int)].filter pb = [(i : Int)] := by
          rw [List.filter_cons, hp]
          rfl
        refine iteT (B := H2 D = some (.lst ((((List.range (i + 1)).map fun (i : Nat) => (i : Int)).filter pb).map f)) ∧ Same H H2) (he i (by omega) (by omega) H2 s2 _ ⟨_, hD, ?_, ?_, same_upd' s2 nD⟩)
        · rw [List.length_map]
          have h1 : (((List.range i).map fun (i : Nat) => (i : Int)).filter pb).length ≤ i := Nat.le_trans (List.length_filter_le _ _) (by rw [List.length_map, List.length_range]; exact Nat.le_refl _)
          exact Nat.lt_of_le_of_lt (m := 1000000) (by omega) (by decide)
        · rw [upd_same, e, e2, List.map_append]
          rfl
      | false =>
        have e2 : [(i : Int)].filter pb = [] := by
          rw [List.filter_cons, hp]
          rfl
        refine iteF ⟨?_, s2⟩
        rw [e, e2, List.append_nil]
        exact hD
  · obtain ⟨hD, s2⟩ := hP
    exact q D H2 s2 nD hD
end
/-! ### the classes, told apart -/
/-- what is asked of an error's class, bm its bases' line -/
structure Err8 (K : PySem.W.Frag) (x : Str) (C fI : Addr) (bm : List Value) : Prop where
  a : PySem.W.nsIn K mainGlobals x = some (some (.ref C))
  xL : ∃ q N bs sn sub ab col dd m0 m1 m2 m3 m5, K.lookup C = some (excClassObj x q C N bs bm true sn sub ab col dd m0 m1 m2 m3 m5 "ValueError.__new__")
  bm : PySem.HandSPX.refsVE bm = true
  sa : PySem.W.findIn K (.ref C) "__setattr__" = some (some (.builtin "object.__setattr__"))
  ga : PySem.W.findIn K (.ref C) "__getattribute__" = some (some (.builtin "BaseException.__getattribute__"))
  gg : PySem.W.findIn K (.ref C) "__getattr__" = some none
  nb : PySem.W.findIn K (.ref C) "at" = some none
  ii : PySem.W.findIn K (.ref C) "__init__" = some (some (.ref fI))
  kC : PySem.W.keepIn K (.ref C) = true
  ha : PySem.W.findIn K (.ref C) "__class__" = some (some (.builtin "object.__class__"))
def mro8 : List Value := [.type "ValueError", .type "Exception", .type "BaseException", .type "object"]
section
variable {K : PySem.W.Frag} {x y : Str} {C D CO fI : Addr} {bm bm' : List Value}
theorem Err8.cls (e : Err8 K x C fI bm) : ∃ cd, PySem.W.clsIn K C = some cd ∧ cd.mro = .ref C :: bm ∧ cd.hasDict = true := by
  obtain ⟨q, N, bs, sn, sub, ab, col, dd, m0, m1, m2, m3, m5, l⟩ := e.xL
  exact ⟨{ name := x, bases := bs, mro := .ref C :: bm, ns := N, qualname := q, hasDict := true, slotNames := sn, subclasses := sub, abstract := ab, collection := col, hasDel := false }, by unfold PySem.W.clsIn; rw [l] <;> rfl, rfl, rfl⟩
theorem Err8.ty (e : Err8 K x C fI bm) : PySem.W.typeIn K (.ref C) = some (.type "type") := by
  obtain ⟨q, N, bs, sn, sub, ab, col, dd, m0, m1, m2, m3, m5, l⟩ := e.xL
  show (K.lookup C).map (·.cls) = _
  rw [l]
  rfl
theorem Err8.sub (e : Err8 K x C fI bm) (b : Value) : PySem.W.subIn K (.ref C) b = some ((Value.ref C :: bm).contains b) := by
  obtain ⟨cd, h1, h2, _⟩ := e.cls
  show PySem.W.mroIn K C b = _
  unfold PySem.W.mroIn
  rw [h1, Option.bind_some, h2]
  rfl
theorem Err8.dict (e : Err8 K x C fI bm) : PySem.W.hasDictIn K C = true := by
  obtain ⟨cd, h1, _, h3⟩ := e.cls
  unfold PySem.W.hasDictIn
  rw [h1]
  exact h3
theorem Err8.ne (e : Err8 K x C fI bm) (e' : Err8 K y D fI bm') (h : x ≠ y) : C ≠ D := fun z => by
  subst z
  obtain ⟨q, N, bs, sn, sub, ab, col, dd, m0, m1, m2, m3, m5, l⟩ := e.xL
  obtain ⟨q', N', bs', sn', sub', ab', col', dd', n0, n1, n2, n3, n5, l'⟩ := e'.xL
  rw [l] at l'
  have z := Option.some.inj l'
  have z2 := congrArg (fun o : Obj => match o.data with | .cls cd => cd.name | _ => "") z
  exact h z2
theorem ref_beq : ((Value.ref C : Value) == Value.ref D) = decide (C = D) := by
  by_cases h : C = D
  · subst h
    rw [decide_eq_true rfl]
    exact beq_self_eq_true _
  · rw [decide_eq_false h]
    exact beq_eq_false_iff_ne.mpr fun z => h (Value.ref.inj z)
theorem Err8.kit (e : Err8 K x C fI bm) (e' : Err8 K y D fI bm') : PySem.W.kitOne K (.ref C) (.ref D) = some ((Value.ref C :: bm).contains (.ref D)) := by
  unfold PySem.W.kitOne
  by_cases h : C = D
  · subst h
    rw [if_pos (beq_self_eq_true _), List.contains_cons, beq_self_eq_true, Bool.true_or]
  · rw [if_neg (by rw [ref_beq, decide_eq_false h]; exact Bool.false_ne_true)]
    obtain ⟨cd, h1, _, _⟩ := e'.cls
    show (if ((PySem.W.clsIn K D).isSome && PySem.W.typeIn K (.ref D) == some (.type "type")) = true then PySem.W.subIn K (.ref C) (.ref D) else none) = _
    rw [h1, e'.ty, if_pos (by rfl), e.sub]
theorem Err8.kitT (e : Err8 K x C fI bm) : PySem.W.kitOne K (.ref C) (.type "ValueError") = some ((Value.ref C :: bm).contains (.type "ValueError")) := by
  unfold PySem.W.kitOne
  rw [if_neg (by exact Bool.false_ne_true)]
  show (if PySem.W.kitMeta "ValueError" = true then PySem.W.subIn K (.ref C) (.type "ValueError") else none) = _
  rw [if_pos (by decide +kernel), e.sub]
theorem has_mro : (mro8).contains (.ref D) = false := by
  unfold mro8
  rw [List.contains_cons, List.contains_cons, List.contains_cons, List.contains_cons]
  rfl
theorem kit_base (e : Err8 K x C fI mro8) (e' : Err8 K y D fI bm') : PySem.W.kitOne K (.ref C) (.ref D) = some (decide (C = D)) := by
  rw [e.kit e', List.contains_cons, has_mro, Bool.or_false]
  show some (Value.ref D == Value.ref C) = _
  rw [ref_beq]
  congr 1
  exact decide_eq_decide.mpr ⟨Eq.symm, Eq.symm⟩
theorem kit_low (e : Err8 K x C fI (.ref CO :: mro8)) (e' : Err8 K y D fI bm') (h : D ≠ CO) : PySem.W.kitOne K (.ref C) (.ref D) = some (decide (C = D)) := by
  rw [e.kit e', List.contains_cons, List.contains_cons, has_mro, Bool.or_false]
  show some (Value.ref D == Value.ref C || Value.ref D == Value.ref CO) = _
  rw [ref_beq, ref_beq, decide_eq_false h, Bool.or_false]
  congr 1
  exact decide_eq_decide.mpr ⟨Eq.symm, Eq.symm⟩
theorem kit_top (e : Err8 K x C fI (.ref CO :: mro8)) (e' : Err8 K y CO fI mro8) : PySem.W.kitOne K (.ref C) (.ref CO) = some true := by
  rw [e.kit e', List.contains_cons, List.contains_cons]
  show some (Value.ref CO == Value.ref C || (Value.ref CO == Value.ref CO || _)) = _
  rw [beq_self_eq_true, Bool.true_or, Bool.or_true]
theorem kit_val (e : Err8 K x C fI (.ref CO :: mro8)) : PySem.W.kitOne K (.ref C) (.type "ValueError") = some true := by
  rw [e.kitT]
  rfl
/-- the class as the rules ask for it -/
structure Common (K : PySem.W.Frag) : Prop where
  hn : PySem.W.specialIn K (.builtin "object.__class__") "__get__" = some (some (.builtin "getset_descriptor.__get__"))
  ht : PySem.W.takesIn K (.builtin "object.__class__") = some true
theorem Err8.ok (e : Err8 K x C fI bm) (c : Common K) (h1 : bm.contains (.type "BaseException") = true) (h2 : bm.contains (.type "object") = true) : ErrOk K C where
  ga := e.ga
  gg := e.gg
  exC := by
    rw [e.sub, List.contains_cons, h1, Bool.or_true]
  hdC := e.dict
  noN := e.nb
  ha := e.ha
  hn := c.hn
  ht := c.ht
  hm := by
    show PySem.W.subIn K (.ref C) (.type "object") = _
    rw [e.sub, List.contains_cons, h2, Bool.or_true]
end
def Vm (te : TE) (σ : L2.St) (H : Hp) (M : V → Hp → Prop) : Prop := ∀ Q : VK, (∀ v H', M v H' → Q v H') → te σ H Q
abbrev sFirst8 : Stmt := topS 14
abbrev sSecond8 : Stmt := topS 15
abbrev sKinds8 : Stmt := topS 16
abbrev sLaw : Stmt := topS 17
theorem scF8 : FnScope ["k", "n"] ["k", "n"] (defScope sFirst8) := ⟨rfl, rfl, rfl, by decide +kernel, rfl, by decide +kernel, by decide +kernel⟩
theorem scS8 : FnScope ["k", "n"] ["k", "n"] (defScope sSecond8) := ⟨rfl, rfl, rfl, by decide +kernel, rfl, by decide +kernel, by decide +kernel⟩
theorem scK8 : FnScope ["e"] ["e"] (defScope sKinds8) := ⟨rfl, rfl, rfl, by decide +kernel, rfl, by decide +kernel, by decide +kernel⟩
theorem scLaw : FnScope ["script", "number", "k", "e", "base", "j"] ["script"] (defScope sLaw) := ⟨rfl, rfl, rfl, by decide +kernel, rfl, by decide +kernel, by decide +kernel⟩
/-- the error of the kind k - lo, None beside them -/
def spPart (cs : List Addr) (lo : Nat) : Sp := fun vs H Q _ => ∃ (i : Nat) (n : Int), vs = [.int (i : Int), .int n] ∧ (∀ (j : Nat) (C : Addr), i = lo + j → cs[j]? = some C → ∀ a H', Same H H' → IsErr H' a C (.int n) → Q (.ref a) H') ∧ ((i < lo ∨ lo + cs.length ≤ i) → Q .non H)
def spKinds (K : PySem.W.Frag) (cs : List Addr) : Sp := fun vs H Q _ => ∃ (a C : Addr) (v : V), vs = [.ref a] ∧ IsErr H a C v ∧ ErrOk K C ∧ (∀ D ∈ cs, PySem.W.kitOne K (.ref C) (.ref D) = some (decide (C = D))) ∧ ∀ p H', Same H H' → H' p = some (.lst ((cs.map fun D => decide (C = D)).map V.bl)) → Q (.ref p) H'
def spLaw (K : PySem.W.Frag) : Sp := fun vs H Q _ => ∃ (a : Addr) (ns : List Int), vs = [.ref a] ∧ SqL K H a (ns.map V.int) ∧ ns.length ≤ 63 ∧ ∀ H', Q (.bl true) H'
theorem eq_nat {i : Nat} {c : Int} (h : decide (V.int (i : Int) = V.int c) = true) : (i : Int) = c := V.int.inj (of_decide_eq_true h)
theorem ne_nat {i : Nat} {c : Int} (h : decide (V.int (i : Int) = V.int c) = false) : (i : Int) ≠ c := fun z => of_decide_eq_false h (by rw [z])
theorem g_retErr {σ : L2.St} {H : Hp} {tr : TA} {D : Ends} {C : Addr} {v : V} (h : Va tr σ H [v]) (k : ∀ a H2, Same H H2 → IsErr H2 a C v → D.rt (.ref a) H2) : tRet (tNewErr C tr) D σ H := h _ ⟨_, rfl, k⟩
section
variable {P : Program} {w : World} {K : PySem.W.Frag} {mg : Str → Option Value} {base : Heap} {C0 C1 C2 C3 C4 C5 C6 C7 C8 C9 C10 CO fI : Addr}
theorem ok_first {f : Addr} {fd : FuncData} {k : Nat} (F : Fun K "_law_first" "_law_first" sFirst8 f fd) (h0 : PySem.LowX.LowTxt K mg "BadLine" C0 fI) (h1 : PySem.LowX.LowTxt K mg "BadPlace" C1 fI) (h2 : PySem.LowX.LowTxt K mg "BadPrice" C2 fI) (h3 : PySem.LowX.LowTxt K mg "WrongOrder" C3 fI) (h4 : PySem.LowX.LowTxt K mg "NoLink" C4 fI) (h5 : PySem.LowX.LowTxt K mg "NoPlace" C5 fI) : FnOk P w K mg base CX0 (k + 2) f fd ["k", "n"] (spPart [C0, C1, C2, C3, C4, C5] 0) := by
  refine F.ok scF8 (fun vs H Q E h => ?_) (fun cdv A outer s H vs Q E hr h => ?_)
  · obtain ⟨i, n, rfl, _⟩ := h
    rfl
  · obtain ⟨i, n, rfl, q, q2⟩ := h
    refine ⟨_, pss_cons (ps_if (pt_cmpR op_eq (pv 0) pe_int (nomark _)) (pss_one (ps_ret (pe_newErr h0 hr (pa_cons (pv 1) pa_nil)))) pss_nil)
      (pss_cons (ps_if (pt_cmpR op_eq (pv 0) pe_int (nomark _)) (pss_one (ps_ret (pe_newErr h1 hr (pa_cons (pv 1) pa_nil)))) pss_nil)
      (pss_cons (ps_if (pt_cmpR op_eq (pv 0) pe_int (nomark _)) (pss_one (ps_ret (pe_newErr h2 hr (pa_cons (pv 1) pa_nil)))) pss_nil)
      (pss_cons (ps_if (pt_cmpR op_eq (pv 0) pe_int (nomark _)) (pss_one (ps_ret (pe_newErr h3 hr (pa_cons (pv 1) pa_nil)))) pss_nil)
      (pss_cons (ps_if (pt_cmpR op_eq (pv 0) pe_int (nomark _)) (pss_one (ps_ret (pe_newErr h4 hr (pa_cons (pv 1) pa_nil)))) pss_nil)
      (pss_cons (ps_if (pt_cmpR op_eq (pv 0) pe_int (nomark _)) (pss_one (ps_ret (pe_newErr h5 hr (pa_cons (pv 1) pa_nil)))) pss_nil)
      (pss_one (ps_ret pe_non))))))), ?_⟩
    refine q_when (b := decide (V.int (i : Int) = V.int 0)) (by exact an_test (vl_eq (vl_var rfl) vl_c rfl)) (fun hb => ?_) (fun n0 => ?_)
    · have e := eq_nat hb
      exact g_retErr (va_cons (vl_var rfl) va_nil) fun a H2 s2 hE => q 0 C0 (by omega) rfl a H2 s2 hE
    refine q_when (b := decide (V.int (i : Int) = V.int 1)) (by exact an_test (vl_eq (vl_var rfl) vl_c rfl)) (fun hb => ?_) (fun n1 => ?_)
    · have e := eq_nat hb
      exact g_retErr (va_cons (vl_var rfl) va_nil) fun a H2 s2 hE => q 1 C1 (by omega) rfl a H2 s2 hE
    refine q_when (b := decide (V.int (i : Int) = V.int 2)) (by exact an_test (vl_eq (vl_var rfl) vl_c rfl)) (fun hb => ?_) (fun n2 => ?_)
    · have e := eq_nat hb
      exact g_retErr (va_cons (vl_var rfl) va_nil) fun a H2 s2 hE => q 2 C2 (by omega) rfl a H2 s2 hE
    refine q_when (b := decide (V.int (i : Int) = V.int 3)) (by exact an_test (vl_eq (vl_var rfl) vl_c rfl)) (fun hb => ?_) (fun n3 => ?_)
    · have e := eq_nat hb
      exact g_retErr (va_cons (vl_var rfl) va_nil) fun a H2 s2 hE => q 3 C3 (by omega) rfl a H2 s2 hE
    refine q_when (b := decide (V.int (i : Int) = V.int 4)) (by exact an_test (vl_eq (vl_var rfl) vl_c rfl)) (fun hb => ?_) (fun n4 => ?_)
    · have e := eq_nat hb
      exact g_retErr (va_cons (vl_var rfl) va_nil) fun a H2 s2 hE => q 4 C4 (by omega) rfl a H2 s2 hE
    refine q_when (b := decide (V.int (i : Int) = V.int 5)) (by exact an_test (vl_eq (vl_var rfl) vl_c rfl)) (fun hb => ?_) (fun n5 => ?_)
    · have e := eq_nat hb
      exact g_retErr (va_cons (vl_var rfl) va_nil) fun a H2 s2 hE => q 5 C5 (by omega) rfl a H2 s2 hE
    refine g_ret vl_c (q2 ?_)
    have m0 := ne_nat n0
    have m1 := ne_nat n1
    have m2 := ne_nat n2
    have m3 := ne_nat n3
    have m4 := ne_nat n4
    have m5 := ne_nat n5
    show i < 0 ∨ 0 + 6 ≤ i
    omega
theorem ok_second {f : Addr} {fd : FuncData} {k : Nat} (F : Fun K "_law_second" "_law_second" sSecond8 f fd) (h6 : PySem.LowX.LowTxt K mg "NotAnOrder" C6 fI) (h7 : PySem.LowX.LowTxt K mg "NoPair" C7 fI) (h8 : PySem.LowX.LowTxt K mg "NothingToUndo" C8 fI) (h9 : PySem.LowX.LowTxt K mg "OutOfRange" C9 fI) (h10 : PySem.LowX.LowTxt K mg "NoTurn" C10 fI) : FnOk P w K mg base CX0 (k + 2) f fd ["k", "n"] (spPart [C6, C7, C8, C9, C10] 6) := by
  refine F.ok scS8 (fun vs H Q E h => ?_) (fun cdv A outer s H vs Q E hr h => ?_)
  · obtain ⟨i, n, rfl, _⟩ := h
    rfl
  · obtain ⟨i, n, rfl, q, q2⟩ := h
    refine ⟨_, pss_cons (ps_if (pt_cmpR op_eq (pv 0) pe_int (nomark _)) (pss_one (ps_ret (pe_newErr h6 hr (pa_cons (pv 1) pa_nil)))) pss_nil)
      (pss_cons (ps_if (pt_cmpR op_eq (pv 0) pe_int (nomark _)) (pss_one (ps_ret (pe_newErr h7 hr (pa_cons (pv 1) pa_nil)))) pss_nil)
      (pss_cons (ps_if (pt_cmpR op_eq (pv 0) pe_int (nomark _)) (pss_one (ps_ret (pe_newErr h8 hr (pa_cons (pv 1) pa_nil)))) pss_nil)
      (pss_cons (ps_if (pt_cmpR op_eq (pv 0) pe_int (nomark _)) (pss_one (ps_ret (pe_newErr h9 hr (pa_cons (pv 1) pa_nil)))) pss_nil)
      (pss_cons (ps_if (pt_cmpR op_eq (pv 0) pe_int (nomark _)) (pss_one (ps_ret (pe_newErr h10 hr (pa_cons (pv 1) pa_nil)))) pss_nil)
      (pss_one (ps_ret pe_non)))))), ?_⟩
    refine q_when (b := decide (V.int (i : Int) = V.int 6)) (by exact an_test (vl_eq (vl_var rfl) vl_c rfl)) (fun hb => ?_) (fun n0 => ?_)
    · have e := eq_nat hb
      exact g_retErr (va_cons (vl_var rfl) va_nil) fun a H2 s2 hE => q 0 C6 (by omega) rfl a H2 s2 hE
    refine q_when (b := decide (V.int (i : Int) = V.int 7)) (by exact an_test (vl_eq (vl_var rfl) vl_c rfl)) (fun hb => ?_) (fun n1 => ?_)
    · have e := eq_nat hb
      exact g_retErr (va_cons (vl_var rfl) va_nil) fun a H2 s2 hE => q 1 C7 (by omega) rfl a H2 s2 hE
    refine q_when (b := decide (V.int (i : Int) = V.int 8)) (by exact an_test (vl_eq (vl_var rfl) vl_c rfl)) (fun hb => ?_) (fun n2 => ?_)
    · have e := eq_nat hb
      exact g_retErr (va_cons (vl_var rfl) va_nil) fun a H2 s2 hE => q 2 C8 (by omega) rfl a H2 s2 hE
    refine q_when (b := decide (V.int (i : Int) = V.int 9)) (by exact an_test (vl_eq (vl_var rfl) vl_c rfl)) (fun hb => ?_) (fun n3 => ?_)
    · have e := eq_nat hb
      exact g_retErr (va_cons (vl_var rfl) va_nil) fun a H2 s2 hE => q 3 C9 (by omega) rfl a H2 s2 hE
    refine q_when (b := decide (V.int (i : Int) = V.int 10)) (by exact an_test (vl_eq (vl_var rfl) vl_c rfl)) (fun hb => ?_) (fun n4 => ?_)
    · have e := eq_nat hb
      exact g_retErr (va_cons (vl_var rfl) va_nil) fun a H2 s2 hE => q 4 C10 (by omega) rfl a H2 s2 hE
    refine g_ret vl_c (q2 ?_)
    have m0 := ne_nat n0
    have m1 := ne_nat n1
    have m2 := ne_nat n2
    have m3 := ne_nat n3
    have m4 := ne_nat n4
    show i < 6 ∨ 6 + 5 ≤ i
    omega
theorem ok_kinds {f : Addr} {fd : FuncData} {k : Nat} (F : Fun K "_law_kinds" "_law_kinds" sKinds8 f fd) (ms : mg "isinstance" = none) (h0 : PySem.LowX.LowTxt K mg "BadLine" C0 fI) (h1 : PySem.LowX.LowTxt K mg "BadPlace" C1 fI) (h2 : PySem.LowX.LowTxt K mg "BadPrice" C2 fI) (h3 : PySem.LowX.LowTxt K mg "WrongOrder" C3 fI) (h4 : PySem.LowX.LowTxt K mg "NoLink" C4 fI) (h5 : PySem.LowX.LowTxt K mg "NoPlace" C5 fI) (h6 : PySem.LowX.LowTxt K mg "NotAnOrder" C6 fI) (h7 : PySem.LowX.LowTxt K mg "NoPair" C7 fI) (h8 : PySem.LowX.LowTxt K mg "NothingToUndo" C8 fI) (h9 : PySem.LowX.LowTxt K mg "OutOfRange" C9 fI) (h10 : PySem.LowX.LowTxt K mg "NoTurn" C10 fI) : FnOk P w K mg base CX0 (k + 1) f fd ["e"] (spKinds K [C0, C1, C2, C3, C4, C5, C6, C7, C8, C9, C10]) := by
  refine F.ok scK8 (fun vs H Q E h => ?_) (fun cdv A outer s H vs Q E hr h => ?_)
  · obtain ⟨a, C, v, rfl, _⟩ := h
    rfl
  · obtain ⟨a, C, v, rfl, hE, T, hk, q⟩ := h
    refine ⟨_, pss_one (ps_ret (pe_lst (pa_cons (pe_callB call_isErr (by rfl) ms (by decide +kernel) (pa_cons (pv 0) (pa_cons (pe_glob (v := .ref C0) (by rfl) h0.gC rfl) pa_nil)))
      (pa_cons (pe_callB call_isErr (by rfl) ms (by decide +kernel) (pa_cons (pv 0) (pa_cons (pe_glob (v := .ref C1) (by rfl) h1.gC rfl) pa_nil)))
      (pa_cons (pe_callB call_isErr (by rfl) ms (by decide +kernel) (pa_cons (pv 0) (pa_cons (pe_glob (v := .ref C2) (by rfl) h2.gC rfl) pa_nil)))
      (pa_cons (pe_callB call_isErr (by rfl) ms (by decide +kernel) (pa_cons (pv 0) (pa_cons (pe_glob (v := .ref C3) (by rfl) h3.gC rfl) pa_nil)))
      (pa_cons (pe_callB call_isErr (by rfl) ms (by decide +kernel) (pa_cons (pv 0) (pa_cons (pe_glob (v := .ref C4) (by rfl) h4.gC rfl) pa_nil)))
      (pa_cons (pe_callB call_isErr (by rfl) ms (by decide +kernel) (pa_cons (pv 0) (pa_cons (pe_glob (v := .ref C5) (by rfl) h5.gC rfl) pa_nil)))
      (pa_cons (pe_callB call_isErr (by rfl) ms (by decide +kernel) (pa_cons (pv 0) (pa_cons (pe_glob (v := .ref C6) (by rfl) h6.gC rfl) pa_nil)))
      (pa_cons (pe_callB call_isErr (by rfl) ms (by decide +kernel) (pa_cons (pv 0) (pa_cons (pe_glob (v := .ref C7) (by rfl) h7.gC rfl) pa_nil)))
      (pa_cons (pe_callB call_isErr (by rfl) ms (by decide +kernel) (pa_cons (pv 0) (pa_cons (pe_glob (v := .ref C8) (by rfl) h8.gC rfl) pa_nil)))
      (pa_cons (pe_callB call_isErr (by rfl) ms (by decide +kernel) (pa_cons (pv 0) (pa_cons (pe_glob (v := .ref C9) (by rfl) h9.gC rfl) pa_nil)))
      (pa_cons (pe_callB call_isErr (by rfl) ms (by decide +kernel) (pa_cons (pv 0) (pa_cons (pe_glob (v := .ref C10) (by rfl) h10.gC rfl) pa_nil)))
      pa_nil))))))))))))), ?_⟩
    exact (vn_lst (va_cons (vl_isErr (vl_var rfl) vl_c hE T (.own _) (hk C0 (by simp)))
      (va_cons (vl_isErr (vl_var rfl) vl_c hE T (.own _) (hk C1 (by simp)))
      (va_cons (vl_isErr (vl_var rfl) vl_c hE T (.own _) (hk C2 (by simp)))
      (va_cons (vl_isErr (vl_var rfl) vl_c hE T (.own _) (hk C3 (by simp)))
      (va_cons (vl_isErr (vl_var rfl) vl_c hE T (.own _) (hk C4 (by simp)))
      (va_cons (vl_isErr (vl_var rfl) vl_c hE T (.own _) (hk C5 (by simp)))
      (va_cons (vl_isErr (vl_var rfl) vl_c hE T (.own _) (hk C6 (by simp)))
      (va_cons (vl_isErr (vl_var rfl) vl_c hE T (.own _) (hk C7 (by simp)))
      (va_cons (vl_isErr (vl_var rfl) vl_c hE T (.own _) (hk C8 (by simp)))
      (va_cons (vl_isErr (vl_var rfl) vl_c hE T (.own _) (hk C9 (by simp)))
      (va_cons (vl_isErr (vl_var rfl) vl_c hE T (.own _) (hk C10 (by simp)))
      va_nil))))))))))) (by show 11 ≤ sizeLine; decide)) _ fun p H' s' _ e => q p H' s' e
end
/-! ### lists of booleans -/
theorem DpAll.bools {K : PySem.W.Frag} {H : Hp} : ∀ bs : List Bool, DpAll K H (bs.map V.bl) (bs.map PyData.bool)
  | [] => .nil
  | b :: bs => .cons (.bl b) (DpAll.bools bs)
theorem lay_bools : ∀ bs : List Bool, PyData.canLayAll0 (bs.map PyData.bool) = true ∧ PyData.depthAll (bs.map PyData.bool) = 0
  | [] => ⟨rfl, rfl⟩
  | b :: bs => by
    have ih := lay_bools bs
    constructor
    · show (true && PyData.canLayAll0 (bs.map PyData.bool)) = true
      rw [ih.1]
      rfl
    · show max 0 (PyData.depthAll (bs.map PyData.bool)) = 0
      rw [ih.2]
      rfl
theorem shaped_bools (bs : List Bool) : SeqAt.shaped (.list (bs.map PyData.bool)) = true := by
  have h := lay_bools bs
  show (PyData.canLayAll0 (bs.map PyData.bool) && decide (PyData.depthAll (bs.map PyData.bool) + 1 ≤ 64)) = true
  rw [h.1, h.2]
  rfl
theorem eqv_bools (bs : List Bool) : PyData.eqv (.list (bs.map PyData.bool)) (.list (bs.map PyData.bool)) = true := SeqAt.eqv_refl _ (Bool.and_eq_true_iff.mp (shaped_bools bs)).1
theorem kinds_eq {cs : List Addr} (hn : cs.Nodup) {i : Nat} {C : Addr} (hc : cs[i]? = some C) : ((cs.map fun D => decide (C = D)).map V.bl) = ((((List.range cs.length).map fun (j : Nat) => (j : Int)).filter fun _ => true).map fun x => V.bl (decide (V.int x = V.int (i : Int)))) := by
  rw [List.filter_eq_self.mpr (fun _ _ => rfl), List.map_map, List.map_map]
  refine List.ext_getElem? fun j => ?_
  rw [List.getElem?_map, List.getElem?_map]
  by_cases hj : j < cs.length
  · rw [List.getElem?_range hj, List.getElem?_eq_getElem hj]
    show some (V.bl (decide (C = cs[j]))) = some (V.bl (decide (V.int (j : Int) = V.int (i : Int))))
    congr 2
    obtain ⟨hi, ei⟩ := List.getElem?_eq_some_iff.mp hc
    refine decide_eq_decide.mpr ⟨fun z => ?_, fun z => ?_⟩
    · have e2 : cs[i] = cs[j] := ei.trans z
      have pw := List.pairwise_iff_getElem.mp hn
      have hij : i = j := by
        rcases Nat.lt_trichotomy i j with l | l | l
        · exact absurd e2 (pw i j hi hj l)
        · exact l
        · exact absurd e2.symm (pw j i hj hi l)
      rw [hij]
    · have z := V.int.inj z
      have z : j = i := by omega
      subst z
      exact ei.symm
  · rw [List.getElem?_eq_none (by omega), List.getElem?_eq_none (by rw [List.length_range]; omega)]
    rfl
theorem kinds_no {cs : List Addr} {C : Addr} (h : ∀ D ∈ cs, C ≠ D) : ((cs.map fun D => decide (C = D)).map V.bl) = ((((List.range cs.length).map fun (j : Nat) => (j : Int)).filter fun _ => true).map fun _ => V.bl false) := by
  rw [List.filter_eq_self.mpr (fun _ _ => rfl), List.map_map, List.map_map]
  refine List.ext_getElem? fun j => ?_
  rw [List.getElem?_map, List.getElem?_map]
  by_cases hj : j < cs.length
  · rw [List.getElem?_range hj, List.getElem?_eq_getElem hj]
    show some (V.bl (decide (C = cs[j]))) = some (V.bl false)
    rw [decide_eq_false (h _ (List.getElem_mem hj))]
  · rw [List.getElem?_eq_none (by omega), List.getElem?_eq_none (by rw [List.length_range]; omega)]
    rfl
/-- the classes as the law holds them -/
structure All8 (K : PySem.W.Frag) (CO fI : Addr) (cs : List Addr) : Prop where
  low : ∀ C ∈ cs, ∃ x, Err8 K x C fI (.ref CO :: mro8)
  top : Err8 K "OverpassesError" CO fI mro8
  ne : ∀ C ∈ cs, C ≠ CO
  nodup : cs.Nodup
  com : Common K
section
variable {K : PySem.W.Frag} {CO fI C D : Addr} {cs : List Addr}
theorem All8.ok (h : All8 K CO fI cs) (hc : C ∈ cs) : ErrOk K C := by
  obtain ⟨x, e⟩ := h.low C hc
  exact e.ok h.com rfl rfl
theorem All8.okO (h : All8 K CO fI cs) : ErrOk K CO := h.top.ok h.com rfl rfl
theorem All8.kit (h : All8 K CO fI cs) (hc : C ∈ cs) (hd : D ∈ cs) : PySem.W.kitOne K (.ref C) (.ref D) = some (decide (C = D)) := by
  obtain ⟨x, e⟩ := h.low C hc
  obtain ⟨y, e'⟩ := h.low D hd
  exact kit_low e e' (h.ne D hd)
theorem All8.kitO (h : All8 K CO fI cs) (hd : D ∈ cs) : PySem.W.kitOne K (.ref CO) (.ref D) = some (decide (CO = D)) := by
  obtain ⟨y, e'⟩ := h.low D hd
  exact kit_base h.top e'
theorem All8.up (h : All8 K CO fI cs) (hc : C ∈ cs) : PySem.W.kitOne K (.ref C) (.ref CO) = some true := by
  obtain ⟨x, e⟩ := h.low C hc
  exact kit_top e h.top
theorem All8.val (h : All8 K CO fI cs) (hc : C ∈ cs) : PySem.W.kitOne K (.ref C) (.type "ValueError") = some true := by
  obtain ⟨x, e⟩ := h.low C hc
  exact kit_val e
end
section
variable {K : PySem.W.Frag} {σ : L2.St} {H : Hp} {ta tb te : TE} {tr : TA} {i : Int} {b : Bool} {t : String}
theorem vl_isI8 (h : Vl te σ H (.int i)) (k : kitB "int" t = some b) : Vl (tCB (rIsi K) (tCons te (tCons (tC (.ty t)) tNil))) σ H (.bl b) := vl_cb (va_cons h (va_cons vl_c va_nil)) fun _ q => ⟨.int i, .ty t, .type "int", .type t, b, rfl, .ty _, .base (.int _), kit_ty k, q⟩
theorem vm_part {cs : List Addr} {lo i : Nat} {n : Int} (h : Va tr σ H [.int (i : Int), .int n]) : Vm (tCall (spPart cs lo) [] E0 tr) σ H (fun v H' => Same H H' ∧ ((∃ j a C, i = lo + j ∧ cs[j]? = some C ∧ v = .ref a ∧ IsErr H' a C (.int n)) ∨ ((i < lo ∨ lo + cs.length ≤ i) ∧ v = .non))) := fun Q q => h _ (by
  show spPart cs lo ([.int (i : Int), .int n] ++ []) H Q E0
  exact ⟨i, n, rfl, fun j C e1 e2 a H' s' hE => q _ _ ⟨s', .inl ⟨j, a, C, e1, e2, rfl, hE⟩⟩, fun hi => q _ _ ⟨Same.refl H, .inr ⟨hi, rfl⟩⟩⟩)
theorem vm_kinds {cs : List Addr} {a C : Addr} {v : V} (h : Va tr σ H [.ref a]) (hE : IsErr H a C v) (T : ErrOk K C) (hk : ∀ D ∈ cs, PySem.W.kitOne K (.ref C) (.ref D) = some (decide (C = D))) :
    Vm (tCall (spKinds K cs) [] E0 tr) σ H (fun v H' => Same H H' ∧ ∃ p, v = .ref p ∧ H' p = some (.lst ((cs.map fun D => decide (C = D)).map V.bl))) := fun Q q => h _ (by
  show spKinds K cs ([.ref a] ++ []) H Q E0
  exact ⟨a, C, v, rfl, hE, T, hk, fun p H' s' e => q _ _ ⟨s', p, rfl, e⟩⟩)
/-- two lists of booleans, the same -/
theorem ne_bools {p p2 : Addr} {bs : List Bool} {xs : List V} {Q : VK} (h1 : H p = some (.lst (bs.map V.bl))) (h2 : H p2 = some (.lst xs)) (e : bs.map V.bl = xs) (q : Q (.bl false) H) : rNeD K (.ref p) (.ref p2) H Q := by
  subst e
  refine ⟨_, _, .lst (.of h1) (DpAll.bools bs), .lst (.of h2) (DpAll.bools bs), shaped_bools bs, shaped_bools bs, ?_⟩
  rw [eqv_bools]
  exact q
theorem eq_bools {p p2 : Addr} {bs : List Bool} {xs : List V} {Q : VK} (h1 : H p = some (.lst (bs.map V.bl))) (h2 : H p2 = some (.lst xs)) (e : bs.map V.bl = xs) (q : Q (.bl true) H) : rEqD K (.ref p) (.ref p2) H Q := by
  subst e
  refine ⟨_, _, .lst (.of h1) (DpAll.bools bs), .lst (.of h2) (DpAll.bools bs), shaped_bools bs, shaped_bools bs, ?_⟩
  rw [eqv_bools]
  exact q
end
section
variable {P : Program} {w : World} {K : PySem.W.Frag} {mg : Str → Option Value} {base : Heap} {CO fI : Addr} {cs1 cs2 : List Addr}
theorem ok_law {f : Addr} {fd : FuncData} (F : Fun K "law" "law" sLaw f fd) (A8 : All8 K CO fI (cs1 ++ cs2)) (l1 : cs1.length = 6) (l2 : cs2.length = 5) (hO : PySem.LowX.LowTxt K mg "OverpassesError" CO fI)
    (c_law_first : Kal P w K mg base 2 "_law_first" ["k", "n"] (spPart cs1 0)) (c_law_second : Kal P w K mg base 2 "_law_second" ["k", "n"] (spPart cs2 6)) (c_law_kinds : Kal P w K mg base 1 "_law_kinds" ["e"] (spKinds K (cs1 ++ cs2)))
    (ml : mg "len" = none) (mi : mg "int" = none) (mr : mg "range" = none) (ms : mg "isinstance" = none) (mb : mg "bool" = none) (mv : mg "ValueError" = none) : FnOk P w K mg base CX0 4 f fd ["script"] (spLaw K) := by
  refine F.ok scLaw (fun vs H Q E h => ?_) (fun cdv A outer s H vs Q E hr h => ?_)
  · obtain ⟨a, ns, rfl, _⟩ := h
    rfl
  · obtain ⟨a, ns, rfl, hS, hlen, q⟩ := h
    refine ⟨_, pss_cons (ps_set (i := 1) scLaw.nd rfl (.inl rfl) pe_int)
      (Evl.pss_cut (ps_if (pt_cmpR op_gt (pe_callB call_len_seq (by rfl) ml PySem.boot_len (pa_cons (pv 0) pa_nil)) pe_int (nomark _))
      (pss_one (ps_set (i := 1) scLaw.nd rfl (.inl rfl) (pe_op op_sub (pe_op op_mod (pe_callTy call_int1 (by rfl) mi (by decide +kernel) (pa_cons (pe_ix ix_list (pv 0) pe_int (fun _ _ => rfl)) pa_nil)) (pe_op op_pow pe_int pe_int)) (pe_op op_pow pe_int pe_int))))
      pss_nil)
      (pss_cons (ps_for PassesOwn.never rfl (pi_range1 (by rfl) mr (pa_cons pe_int pa_nil)) (pg_name (i := 2) scLaw.nd rfl (.inr rfl))
      (pss_cons (ps_set (i := 3) scLaw.nd rfl (.inl rfl) (pe_k c_law_first hr (by first | decide | omega) (by rfl) (pa_cons (pv 2) (pa_cons (pe_op op_add (pv 1) (pv 2)) pa_nil))))
        (Evl.pss_cut (ps_if (pt_cmpR op_ge (pv 2) pe_int (nomark _))
        (pss_one (ps_set (i := 3) scLaw.nd rfl (.inl rfl) (pe_k c_law_second hr (by first | decide | omega) (by rfl) (pa_cons (pv 2) (pa_cons (pe_op op_add (pv 1) (pv 2)) pa_nil)))))
        pss_nil)
        (pss_cons (ps_if (PW.pt (pw_or (pt_not (pt_val (pe_callB call_isErr (by rfl) ms (by decide +kernel) (pa_cons (pv 3) (pa_cons (pe_glob (v := .ref CO) (by rfl) hO.gC rfl) pa_nil))))) (pw_or1 (pt_not (pt_val (pe_callB call_isErr (by rfl) ms (by decide +kernel) (pa_cons (pv 3) (pa_cons (pe_bltn (v := .ty "ValueError") (by rfl) mv (by decide +kernel) rfl) pa_nil))))))))
        (pss_one (ps_ret pe_bl))
        pss_nil)
        (pss_cons (ps_if (PW.pt (pw_or (pt_not (pt_val (pe_callB call_isi (by rfl) ms (by decide +kernel) (pa_cons (pe_atErr (pv 3)) (pa_cons (pe_bltn (v := .ty "int") (by rfl) mi (by decide +kernel) rfl) pa_nil))))) (pw_or (pt_val (pe_callB call_isi (by rfl) ms (by decide +kernel) (pa_cons (pe_atErr (pv 3)) (pa_cons (pe_bltn (v := .ty "bool") (by rfl) mb (by decide +kernel) rfl) pa_nil)))) (pw_or1 (pt_cmpR op_ne (pe_atErr (pv 3)) (pe_op op_add (pv 1) (pv 2)) (nomark _))))))
        (pss_one (ps_ret pe_bl))
        pss_nil)
        (pss_one (ps_if (pt_cmpR (op_neD hr.units) (pe_k c_law_kinds hr (by first | decide | omega) (by rfl) (pa_cons (pv 3) pa_nil)) (pe_lc (own := [("j", 5)]) (g := gName 5) (tt := tYes) (te := tOp rEq (tVar 5) (tVar 2)) (by rfl) scLaw.nd (pi_range1 (by rfl) mr (pa_cons pe_int pa_nil)) (blkOk_by (own := [("j", 5)]) (N := ["script", "number", "k", "e", "base", "j"]) (sc := defScope sLaw) (by decide +kernel)) (fun _ _ _ _ _ => pg_name (i := 5) scLaw.nd rfl (Or.inl rfl)) (fun _ _ _ _ _ => by exact pts_nil) (fun _ _ _ _ _ => by exact (pe_cmpR op_eq (pv 5) (pv 2) (nomark _)))) (nomark _))
        (pss_one (ps_ret pe_bl))
        pss_nil)))))))
      (pss_cons (ps_set (i := 4) scLaw.nd rfl (.inl rfl) (pe_newErr hO hr (pa_cons (pv 1) pa_nil)))
      (pss_one (ps_ret (pe_and (pe_cmpR op_eq (pe_atErr (pv 4)) (pv 1) (nomark _)) (pe_one (pe_cmpR (op_eqD hr.units) (pe_k c_law_kinds hr (by first | decide | omega) (by rfl) (pa_cons (pv 4) pa_nil)) (pe_lc (own := [("j", 5)]) (g := gName 5) (tt := tYes) (te := tC (.bl false)) (by rfl) scLaw.nd (pi_range1 (by rfl) mr (pa_cons pe_int pa_nil)) (blkOk_by (own := [("j", 5)]) (N := ["script", "number", "k", "e", "base", "j"]) (sc := defScope sLaw) (by decide +kernel)) (fun _ _ _ _ _ => pg_name (i := 5) scLaw.nd rfl (Or.inl rfl)) (fun _ _ _ _ _ => by exact pts_nil) (fun _ _ _ _ _ => by exact pe_bl)) (nomark _))))))))), ?_⟩
    have lc : (cs1 ++ cs2).length = 11 := by
      rw [List.length_append, l1, l2]
    -- number
    refine q_asg vl_c ?_
    refine q_cut (M := fun σ' H' => H = H' ∧ ∃ n : Int, σ' = [some (.ref a), some (.int n), none, none, none, none]) ?_ (fun σ' H' hM => ?_)
    · refine g_if (b := decide ((ns.length : Int) > 0)) (by exact an_test (vl_I0 ((vl_lenL (vl_var rfl) hS).is (by rw [List.length_map])) vl_c)) (fun hb => ?_) (fun _ => ⟨rfl, _, rfl⟩)
      have hb := of_decide_eq_true hb
      cases ns with
      | nil => exact absurd hb (by decide)
      | cons d r =>
        refine g_asg (vl_I0 (vl_I (vl_int1 (vl_ixL (vl_var rfl) vl_c hS (atI_nat (j := 0) rfl))) (vl_I vl_c vl_c ⟨by decide, by decide⟩) (by decide)) (vl_I vl_c vl_c ⟨by decide, by decide⟩)) ⟨rfl, _, rfl⟩
    obtain ⟨rfl, n, rfl⟩ := hM
    -- each kind
    refine q_forR (j := 2) (n := 11) (va_cons vl_c va_nil) (by decide) (fun i σ H' => Same H H' ∧ ∃ y2 y3, σ = [some (.ref a), some (.int n), y2, y3, none, none]) ⟨Same.refl H, none, none, rfl⟩ (fun i σ H1 hi hP => ?_) (fun σ H1 hP => ?_)
    · obtain ⟨s1, y2, y3, rfl⟩ := hP
      have hi : i < 11 := by omega
      refine q_asgE ((vm_part (i := i) (n := n + i) (va_cons (vl_var rfl) (va_cons (vl_I0 (vl_var rfl) (vl_var rfl)) va_nil))) _ fun v H2 hM => ?_)
      obtain ⟨s2, hM⟩ := hM
      refine q_cut (M := fun σ' H' => Same H H' ∧ ∃ b C, (cs1 ++ cs2)[i]? = some C ∧ IsErr H' b C (.int (n + i)) ∧ σ' = [some (.ref a), some (.int n), some (.int (i : Int)), some (.ref b), none, none]) ?_ (fun σ' H3 hM3 => ?_)
      · refine g_if (b := decide ((i : Int) ≥ 6)) (by exact an_test (vl_I0 (vl_var rfl) vl_c)) (fun hb => ?_) (fun hb => ?_)
        · have hb := of_decide_eq_true hb
          refine g_asgE ((vm_part (i := i) (n := n + i) (va_cons (vl_var rfl) (va_cons (vl_I0 (vl_var rfl) (vl_var rfl)) va_nil))) _ fun v H3 hM3 => ?_)
          obtain ⟨s3, ⟨j, b, C, ej, ec, rfl, hE⟩ | ⟨hh, _⟩⟩ := hM3
          · refine ⟨(s1.trans s2).trans s3, b, C, ?_, hE, rfl⟩
            rw [List.getElem?_append_right (by omega), l1, show i - 6 = j by omega]
            exact ec
          · rw [l2] at hh
            omega
        · have hb := of_decide_eq_false hb
          obtain ⟨j, b, C, ej, ec, rfl, hE⟩ | ⟨hh, _⟩ := hM
          · refine ⟨s1.trans s2, b, C, ?_, hE, rfl⟩
            rw [List.getElem?_append_left (by omega), show i = j by omega]
            exact ec
          · rw [l1] at hh
            omega
      obtain ⟨s3, b, C, hC, hE, rfl⟩ := hM3
      have hm : C ∈ cs1 ++ cs2 := List.mem_of_getElem? hC
      have T := A8.ok hm
      refine q_when (b := false) (by exact An.is (an_or (an_not (an_B (vl_isErr (vl_var rfl) vl_c hE T (.own _) (A8.up hm)))) (fun _ => an_not (an_B (vl_isErr (vl_var rfl) vl_c hE T (.ty _) (A8.val hm))))) rfl) (fun z => nomatch z) (fun _ => ?_)
      refine q_when (b := false) (by exact An.is (an_or (an_not (an_B (vl_isI8 (vl_atErr (vl_var rfl) hE T) (b := true) (by decide +kernel)))) (fun _ => an_or (an_B (vl_isI8 (vl_atErr (vl_var rfl) hE T) (b := false) (by decide +kernel))) (fun _ => an_test (vl_ne (vl_atErr (vl_var rfl) hE T) (vl_I0 (vl_var rfl) (vl_var rfl)) rfl)))) (by rw [decide_eq_true rfl]; rfl)) (fun z => nomatch z) (fun _ => ?_)
      refine (vm_kinds (va_cons (vl_var rfl) va_nil) hE T (fun D hD => A8.kit hm hD)) _ fun v H4 hK => ?_
      obtain ⟨s4, p, rfl, hp⟩ := hK
      refine (vn_lcR (n := 11) (pb := fun _ => true) (f := fun x => V.bl (decide (V.int x = V.int (i : Int)))) (va_cons vl_c va_nil) (by decide) (by decide) (fun _ _ _ _ _ => fun _ k => k) (fun _ _ _ _ _ => vl_eq (vl_var rfl) (vl_var rfl) rfl)) _ fun p2 H5 s5 _ hp2 => ?_
      refine ne_bools (s5 _ _ hp) hp2 ?_ ⟨false, rfl, iteF ⟨((s3.trans s4).trans s5), _, _, rfl⟩⟩
      rw [kinds_eq A8.nodup hC, lc]
      rfl
    · obtain ⟨s1, y2, y3, rfl⟩ := hP
      refine q_asgE ((va_cons (vl_var rfl) va_nil) _ ⟨_, rfl, fun b H2 s2 hE => ?_⟩)
      have T := A8.okO
      refine (vl_eq (vl_atErr (vl_var rfl) hE T) (vl_var rfl) rfl) _ ⟨_, rfl, if_true_of (decide_eq_true rfl) ?_⟩
      refine (vm_kinds (va_cons (vl_var rfl) va_nil) hE T (fun D hD => A8.kitO hD)) _ fun v H4 hK => ?_
      obtain ⟨s4, p, rfl, hp⟩ := hK
      refine (vn_lcR (n := 11) (pb := fun _ => true) (f := fun _ => V.bl false) (va_cons vl_c va_nil) (by decide) (by decide) (fun _ _ _ _ _ => fun _ k => k) (fun _ _ _ _ _ => vl_c)) _ fun p2 H5 s5 _ hp2 => ?_
      refine eq_bools (s5 _ _ hp) hp2 ?_ (q _)
      rw [kinds_no (fun D hD => (A8.ne D hD).symm), lc]
      rfl
end
/-! ### what the top has written; the law's own head -/
theorem df_mk {K : PySem.W.Frag} {h : Heap} {mg : Str → Option Value} {x : Str} {st : Stmt} {ps : List Str} {f : Addr} {oc : Value} {od an : Option Addr} {osl : Array (Option Value)} {kV doc pm cdv ct : Value} (X : K.In h) (G : h.Ns mainGlobals mg)
    (a : PySem.W.nsIn K mainGlobals x = some (some (.ref f))) (l : K.lookup f = some ⟨oc, od, .func (PySem.W.fnOf x x (defArgs st) (defBody st) (defScope st) .none kV doc pm an cdv ct), osl⟩) (c : PySem.W.codeIn K cdv x = true) (k : PySem.W.keepIn K (.ref f) = true)
    (hb : ∀ (kV doc pm : Value) (an : Option Addr) (cdv ct : Value) (us : List Value), us.length = ps.length → bindArgs (PySem.W.fnOf x x (defArgs st) (defBody st) (defScope st) .none kV doc pm an cdv ct) ⟨us, []⟩ = pure (ps.zip us)) : Df K mg x st ps :=
  ⟨f, _, fun_mk l c k, PySem.W.mg_of X G a, (fun_mk l c k).binds hb⟩
structure InitAt (K : PySem.W.Frag) (fI : Addr) : Prop where
  t : PySem.W.typeIn K (.ref fI) = some (.type "function")
  l : ∃ oc od dc pm an cd ct sl, K.lookup fI = some ⟨oc, od, .func (PySem.W.fnOf "__init__" "OverpassesError.__init__" (PySem.LowX.iA ⟨4, 17, 4, 21⟩ ⟨4, 23, 4, 25⟩) (PySem.LowX.iB ⟨5, 8, 5, 12⟩ ⟨5, 8, 5, 15⟩ ⟨5, 18, 5, 20⟩ ⟨5, 8, 5, 20⟩) PySem.LowX.iS .none .none dc pm an cd ct), sl⟩ ∧ PySem.W.codeIn K cd "OverpassesError.__init__" = true
theorem low_mk {K : PySem.W.Frag} {h : Heap} {mg : Str → Option Value} {x : Str} {C fI : Addr} {bm : List Value} (X : K.In h) (G : h.Ns mainGlobals mg) (E : Err8 K x C fI bm) (I : InitAt K fI) (hb : bm.contains (.type "BaseException") = true) : PySem.LowX.LowTxt K mg x C fI := by
  obtain ⟨q, N, bs, sn, sub, ab, col, dd, m0, m1, m2, m3, m5, xL⟩ := E.xL
  obtain ⟨oc, od, dc, pm, an, cd, ct, sl, l1, c1⟩ := I.l
  have eC : PySem.W.subIn K (.ref C) (.type "BaseException") = some true := by
    rw [E.sub, List.contains_cons, hb, Bool.or_true]
  have sC : PySem.W.subIn K (.ref C) (.ref C) = some true := by
    rw [E.sub, List.contains_cons, beq_self_eq_true, Bool.true_or]
  exact { gC := PySem.W.mg_of X G E.a, cls := ⟨x, q, N, bs, bm, sn, sub, ab, col, dd, m0, m1, m2, m3, m5, xL, E.bm⟩, sa := E.sa, ga := E.ga, gg := E.gg, noN := E.nb, iC := E.ii, tC := I.t, kC := E.kC, exC := eC, tyC := E.ty, hdC := E.dict, te := PySem.W.exm_ref eC E.dict E.ty sC, fn := ⟨_, _, _, _, _, _, _, _, _, _, _, _, _, _, l1, c1⟩ }
theorem all_mk {l : PySem.W.OpenLaw} {w : World} {K : PySem.W.Frag} {h : Heap} {mg : Str → Option Value} {fa f0 f1 f2 f3 : Addr} (X : K.In h) (G : h.Ns mainGlobals mg) (hfa : mg "law" = some (.ref fa))
    {od0 an0 od1 an1 od2 an2 od3 an3 : Option Addr} {sl0 sl1 sl2 sl3 : Array (Option Value)} {oc0 kV0 dc0 pm0 cd0 ct0 oc1 kV1 dc1 pm1 cd1 ct1 oc2 kV2 dc2 pm2 cd2 ct2 oc3 kV3 dc3 pm3 cd3 ct3 : Value}
    (a0 : PySem.W.nsIn K mainGlobals "_law_first" = some (some (.ref f0))) (l0 : K.lookup f0 = some ⟨oc0, od0, .func (PySem.W.fnOf "_law_first" "_law_first" (defArgs sFirst8) (defBody sFirst8) (defScope sFirst8) .none kV0 dc0 pm0 an0 cd0 ct0), sl0⟩) (c0 : PySem.W.codeIn K cd0 "_law_first" = true) (k0 : PySem.W.keepIn K (.ref f0) = true)
    (a1 : PySem.W.nsIn K mainGlobals "_law_second" = some (some (.ref f1))) (l1 : K.lookup f1 = some ⟨oc1, od1, .func (PySem.W.fnOf "_law_second" "_law_second" (defArgs sSecond8) (defBody sSecond8) (defScope sSecond8) .none kV1 dc1 pm1 an1 cd1 ct1), sl1⟩) (c1 : PySem.W.codeIn K cd1 "_law_second" = true) (k1 : PySem.W.keepIn K (.ref f1) = true)
    (a2 : PySem.W.nsIn K mainGlobals "_law_kinds" = some (some (.ref f2))) (l2 : K.lookup f2 = some ⟨oc2, od2, .func (PySem.W.fnOf "_law_kinds" "_law_kinds" (defArgs sKinds8) (defBody sKinds8) (defScope sKinds8) .none kV2 dc2 pm2 an2 cd2 ct2), sl2⟩) (c2 : PySem.W.codeIn K cd2 "_law_kinds" = true) (k2 : PySem.W.keepIn K (.ref f2) = true)
    (a3 : PySem.W.nsIn K mainGlobals "law" = some (some (.ref f3))) (l3 : K.lookup f3 = some ⟨oc3, od3, .func (PySem.W.fnOf "law" "law" (defArgs sLaw) (defBody sLaw) (defScope sLaw) .none kV3 dc3 pm3 an3 cd3 ct3), sl3⟩) (c3 : PySem.W.codeIn K cd3 "law" = true) (k3 : PySem.W.keepIn K (.ref f3) = true)
    {CO fI : Addr} {C0 C1 C2 C3 C4 C5 C6 C7 C8 C9 C10 : Addr} {ocI : Value} {odI anI : Option Addr} {slI : Array (Option Value)} {dcI pmI cdI ctI : Value}
    (tI : PySem.W.typeIn K (.ref fI) = some (.type "function")) (lI : K.lookup fI = some ⟨ocI, odI, .func (PySem.W.fnOf "__init__" "OverpassesError.__init__" (PySem.LowX.iA ⟨4, 17, 4, 21⟩ ⟨4, 23, 4, 25⟩) (PySem.LowX.iB ⟨5, 8, 5, 12⟩ ⟨5, 8, 5, 15⟩ ⟨5, 18, 5, 20⟩ ⟨5, 8, 5, 20⟩) PySem.LowX.iS .none .none dcI pmI anI cdI ctI), slI⟩) (cI : PySem.W.codeIn K cdI "OverpassesError.__init__" = true)
    {q100 : Str} {N100 : Addr} {bs100 : List Value} {sn100 : List Str} {sub100 : List Value} {ab100 : Bool} {col100 : Option Bool} {dd100 : Option Addr} {m0100 : Option Value} {m1100 : Option Value} {m2100 : Option Value} {m3100 : Option Value} {m5100 : Option Value}
    (ea0 : PySem.W.nsIn K mainGlobals "BadLine" = some (some (.ref C0))) (ex0 : K.lookup C0 = some (excClassObj "BadLine" q100 C0 N100 bs100 [.ref CO, .type "ValueError", .type "Exception", .type "BaseException", .type "object"] true sn100 sub100 ab100 col100 dd100 m0100 m1100 m2100 m3100 m5100 "ValueError.__new__"))
    (es0 : PySem.W.findIn K (.ref C0) "__setattr__" = some (some (.builtin "object.__setattr__"))) (eg0 : PySem.W.findIn K (.ref C0) "__getattribute__" = some (some (.builtin "BaseException.__getattribute__"))) (eh0 : PySem.W.findIn K (.ref C0) "__getattr__" = some none) (en0 : PySem.W.findIn K (.ref C0) "at" = some none) (ei0 : PySem.W.findIn K (.ref C0) "__init__" = some (some (.ref fI)))
    (ek0 : PySem.W.keepIn K (.ref C0) = true) (ez0 : PySem.W.findIn K (.ref C0) "__class__" = some (some (.builtin "object.__class__")))
    {q101 : Str} {N101 : Addr} {bs101 : List Value} {sn101 : List Str} {sub101 : List Value} {ab101 : Bool} {col101 : Option Bool} {dd101 : Option Addr} {m0101 : Option Value} {m1101 : Option Value} {m2101 : Option Value} {m3101 : Option Value} {m5101 : Option Value}
    (ea1 : PySem.W.nsIn K mainGlobals "BadPlace" = some (some (.ref C1))) (ex1 : K.lookup C1 = some (excClassObj "BadPlace" q101 C1 N101 bs101 [.ref CO, .type "ValueError", .type "Exception", .type "BaseException", .type "object"] true sn101 sub101 ab101 col101 dd101 m0101 m1101 m2101 m3101 m5101 "ValueError.__new__"))
    (es1 : PySem.W.findIn K (.ref C1) "__setattr__" = some (some (.builtin "object.__setattr__"))) (eg1 : PySem.W.findIn K (.ref C1) "__getattribute__" = some (some (.builtin "BaseException.__getattribute__"))) (eh1 : PySem.W.findIn K (.ref C1) "__getattr__" = some none) (en1 : PySem.W.findIn K (.ref C1) "at" = some none) (ei1 : PySem.W.findIn K (.ref C1) "__init__" = some (some (.ref fI)))
    (ek1 : PySem.W.keepIn K (.ref C1) = true) (ez1 : PySem.W.findIn K (.ref C1) "__class__" = some (some (.builtin "object.__class__")))
    {q102 : Str} {N102 : Addr} {bs102 : List Value} {sn102 : List Str} {sub102 : List Value} {ab102 : Bool} {col102 : Option Bool} {dd102 : Option Addr} {m0102 : Option Value} {m1102 : Option Value} {m2102 : Option Value} {m3102 : Option Value} {m5102 : Option Value}
    (ea2 : PySem.W.nsIn K mainGlobals "BadPrice" = some (some (.ref C2))) (ex2 : K.lookup C2 = some (excClassObj "BadPrice" q102 C2 N102 bs102 [.ref CO, .type "ValueError", .type "Exception", .type "BaseException", .type "object"] true sn102 sub102 ab102 col102 dd102 m0102 m1102 m2102 m3102 m5102 "ValueError.__new__"))
    (es2 : PySem.W.findIn K (.ref C2) "__setattr__" = some (some (.builtin "object.__setattr__"))) (eg2 : PySem.W.findIn K (.ref C2) "__getattribute__" = some (some (.builtin "BaseException.__getattribute__"))) (eh2 : PySem.W.findIn K (.ref C2) "__getattr__" = some none) (en2 : PySem.W.findIn K (.ref C2) "at" = some none) (ei2 : PySem.W.findIn K (.ref C2) "__init__" = some (some (.ref fI)))
    (ek2 : PySem.W.keepIn K (.ref C2) = true) (ez2 : PySem.W.findIn K (.ref C2) "__class__" = some (some (.builtin "object.__class__")))
    {q103 : Str} {N103 : Addr} {bs103 : List Value} {sn103 : List Str} {sub103 : List Value} {ab103 : Bool} {col103 : Option Bool} {dd103 : Option Addr} {m0103 : Option Value} {m1103 : Option Value} {m2103 : Option Value} {m3103 : Option Value} {m5103 : Option Value}
    (ea3 : PySem.W.nsIn K mainGlobals "WrongOrder" = some (some (.ref C3))) (ex3 : K.lookup C3 = some (excClassObj "WrongOrder" q103 C3 N103 bs103 [.ref CO, .type "ValueError", .type "Exception", .type "BaseException", .type "object"] true sn103 sub103 ab103 col103 dd103 m0103 m1103 m2103 m3103 m5103 "ValueError.__new__"))
    (es3 : PySem.W.findIn K (.ref C3) "__setattr__" = some (some (.builtin "object.__setattr__"))) (eg3 : PySem.W.findIn K (.ref C3) "__getattribute__" = some (some (.builtin "BaseException.__getattribute__"))) (eh3 : PySem.W.findIn K (.ref C3) "__getattr__" = some none) (en3 : PySem.W.findIn K (.ref C3) "at" = some none) (ei3 : PySem.W.findIn K (.ref C3) "__init__" = some (some (.ref fI)))
    (ek3 : PySem.W.keepIn K (.ref C3) = true) (ez3 : PySem.W.findIn K (.ref C3) "__class__" = some (some (.builtin "object.__class__")))
    {q104 : Str} {N104 : Addr} {bs104 : List Value} {sn104 : List Str} {sub104 : List Value} {ab104 : Bool} {col104 : Option Bool} {dd104 : Option Addr} {m0104 : Option Value} {m1104 : Option Value} {m2104 : Option Value} {m3104 : Option Value} {m5104 : Option Value}
    (ea4 : PySem.W.nsIn K mainGlobals "NoLink" = some (some (.ref C4))) (ex4 : K.lookup C4 = some (excClassObj "NoLink" q104 C4 N104 bs104 [.ref CO, .type "ValueError", .type "Exception", .type "BaseException", .type "object"] true sn104 sub104 ab104 col104 dd104 m0104 m1104 m2104 m3104 m5104 "ValueError.__new__"))
    (es4 : PySem.W.findIn K (.ref C4) "__setattr__" = some (some (.builtin "object.__setattr__"))) (eg4 : PySem.W.findIn K (.ref C4) "__getattribute__" = some (some (.builtin "BaseException.__getattribute__"))) (eh4 : PySem.W.findIn K (.ref C4) "__getattr__" = some none) (en4 : PySem.W.findIn K (.ref C4) "at" = some none) (ei4 : PySem.W.findIn K (.ref C4) "__init__" = some (some (.ref fI)))
    (ek4 : PySem.W.keepIn K (.ref C4) = true) (ez4 : PySem.W.findIn K (.ref C4) "__class__" = some (some (.builtin "object.__class__")))
    {q105 : Str} {N105 : Addr} {bs105 : List Value} {sn105 : List Str} {sub105 : List Value} {ab105 : Bool} {col105 : Option Bool} {dd105 : Option Addr} {m0105 : Option Value} {m1105 : Option Value} {m2105 : Option Value} {m3105 : Option Value} {m5105 : Option Value}
    (ea5 : PySem.W.nsIn K mainGlobals "NoPlace" = some (some (.ref C5))) (ex5 : K.lookup C5 = some (excClassObj "NoPlace" q105 C5 N105 bs105 [.ref CO, .type "ValueError", .type "Exception", .type "BaseException", .type "object"] true sn105 sub105 ab105 col105 dd105 m0105 m1105 m2105 m3105 m5105 "ValueError.__new__"))
    (es5 : PySem.W.findIn K (.ref C5) "__setattr__" = some (some (.builtin "object.__setattr__"))) (eg5 : PySem.W.findIn K (.ref C5) "__getattribute__" = some (some (.builtin "BaseException.__getattribute__"))) (eh5 : PySem.W.findIn K (.ref C5) "__getattr__" = some none) (en5 : PySem.W.findIn K (.ref C5) "at" = some none) (ei5 : PySem.W.findIn K (.ref C5) "__init__" = some (some (.ref fI)))
    (ek5 : PySem.W.keepIn K (.ref C5) = true) (ez5 : PySem.W.findIn K (.ref C5) "__class__" = some (some (.builtin "object.__class__")))
    {q106 : Str} {N106 : Addr} {bs106 : List Value} {sn106 : List Str} {sub106 : List Value} {ab106 : Bool} {col106 : Option Bool} {dd106 : Option Addr} {m0106 : Option Value} {m1106 : Option Value} {m2106 : Option Value} {m3106 : Option Value} {m5106 : Option Value}
    (ea6 : PySem.W.nsIn K mainGlobals "NotAnOrder" = some (some (.ref C6))) (ex6 : K.lookup C6 = some (excClassObj "NotAnOrder" q106 C6 N106 bs106 [.ref CO, .type "ValueError", .type "Exception", .type "BaseException", .type "object"] true sn106 sub106 ab106 col106 dd106 m0106 m1106 m2106 m3106 m5106 "ValueError.__new__"))
    (es6 : PySem.W.findIn K (.ref C6) "__setattr__" = some (some (.builtin "object.__setattr__"))) (eg6 : PySem.W.findIn K (.ref C6) "__getattribute__" = some (some (.builtin "BaseException.__getattribute__"))) (eh6 : PySem.W.findIn K (.ref C6) "__getattr__" = some none) (en6 : PySem.W.findIn K (.ref C6) "at" = some none) (ei6 : PySem.W.findIn K (.ref C6) "__init__" = some (some (.ref fI)))
    (ek6 : PySem.W.keepIn K (.ref C6) = true) (ez6 : PySem.W.findIn K (.ref C6) "__class__" = some (some (.builtin "object.__class__")))
    {q107 : Str} {N107 : Addr} {bs107 : List Value} {sn107 : List Str} {sub107 : List Value} {ab107 : Bool} {col107 : Option Bool} {dd107 : Option Addr} {m0107 : Option Value} {m1107 : Option Value} {m2107 : Option Value} {m3107 : Option Value} {m5107 : Option Value}
    (ea7 : PySem.W.nsIn K mainGlobals "NoPair" = some (some (.ref C7))) (ex7 : K.lookup C7 = some (excClassObj "NoPair" q107 C7 N107 bs107 [.ref CO, .type "ValueError", .type "Exception", .type "BaseException", .type "object"] true sn107 sub107 ab107 col107 dd107 m0107 m1107 m2107 m3107 m5107 "ValueError.__new__"))
    (es7 : PySem.W.findIn K (.ref C7) "__setattr__" = some (some (.builtin "object.__setattr__"))) (eg7 : PySem.W.findIn K (.ref C7) "__getattribute__" = some (some (.builtin "BaseException.__getattribute__"))) (eh7 : PySem.W.findIn K (.ref C7) "__getattr__" = some none) (en7 : PySem.W.findIn K (.ref C7) "at" = some none) (ei7 : PySem.W.findIn K (.ref C7) "__init__" = some (some (.ref fI)))
    (ek7 : PySem.W.keepIn K (.ref C7) = true) (ez7 : PySem.W.findIn K (.ref C7) "__class__" = some (some (.builtin "object.__class__")))
    {q108 : Str} {N108 : Addr} {bs108 : List Value} {sn108 : List Str} {sub108 : List Value} {ab108 : Bool} {col108 : Option Bool} {dd108 : Option Addr} {m0108 : Option Value} {m1108 : Option Value} {m2108 : Option Value} {m3108 : Option Value} {m5108 : Option Value}
    (ea8 : PySem.W.nsIn K mainGlobals "NothingToUndo" = some (some (.ref C8))) (ex8 : K.lookup C8 = some (excClassObj "NothingToUndo" q108 C8 N108 bs108 [.ref CO, .type "ValueError", .type "Exception", .type "BaseException", .type "object"] true sn108 sub108 ab108 col108 dd108 m0108 m1108 m2108 m3108 m5108 "ValueError.__new__"))
    (es8 : PySem.W.findIn K (.ref C8) "__setattr__" = some (some (.builtin "object.__setattr__"))) (eg8 : PySem.W.findIn K (.ref C8) "__getattribute__" = some (some (.builtin "BaseException.__getattribute__"))) (eh8 : PySem.W.findIn K (.ref C8) "__getattr__" = some none) (en8 : PySem.W.findIn K (.ref C8) "at" = some none) (ei8 : PySem.W.findIn K (.ref C8) "__init__" = some (some (.ref fI)))
    (ek8 : PySem.W.keepIn K (.ref C8) = true) (ez8 : PySem.W.findIn K (.ref C8) "__class__" = some (some (.builtin "object.__class__")))
    {q109 : Str} {N109 : Addr} {bs109 : List Value} {sn109 : List Str} {sub109 : List Value} {ab109 : Bool} {col109 : Option Bool} {dd109 : Option Addr} {m0109 : Option Value} {m1109 : Option Value} {m2109 : Option Value} {m3109 : Option Value} {m5109 : Option Value}
    (ea9 : PySem.W.nsIn K mainGlobals "OutOfRange" = some (some (.ref C9))) (ex9 : K.lookup C9 = some (excClassObj "OutOfRange" q109 C9 N109 bs109 [.ref CO, .type "ValueError", .type "Exception", .type "BaseException", .type "object"] true sn109 sub109 ab109 col109 dd109 m0109 m1109 m2109 m3109 m5109 "ValueError.__new__"))
    (es9 : PySem.W.findIn K (.ref C9) "__setattr__" = some (some (.builtin "object.__setattr__"))) (eg9 : PySem.W.findIn K (.ref C9) "__getattribute__" = some (some (.builtin "BaseException.__getattribute__"))) (eh9 : PySem.W.findIn K (.ref C9) "__getattr__" = some none) (en9 : PySem.W.findIn K (.ref C9) "at" = some none) (ei9 : PySem.W.findIn K (.ref C9) "__init__" = some (some (.ref fI)))
    (ek9 : PySem.W.keepIn K (.ref C9) = true) (ez9 : PySem.W.findIn K (.ref C9) "__class__" = some (some (.builtin "object.__class__")))
    {q110 : Str} {N110 : Addr} {bs110 : List Value} {sn110 : List Str} {sub110 : List Value} {ab110 : Bool} {col110 : Option Bool} {dd110 : Option Addr} {m0110 : Option Value} {m1110 : Option Value} {m2110 : Option Value} {m3110 : Option Value} {m5110 : Option Value}
    (ea10 : PySem.W.nsIn K mainGlobals "NoTurn" = some (some (.ref C10))) (ex10 : K.lookup C10 = some (excClassObj "NoTurn" q110 C10 N110 bs110 [.ref CO, .type "ValueError", .type "Exception", .type "BaseException", .type "object"] true sn110 sub110 ab110 col110 dd110 m0110 m1110 m2110 m3110 m5110 "ValueError.__new__"))
    (es10 : PySem.W.findIn K (.ref C10) "__setattr__" = some (some (.builtin "object.__setattr__"))) (eg10 : PySem.W.findIn K (.ref C10) "__getattribute__" = some (some (.builtin "BaseException.__getattribute__"))) (eh10 : PySem.W.findIn K (.ref C10) "__getattr__" = some none) (en10 : PySem.W.findIn K (.ref C10) "at" = some none) (ei10 : PySem.W.findIn K (.ref C10) "__init__" = some (some (.ref fI)))
    (ek10 : PySem.W.keepIn K (.ref C10) = true) (ez10 : PySem.W.findIn K (.ref C10) "__class__" = some (some (.builtin "object.__class__")))
    {q111 : Str} {N111 : Addr} {bs111 : List Value} {sn111 : List Str} {sub111 : List Value} {ab111 : Bool} {col111 : Option Bool} {dd111 : Option Addr} {m0111 : Option Value} {m1111 : Option Value} {m2111 : Option Value} {m3111 : Option Value} {m5111 : Option Value}
    (ea11 : PySem.W.nsIn K mainGlobals "OverpassesError" = some (some (.ref CO))) (ex11 : K.lookup CO = some (excClassObj "OverpassesError" q111 CO N111 bs111 [.type "ValueError", .type "Exception", .type "BaseException", .type "object"] true sn111 sub111 ab111 col111 dd111 m0111 m1111 m2111 m3111 m5111 "ValueError.__new__"))
    (es11 : PySem.W.findIn K (.ref CO) "__setattr__" = some (some (.builtin "object.__setattr__"))) (eg11 : PySem.W.findIn K (.ref CO) "__getattribute__" = some (some (.builtin "BaseException.__getattribute__"))) (eh11 : PySem.W.findIn K (.ref CO) "__getattr__" = some none) (en11 : PySem.W.findIn K (.ref CO) "at" = some none) (ei11 : PySem.W.findIn K (.ref CO) "__init__" = some (some (.ref fI)))
    (ek11 : PySem.W.keepIn K (.ref CO) = true) (ez11 : PySem.W.findIn K (.ref CO) "__class__" = some (some (.builtin "object.__class__")))
    (hn : PySem.W.specialIn K (.builtin "object.__class__") "__get__" = some (some (.builtin "getset_descriptor.__get__"))) (ht : PySem.W.takesIn K (.builtin "object.__class__") = some true)
    (z0 : PySem.W.nsIn K mainGlobals "len" = some none) (z1 : PySem.W.nsIn K mainGlobals "int" = some none) (z2 : PySem.W.nsIn K mainGlobals "range" = some none) (z3 : PySem.W.nsIn K mainGlobals "isinstance" = some none) (z4 : PySem.W.nsIn K mainGlobals "bool" = some none) (z5 : PySem.W.nsIn K mainGlobals "ValueError" = some none) :
    ∃ fd : FuncData, (∀ (s : Shared) (v : Value), BindsTo s fd ⟨[v], []⟩ [("script", v)]) ∧ ∀ base : Heap, K.In base → base.Ns mainGlobals mg → FnOk l.prog w K mg base CX0 4 fa fd ["script"] (spLaw K) := by
  have e := hfa.symm.trans (PySem.W.mg_of X G a3)
  cases e
  have D__law_first : Df K mg "_law_first" sFirst8 ["k", "n"] := df_mk X G a0 l0 c0 k0 (fun _ _ _ _ _ _ us hl => match us, hl with | [_, _], _ => rfl)
  have D__law_second : Df K mg "_law_second" sSecond8 ["k", "n"] := df_mk X G a1 l1 c1 k1 (fun _ _ _ _ _ _ us hl => match us, hl with | [_, _], _ => rfl)
  have D__law_kinds : Df K mg "_law_kinds" sKinds8 ["e"] := df_mk X G a2 l2 c2 k2 (fun _ _ _ _ _ _ us hl => match us, hl with | [_], _ => rfl)
  have b_len := PySem.W.mg_none_of X G z0
  have b_int := PySem.W.mg_none_of X G z1
  have b_range := PySem.W.mg_none_of X G z2
  have b_isinstance := PySem.W.mg_none_of X G z3
  have b_bool := PySem.W.mg_none_of X G z4
  have b_ValueError := PySem.W.mg_none_of X G z5
  have e0 : Err8 K "BadLine" C0 fI (.ref CO :: mro8) := { a := ea0, xL := ⟨_, _, _, _, _, _, _, _, _, _, _, _, _, ex0⟩, bm := rfl, sa := es0, ga := eg0, gg := eh0, nb := en0, ii := ei0, kC := ek0, ha := ez0 }
  have h0 := low_mk X G e0 ⟨tI, _, _, _, _, _, _, _, _, lI, cI⟩ rfl
  have e1 : Err8 K "BadPlace" C1 fI (.ref CO :: mro8) := { a := ea1, xL := ⟨_, _, _, _, _, _, _, _, _, _, _, _, _, ex1⟩, bm := rfl, sa := es1, ga := eg1, gg := eh1, nb := en1, ii := ei1, kC := ek1, ha := ez1 }
  have h1 := low_mk X G e1 ⟨tI, _, _, _, _, _, _, _, _, lI, cI⟩ rfl
  have e2 : Err8 K "BadPrice" C2 fI (.ref CO :: mro8) := { a := ea2, xL := ⟨_, _, _, _, _, _, _, _, _, _, _, _, _, ex2⟩, bm := rfl, sa := es2, ga := eg2, gg := eh2, nb := en2, ii := ei2, kC := ek2, ha := ez2 }
  have h2 := low_mk X G e2 ⟨tI, _, _, _, _, _, _, _, _, lI, cI⟩ rfl
  have e3 : Err8 K "WrongOrder" C3 fI (.ref CO :: mro8) := { a := ea3, xL := ⟨_, _, _, _, _, _, _, _, _, _, _, _, _, ex3⟩, bm := rfl, sa := es3, ga := eg3, gg := eh3, nb := en3, ii := ei3, kC := ek3, ha := ez3 }
  have h3 := low_mk X G e3 ⟨tI, _, _, _, _, _, _, _, _, lI, cI⟩ rfl
  have e4 : Err8 K "NoLink" C4 fI (.ref CO :: mro8) := { a := ea4, xL := ⟨_, _, _, _, _, _, _, _, _, _, _, _, _, ex4⟩, bm := rfl, sa := es4, ga := eg4, gg := eh4, nb := en4, ii := ei4, kC := ek4, ha := ez4 }
  have h4 := low_mk X G e4 ⟨tI, _, _, _, _, _, _, _, _, lI, cI⟩ rfl
  have e5 : Err8 K "NoPlace" C5 fI (.ref CO :: mro8) := { a := ea5, xL := ⟨_, _, _, _, _, _, _, _, _, _, _, _, _, ex5⟩, bm := rfl, sa := es5, ga := eg5, gg := eh5, nb := en5, ii := ei5, kC := ek5, ha := ez5 }
  have h5 := low_mk X G e5 ⟨tI, _, _, _, _, _, _, _, _, lI, cI⟩ rfl
  have e6 : Err8 K "NotAnOrder" C6 fI (.ref CO :: mro8) := { a := ea6, xL := ⟨_, _, _, _, _, _, _, _, _, _, _, _, _, ex6⟩, bm := rfl, sa := es6, ga := eg6, gg := eh6, nb := en6, ii := ei6, kC := ek6, ha := ez6 }
  have h6 := low_mk X G e6 ⟨tI, _, _, _, _, _, _, _, _, lI, cI⟩ rfl
  have e7 : Err8 K "NoPair" C7 fI (.ref CO :: mro8) := { a := ea7, xL := ⟨_, _, _, _, _, _, _, _, _, _, _, _, _, ex7⟩, bm := rfl, sa := es7, ga := eg7, gg := eh7, nb := en7, ii := ei7, kC := ek7, ha := ez7 }
  have h7 := low_mk X G e7 ⟨tI, _, _, _, _, _, _, _, _, lI, cI⟩ rfl
  have e8 : Err8 K "NothingToUndo" C8 fI (.ref CO :: mro8) := { a := ea8, xL := ⟨_, _, _, _, _, _, _, _, _, _, _, _, _, ex8⟩, bm := rfl, sa := es8, ga := eg8, gg := eh8, nb := en8, ii := ei8, kC := ek8, ha := ez8 }
  have h8 := low_mk X G e8 ⟨tI, _, _, _, _, _, _, _, _, lI, cI⟩ rfl
  have e9 : Err8 K "OutOfRange" C9 fI (.ref CO :: mro8) := { a := ea9, xL := ⟨_, _, _, _, _, _, _, _, _, _, _, _, _, ex9⟩, bm := rfl, sa := es9, ga := eg9, gg := eh9, nb := en9, ii := ei9, kC := ek9, ha := ez9 }
  have h9 := low_mk X G e9 ⟨tI, _, _, _, _, _, _, _, _, lI, cI⟩ rfl
  have e10 : Err8 K "NoTurn" C10 fI (.ref CO :: mro8) := { a := ea10, xL := ⟨_, _, _, _, _, _, _, _, _, _, _, _, _, ex10⟩, bm := rfl, sa := es10, ga := eg10, gg := eh10, nb := en10, ii := ei10, kC := ek10, ha := ez10 }
  have h10 := low_mk X G e10 ⟨tI, _, _, _, _, _, _, _, _, lI, cI⟩ rfl
  have e11 : Err8 K "OverpassesError" CO fI (mro8) := { a := ea11, xL := ⟨_, _, _, _, _, _, _, _, _, _, _, _, _, ex11⟩, bm := rfl, sa := es11, ga := eg11, gg := eh11, nb := en11, ii := ei11, kC := ek11, ha := ez11 }
  have h11 := low_mk X G e11 ⟨tI, _, _, _, _, _, _, _, _, lI, cI⟩ rfl
  have A8 : All8 K CO fI ([C0, C1, C2, C3, C4, C5] ++ [C6, C7, C8, C9, C10]) := {
    low := by
      intro C hC
      simp only [List.cons_append, List.nil_append, List.mem_cons, List.not_mem_nil, or_false] at hC
      rcases hC with rfl | rfl | rfl | rfl | rfl | rfl | rfl | rfl | rfl | rfl | rfl
      · exact ⟨_, e0⟩
      · exact ⟨_, e1⟩
      · exact ⟨_, e2⟩
      · exact ⟨_, e3⟩
      · exact ⟨_, e4⟩
      · exact ⟨_, e5⟩
      · exact ⟨_, e6⟩
      · exact ⟨_, e7⟩
      · exact ⟨_, e8⟩
      · exact ⟨_, e9⟩
      · exact ⟨_, e10⟩
    top := e11
    ne := by
      intro C hC
      simp only [List.cons_append, List.nil_append, List.mem_cons, List.not_mem_nil, or_false] at hC
      rcases hC with rfl | rfl | rfl | rfl | rfl | rfl | rfl | rfl | rfl | rfl | rfl
      · exact e0.ne e11 (by decide)
      · exact e1.ne e11 (by decide)
      · exact e2.ne e11 (by decide)
      · exact e3.ne e11 (by decide)
      · exact e4.ne e11 (by decide)
      · exact e5.ne e11 (by decide)
      · exact e6.ne e11 (by decide)
      · exact e7.ne e11 (by decide)
      · exact e8.ne e11 (by decide)
      · exact e9.ne e11 (by decide)
      · exact e10.ne e11 (by decide)
    nodup := by
      simp only [List.cons_append, List.nil_append, List.nodup_cons, List.mem_cons, List.not_mem_nil, or_false, not_or, List.nodup_nil, not_false_eq_true, and_true]
      exact ⟨⟨e0.ne e1 (by decide), e0.ne e2 (by decide), e0.ne e3 (by decide), e0.ne e4 (by decide), e0.ne e5 (by decide), e0.ne e6 (by decide), e0.ne e7 (by decide), e0.ne e8 (by decide), e0.ne e9 (by decide), e0.ne e10 (by decide)⟩, ⟨e1.ne e2 (by decide), e1.ne e3 (by decide), e1.ne e4 (by decide), e1.ne e5 (by decide), e1.ne e6 (by decide), e1.ne e7 (by decide), e1.ne e8 (by decide), e1.ne e9 (by decide), e1.ne e10 (by decide)⟩, ⟨e2.ne e3 (by decide), e2.ne e4 (by decide), e2.ne e5 (by decide), e2.ne e6 (by decide), e2.ne e7 (by decide), e2.ne e8 (by decide), e2.ne e9 (by decide), e2.ne e10 (by decide)⟩, ⟨e3.ne e4 (by decide), e3.ne e5 (by decide), e3.ne e6 (by decide), e3.ne e7 (by decide), e3.ne e8 (by decide), e3.ne e9 (by decide), e3.ne e10 (by decide)⟩, ⟨e4.ne e5 (by decide), e4.ne e6 (by decide), e4.ne e7 (by decide), e4.ne e8 (by decide), e4.ne e9 (by decide), e4.ne e10 (by decide)⟩, ⟨e5.ne e6 (by decide), e5.ne e7 (by decide), e5.ne e8 (by decide), e5.ne e9 (by decide), e5.ne e10 (by decide)⟩, ⟨e6.ne e7 (by decide), e6.ne e8 (by decide), e6.ne e9 (by decide), e6.ne e10 (by decide)⟩, ⟨e7.ne e8 (by decide), e7.ne e9 (by decide), e7.ne e10 (by decide)⟩, ⟨e8.ne e9 (by decide), e8.ne e10 (by decide)⟩, e9.ne e10 (by decide)⟩
    com := ⟨hn, ht⟩ }
  have F_law := fun_mk (st := sLaw) l3 c3 k3
  refine ⟨PySem.W.fnOf "law" "law" (defArgs sLaw) (defBody sLaw) (defScope sLaw) .none kV3 dc3 pm3 an3 cd3 ct3, fun s v => .of_eq rfl, fun base _ _ => ?_⟩
  have cF := kal_of D__law_first (fun f fd F => ok_first (P := l.prog) (w := w) (base := base) (k := 0) F h0 h1 h2 h3 h4 h5)
  have cS := kal_of D__law_second (fun f fd F => ok_second (P := l.prog) (w := w) (base := base) (k := 0) F h6 h7 h8 h9 h10)
  have cK := kal_of D__law_kinds (fun f fd F => ok_kinds (P := l.prog) (w := w) (base := base) (k := 0) F b_isinstance h0 h1 h2 h3 h4 h5 h6 h7 h8 h9 h10)
  exact ok_law F_law A8 rfl rfl h11 cF cS cK b_len b_int b_range b_isinstance b_bool b_ValueError
end Ovc
open PySem PySem.W PyProof.Rows
set_option maxHeartbeats 0 in
theorem PySem.Challenge.cw_overpasses_k08_errors_are_apart_holds : PySem.Challenge.rw_overpasses_k08_errors_are_apart.Holds := by
  w_on; o_law; k_head; (case hw => w_witness2)
  k_fill
  refine L2.walk_of (l := PySem.Challenge.rw_overpasses_k08_errors_are_apart) (n := 63) (k := 4) (x := "script") (CX := fun _ => L2.CX0) (sp := fun w => Ovc.spLaw _) rfl (by decide) rfl ⟨rfl, by decide, by decide⟩ (fun w h Y => PySem.W.kIn_of Y) ?F (fun _ _ a ns hl _ hS => ⟨a, ns, rfl, hS, hl, fun _ => rfl⟩) (fun _ _ _ _ _ h => h)
  case F =>
    intro w mg fa h KX G hmg
    refine' Ovc.all_mk KX G hmg ?a0 ?l0 ?c0 ?k0 ?a1 ?l1 ?c1 ?k1 ?a2 ?l2 ?c2 ?k2 ?a3 ?l3 ?c3 ?k3 ?tI ?lI ?cI ?ea0 ?ex0 ?es0 ?eg0 ?eh0 ?en0 ?ei0 ?ek0 ?ez0 ?ea1 ?ex1 ?es1 ?eg1 ?eh1 ?en1 ?ei1 ?ek1 ?ez1 ?ea2 ?ex2 ?es2 ?eg2 ?eh2 ?en2 ?ei2 ?ek2 ?ez2 ?ea3 ?ex3 ?es3 ?eg3 ?eh3 ?en3 ?ei3 ?ek3 ?ez3 ?ea4 ?ex4 ?es4 ?eg4 ?eh4 ?en4 ?ei4 ?ek4 ?ez4 ?ea5 ?ex5 ?es5 ?eg5 ?eh5 ?en5 ?ei5 ?ek5 ?ez5 ?ea6 ?ex6 ?es6 ?eg6 ?eh6 ?en6 ?ei6 ?ek6 ?ez6 ?ea7 ?ex7 ?es7 ?eg7 ?eh7 ?en7 ?ei7 ?ek7 ?ez7 ?ea8 ?ex8 ?es8 ?eg8 ?eh8 ?en8 ?ei8 ?ek8 ?ez8 ?ea9 ?ex9 ?es9 ?eg9 ?eh9 ?en9 ?ei9 ?ek9 ?ez9 ?ea10 ?ex10 ?es10 ?eg10 ?eh10 ?en10 ?ei10 ?ek10 ?ez10 ?ea11 ?ex11 ?es11 ?eg11 ?eh11 ?en11 ?ei11 ?ek11 ?ez11 ?hn ?ht ?z0 ?z1 ?z2 ?z3 ?z4 ?z5
    (case a0 => k_is)
    (case l0 => k_is)
    (case c0 => k_is)
    (case k0 => k_is)
    (case a1 => k_is)
    (case l1 => k_is)
    (case c1 => k_is)
    (case k1 => k_is)
    (case a2 => k_is)
    (case l2 => k_is)
    (case c2 => k_is)
    (case k2 => k_is)
    (case a3 => k_is)
    (case l3 => k_is)
    (case c3 => k_is)
    (case k3 => k_is)
    (case ea0 => k_is)
    (case ex0 => k_is)
    (case es0 => k_is)
    (case eg0 => k_is)
    (case eh0 => k_is)
    (case en0 => k_is)
    (case ei0 => k_is)
    (case ek0 => k_is)
    (case ez0 => k_is)
    (case ea1 => k_is)
    (case ex1 => k_is)
    (case es1 => k_is)
    (case eg1 => k_is)
    (case eh1 => k_is)
    (case en1 => k_is)
    (case ei1 => k_is)
    (case ek1 => k_is)
    (case ez1 => k_is)
    (case ea2 => k_is)
    (case ex2 => k_is)
    (case es2 => k_is)
    (case eg2 => k_is)
    (case eh2 => k_is)
    (case en2 => k_is)
    (case ei2 => k_is)
    (case ek2 => k_is)
    (case ez2 => k_is)
    (case ea3 => k_is)
    (case ex3 => k_is)
    (case es3 => k_is)
    (case eg3 => k_is)
    (case eh3 => k_is)
    (case en3 => k_is)
    (case ei3 => k_is)
    (case ek3 => k_is)
    (case ez3 => k_is)
    (case ea4 => k_is)
    (case ex4 => k_is)
    (case es4 => k_is)
    (case eg4 => k_is)
    (case eh4 => k_is)
    (case en4 => k_is)
    (case ei4 => k_is)
    (case ek4 => k_is)
    (case ez4 => k_is)
    (case ea5 => k_is)
    (case ex5 => k_is)
    (case es5 => k_is)
    (case eg5 => k_is)
    (case eh5 => k_is)
    (case en5 => k_is)
    (case ei5 => k_is)
    (case ek5 => k_is)
    (case ez5 => k_is)
    (case ea6 => k_is)
    (case ex6 => k_is)
    (case es6 => k_is)
    (case eg6 => k_is)
    (case eh6 => k_is)
    (case en6 => k_is)
    (case ei6 => k_is)
    (case ek6 => k_is)
    (case ez6 => k_is)
    (case ea7 => k_is)
    (case ex7 => k_is)
    (case es7 => k_is)
    (case eg7 => k_is)
    (case eh7 => k_is)
    (case en7 => k_is)
    (case ei7 => k_is)
    (case ek7 => k_is)
    (case ez7 => k_is)
    (case ea8 => k_is)
    (case ex8 => k_is)
    (case es8 => k_is)
    (case eg8 => k_is)
    (case eh8 => k_is)
    (case en8 => k_is)
    (case ei8 => k_is)
    (case ek8 => k_is)
    (case ez8 => k_is)
    (case ea9 => k_is)
    (case ex9 => k_is)
    (case es9 => k_is)
    (case eg9 => k_is)
    (case eh9 => k_is)
    (case en9 => k_is)
    (case ei9 => k_is)
    (case ek9 => k_is)
    (case ez9 => k_is)
    (case ea10 => k_is)
    (case ex10 => k_is)
    (case es10 => k_is)
    (case eg10 => k_is)
    (case eh10 => k_is)
    (case en10 => k_is)
    (case ei10 => k_is)
    (case ek10 => k_is)
    (case ez10 => k_is)
    (case ea11 => k_is)
    (case ex11 => k_is)
    (case es11 => k_is)
    (case eg11 => k_is)
    (case eh11 => k_is)
    (case en11 => k_is)
    (case ei11 => k_is)
    (case ek11 => k_is)
    (case ez11 => k_is)
    (case hn => k_is)
    (case ht => k_is)
    (case z0 => k_is)
    (case z1 => k_is)
    (case z2 => k_is)
    (case z3 => k_is)
    (case z4 => k_is)
    (case z5 => k_is)
    (case tI => k_is)
    (case lI => k_is)
    (case cI => k_is)
