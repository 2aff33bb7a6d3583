import PyProof.Rows.All
import Wide.All
import OpenK.AllK
import Wide.FinOn
import PySem.Challenge.RW_overpasses_k00_nets_and_prices
import HandS.Base
import HandS.Call
import HandS.List
import HandS.Comp
import HandS.Dict
import HandS.Ends
import HandS.Iter
import HandS.Text
import HandS.Words
import HandS.Evl
import HandS.IsInst
import HandS.Style
import HandS.Exc
import HandS.TryOnly
import HandS.TryMany
import HandS.ExcOwn
import HandS.WordsExc
import HandS.TupLe
set_option Elab.async false
set_option linter.all false
set_option maxRecDepth 100000
set_option maxHeartbeats 2000000
namespace Ovc
open PySem PySem.Spec PyProof.Rows L2
def topS (i : Nat) : Stmt := PySem.Challenge.pw_overpasses_k00_nets_and_prices.main.body.getD i (.Pass ⟨0, 0, 0, 0⟩)
/-! ### heaps -/
theorem same_upd {H : Hp} {p : Addr} {o : HO} (h : H p = none) : Same H (upd H p o) := fun b x e => by
  rw [upd_ne (ne_of_none e h)]
  exact e
theorem same_upd' {G H : Hp} {p : Addr} {o : HO} (s : Same G H) (h : G p = none) : Same G (upd H p o) := fun b x e => by
  rw [upd_ne (ne_of_none e h)]
  exact s b x e
/-- all of H but what stands at o -/
def but (H : Hp) (o : Addr) : Hp := fun b => if b = o then none else H b
theorem but_at {H : Hp} {o : Addr} : but H o o = none := if_pos rfl
theorem but_ne {H : Hp} {o b : Addr} (h : b ≠ o) : but H o b = H b := if_neg h
theorem but_same {H : Hp} {o : Addr} : Same (but H o) H := fun b x e => by
  by_cases h : b = o
  · rw [h, but_at] at e
    cases e
  · rw [but_ne h] at e
    exact e
theorem same_but {G H : Hp} {o : Addr} (s : Same G H) (n : G o = none) : Same G (but H o) := fun b x e => by
  rw [but_ne (ne_of_none e n)]
  exact s b x e
theorem but_mono {H H' : Hp} {o : Addr} (s : Same H H') : Same (but H o) (but H' o) := fun b x e => by
  by_cases h : b = o
  · rw [h, but_at] at e
    cases e
  · rw [but_ne h] at e ⊢
    exact s b x e
theorem but_upd {H : Hp} {o : Addr} {u : HO} : but (upd H o u) o = but H o := by
  funext b
  by_cases h : b = o
  · rw [h, but_at, but_at]
  · rw [but_ne h, but_ne h, upd_ne h]
/-- a store at o, seen from what stands beside it -/
theorem but_upd_same {H : Hp} {o : Addr} {u : HO} : Same (but H o) (upd H o u) := fun b x e => by
  by_cases h : b = o
  · rw [h, but_at] at e
    cases e
  · rw [but_ne h] at e
    rw [upd_ne h]
    exact e
theorem seqT {K : PySem.W.Frag} {H H' : Hp} {a : Addr} {xs : List V} (e : Same H H') (h : SqT K H a xs) : SqT K H' a xs := by
  rcases h with (h | ⟨o, h⟩) | h
  · exact .inl (.inl (e _ _ h))
  · exact .inl (.inr ⟨o, e _ _ h⟩)
  · exact .inr h
mutual
theorem dpS {K : PySem.W.Frag} {H H' : Hp} (s : Same H H') : ∀ (d : PyData) (v : V), Dp K H v d → Dp K H' v d
  | .none, _, h => by
    cases h
    exact .non
  | .bool b, _, h => by
    cases h
    exact .bl b
  | .int i, _, h => by
    cases h
    exact .int i
  | .str x, _, h => by
    cases h
    exact .str x
  | .list ds, _, h => by
    cases h with
    | lst hs ha => exact .lst (s.seq hs) (dpSAll s ds _ ha)
  | .tuple ds, _, h => by
    cases h with
    | tup hs ha => exact .tup (seqT s hs) (dpSAll s ds _ ha)
  | .dict _, _, h => by cases h
theorem dpSAll {K : PySem.W.Frag} {H H' : Hp} (s : Same H H') : ∀ (ds : List PyData) (vs : List V), DpAll K H vs ds → DpAll K H' vs ds
  | [], _, h => by
    cases h
    exact .nil
  | d :: ds, _, h => by
    cases h with
    | cons h1 h2 => exact .cons (dpS s d _ h1) (dpSAll s ds _ h2)
end
theorem Dp.to {K : PySem.W.Frag} {H H' : Hp} {v : V} {d : PyData} (h : Dp K H v d) (s : Same H H') : Dp K H' v d := dpS s d v h
theorem DpAll.to {K : PySem.W.Frag} {H H' : Hp} {vs : List V} {ds : List PyData} (h : DpAll K H vs ds) (s : Same H H') : DpAll K H' vs ds := dpSAll s ds vs h
theorem DpAll.len {K : PySem.W.Frag} {H : Hp} : ∀ {vs : List V} {ds : List PyData}, DpAll K H vs ds → vs.length = ds.length
  | _, _, .nil => rfl
  | _, _, .cons _ t => by
    rw [List.length_cons, List.length_cons, DpAll.len t]
theorem DpAll.get {K : PySem.W.Frag} {H : Hp} : ∀ {vs : List V} {ds : List PyData} {i : Nat} {d : PyData}, DpAll K H vs ds → ds[i]? = some d → ∃ v, vs[i]? = some v ∧ Dp K H v d
  | _, _, i, d, .nil, e => by simp at e
  | _, _, 0, d, .cons h _, e => by
    have e' := Option.some.inj e
    subst e'
    exact ⟨_, rfl, h⟩
  | _, _, i + 1, d, .cons _ t, e => DpAll.get (i := i) t e
theorem DpAll.app {K : PySem.W.Frag} {H : Hp} : ∀ {vs ws : List V} {ds es : List PyData}, DpAll K H vs ds → DpAll K H ws es → DpAll K H (vs ++ ws) (ds ++ es)
  | _, _, _, _, .nil, t => t
  | _, _, _, _, .cons h r, t => .cons h (DpAll.app r t)
theorem DpAll.take {K : PySem.W.Frag} {H : Hp} : ∀ {vs : List V} {ds : List PyData} (n : Nat), DpAll K H vs ds → DpAll K H (vs.take n) (ds.take n)
  | _, _, 0, _ => .nil
  | _, _, _ + 1, .nil => .nil
  | _, _, n + 1, .cons h t => .cons h (DpAll.take n t)
theorem DpAll.drop {K : PySem.W.Frag} {H : Hp} : ∀ {vs : List V} {ds : List PyData} (n : Nat), DpAll K H vs ds → DpAll K H (vs.drop n) (ds.drop n)
  | _, _, 0, h => h
  | _, _, _ + 1, .nil => .nil
  | _, _, n + 1, .cons _ t => DpAll.drop n t
theorem DpAll.one {K : PySem.W.Frag} {H : Hp} {v : V} {d : PyData} (h : Dp K H v d) : DpAll K H [v] [d] := .cons h .nil
theorem Dp.int_inv {K : PySem.W.Frag} {H : Hp} {v : V} {i : Int} (h : Dp K H v (.int i)) : v = .int i := by
  cases h
  rfl
theorem DpAll.ints {K : PySem.W.Frag} {H : Hp} : ∀ ns : List Int, DpAll K H (ns.map V.int) (ns.map PyData.int)
  | [] => .nil
  | n :: ns => .cons (.int n) (DpAll.ints ns)
theorem DpAll.ints_inv {K : PySem.W.Frag} {H : Hp} : ∀ {ns : List Int} {vs : List V}, DpAll K H vs (ns.map PyData.int) → vs = ns.map V.int
  | [], _, h => by
    cases h
    rfl
  | n :: ns, _, h => by
    cases h with
    | cons h1 h2 =>
      rw [Dp.int_inv h1, DpAll.ints_inv h2]
      rfl
theorem Dp.lst_inv {K : PySem.W.Frag} {H : Hp} {v : V} {ds : List PyData} (h : Dp K H v (.list ds)) : ∃ a xs, v = .ref a ∧ SqL K H a xs ∧ DpAll K H xs ds := by
  cases h with
  | lst hs ha => exact ⟨_, _, rfl, hs, ha⟩
theorem Dp.tup_inv {K : PySem.W.Frag} {H : Hp} {v : V} {ds : List PyData} (h : Dp K H v (.tuple ds)) : ∃ a xs, v = .ref a ∧ SqT K H a xs ∧ DpAll K H xs ds := by
  cases h with
  | tup hs ha => exact ⟨_, _, rfl, hs, ha⟩
/-! ### an int or None -/
def oV : Option Int → V
  | none => .non
  | some i => .int i
def oD : Option Int → PyData
  | none => .none
  | some i => .int i
theorem Dp.o {K : PySem.W.Frag} {H : Hp} : ∀ o : Option Int, Dp K H (oV o) (oD o)
  | none => .non
  | some i => .int i
theorem Dp.o_inv {K : PySem.W.Frag} {H : Hp} {v : V} : ∀ {o : Option Int}, Dp K H v (oD o) → v = oV o
  | none, h => by
    cases h
    rfl
  | some i, h => by
    cases h
    rfl
theorem oV_non {o : Option Int} : decide (oV o = .non) = o.isNone := by
  cases o <;> rfl
theorem eqv_o : ∀ a b : Option Int, PyData.eqv (oD a) (oD b) = decide (a = b)
  | none, none => by rfl
  | none, some _ => by rfl
  | some _, none => by rfl
  | some a, some b => by
    show (a == b) = _
    by_cases h : a = b
    · subst h
      rw [decide_eq_true rfl]
      exact beq_self_eq_true a
    · rw [decide_eq_false (fun e => h (Option.some.inj e))]
      exact beq_eq_false_iff_ne.mpr h
theorem shaped_o (a : Option Int) : SeqAt.shaped (oD a) = true := by
  cases a <;> rfl
/-! ### links and nets -/
structure Lnk where
  a : Int
  b : Int
  t : Option Int
  k : Option Int
structure Net where
  n : Int
  ls : List Lnk
def lnkV (l : Lnk) : List V := [.int l.a, .int l.b, oV l.t, oV l.k]
def lnkD (l : Lnk) : PyData := .tuple [.int l.a, .int l.b, oD l.t, oD l.k]
def netD (N : Net) : PyData := .tuple [.int N.n, .list (N.ls.map lnkD)]
theorem Dp.lnk_inv {K : PySem.W.Frag} {H : Hp} {v : V} {l : Lnk} (h : Dp K H v (lnkD l)) : ∃ a, v = .ref a ∧ SqT K H a (lnkV l) := by
  obtain ⟨a, xs, rfl, hs, ha⟩ := Dp.tup_inv h
  cases ha with
  | cons h1 r1 =>
    cases r1 with
    | cons h2 r2 =>
      cases r2 with
      | cons h3 r3 =>
        cases r3 with
        | cons h4 r4 =>
          cases r4
          rw [Dp.int_inv h1, Dp.int_inv h2, Dp.o_inv h3, Dp.o_inv h4] at hs
          exact ⟨a, rfl, hs⟩
theorem Dp.lnk {K : PySem.W.Frag} {H : Hp} {a : Addr} {l : Lnk} (h : SqT K H a (lnkV l)) : Dp K H (.ref a) (lnkD l) :=
  .tup h (.cons (.int _) (.cons (.int _) (.cons (Dp.o _) (.cons (Dp.o _) .nil))))
theorem Dp.net_inv {K : PySem.W.Frag} {H : Hp} {v : V} {N : Net} (h : Dp K H v (netD N)) : ∃ p q xs, v = .ref p ∧ SqT K H p [.int N.n, .ref q] ∧ SqL K H q xs ∧ DpAll K H xs (N.ls.map lnkD) := by
  obtain ⟨a, xs, rfl, hs, ha⟩ := Dp.tup_inv h
  cases ha with
  | cons h1 r1 =>
    cases r1 with
    | cons h2 r2 =>
      cases r2
      obtain ⟨q, ys, rfl, hl, hy⟩ := Dp.lst_inv h2
      rw [Dp.int_inv h1] at hs
      exact ⟨a, q, ys, rfl, hs, hl, hy⟩
theorem Dp.net {K : PySem.W.Frag} {H : Hp} {p q : Addr} {xs : List V} {N : Net} (h : SqT K H p [.int N.n, .ref q]) (hq : SqL K H q xs) (hx : DpAll K H xs (N.ls.map lnkD)) : Dp K H (.ref p) (netD N) :=
  .tup h (.cons (.int _) (.cons (.lst hq hx) .nil))
/-! ### pure expressions: what they evaluate to, the heap as it is -/
def Vl (te : TE) (σ : L2.St) (H : Hp) (v : V) : Prop := ∀ Q : VK, Q v H → te σ H Q
def An (t : TT) (σ : L2.St) (H : Hp) (b : Bool) : Prop := ∀ Q : Bool → Hp → Prop, Q b H → t σ H Q
def Va (ta : TA) (σ : L2.St) (H : Hp) (vs : List V) : Prop := ∀ Q : List V → Hp → Prop, Q vs H → ta σ H Q
section
variable {K : PySem.W.Frag} {σ : L2.St} {H : Hp} {i : Nat} {v x y z : V} {ta tb te tv : TE} {b : Bool} {a : Addr} {t u c : TT} {tr : TA} {D : Ends} {tz tw : TS}
theorem va_nil : Va tNil σ H [] := fun _ q => q
theorem va_cons {vs : List V} (h : Vl ta σ H x) (hr : Va tr σ H vs) : Va (tCons ta tr) σ H (x :: vs) := fun Q q => h _ (hr _ q)
theorem vl_var (h : σ[i]? = some (some v)) : Vl (tVar i) σ H v := fun _ q => ⟨v, h, q⟩
theorem vl_c : Vl (tC v) σ H v := fun _ q => q
theorem vl_op {r : R2} (ha : Vl ta σ H x) (hb : Vl tb σ H y) (hr : ∀ Q : VK, Q z H → r x y H Q) : Vl (tOp r ta tb) σ H z := fun Q q => ha _ (hb _ (hr _ q))
theorem vl_I0 {g : Int → Int → V} {p q : Int} (ha : Vl ta σ H (.int p)) (hb : Vl tb σ H (.int q)) : Vl (tOp (rI0 g) ta tb) σ H (g p q) := vl_op ha hb fun _ k => ⟨p, q, rfl, rfl, k⟩
theorem vl_I {C : Int → Int → Prop} {g : Int → Int → V} {p q : Int} (ha : Vl ta σ H (.int p)) (hb : Vl tb σ H (.int q)) (hc : C p q) : Vl (tOp (rI C g) ta tb) σ H (g p q) := vl_op ha hb fun _ k => ⟨p, q, rfl, rfl, hc, k⟩
theorem vl_un {r : V → Hp → VK → Prop} (ha : Vl ta σ H x) (hr : ∀ Q : VK, Q z H → r x H Q) : Vl (tUn r ta) σ H z := fun Q q => ha _ (hr _ q)
theorem vl_neg {p : Int} (ha : Vl ta σ H (.int p)) : Vl (tUn (rU fun i => .int (-i)) ta) σ H (.int (-p)) := vl_un ha fun _ k => ⟨p, rfl, k⟩
theorem vl_cb {r : List V → Hp → VK → Prop} {vs : List V} (h : Va tr σ H vs) (hr : ∀ Q : VK, Q z H → r vs H Q) : Vl (tCB r tr) σ H z := fun Q q => h _ (hr _ q)
theorem vl_int1 {p : Int} (ha : Vl ta σ H (.int p)) : Vl (tCB (fun xs H Q => (∃ i, xs = [V.int i] ∧ Q (V.int i) H) ∨ ∃ k, xs = [V.bl k] ∧ Q (V.int (if k then 1 else 0)) H) (tCons ta tNil)) σ H (.int p) :=
  vl_cb (va_cons ha va_nil) fun _ k => .inl ⟨p, rfl, k⟩
theorem vl_int1b {k : Bool} (ha : Vl ta σ H (.bl k)) : Vl (tCB (fun xs H Q => (∃ i, xs = [V.int i] ∧ Q (V.int i) H) ∨ ∃ k, xs = [V.bl k] ∧ Q (V.int (if k then 1 else 0)) H) (tCons ta tNil)) σ H (.int (if k then 1 else 0)) :=
  vl_cb (va_cons ha va_nil) fun _ q => .inr ⟨k, rfl, q⟩
theorem vl_abs {p : Int} (ha : Vl ta σ H (.int p)) : Vl (tCB (fun xs H Q => ∃ i, xs = [V.int i] ∧ Q (V.int (if i < 0 then -i else i)) H) (tCons ta tNil)) σ H (.int (if p < 0 then -p else p)) :=
  vl_cb (va_cons ha va_nil) fun _ k => ⟨p, rfl, k⟩
theorem vl_min2 {p q : Int} (ha : Vl ta σ H (.int p)) (hb : Vl tb σ H (.int q)) : Vl (tCB (fun xs H Q => ∃ i j, xs = [V.int i, V.int j] ∧ Q (V.int (if j < i then j else i)) H) (tCons ta (tCons tb tNil))) σ H (.int (if q < p then q else p)) :=
  vl_cb (va_cons ha (va_cons hb va_nil)) fun _ k => ⟨p, q, rfl, k⟩
theorem vl_max2 {p q : Int} (ha : Vl ta σ H (.int p)) (hb : Vl tb σ H (.int q)) : Vl (tCB (fun xs H Q => ∃ i j, xs = [V.int i, V.int j] ∧ Q (V.int (if j > i then j else i)) H) (tCons ta (tCons tb tNil))) σ H (.int (if q > p then q else p)) :=
  vl_cb (va_cons ha (va_cons hb va_nil)) fun _ k => ⟨p, q, rfl, k⟩
theorem vl_lenL {xs : List V} (ha : Vl ta σ H (.ref a)) (h : SqL K H a xs) : Vl (tCB (fun xs H Q => ∃ p ys, xs = [V.ref p] ∧ (SqL K H p ys ∨ SqT K H p ys) ∧ Q (V.int ys.length) H) (tCons ta tNil)) σ H (.int xs.length) :=
  vl_cb (va_cons ha va_nil) fun _ k => ⟨a, xs, rfl, .inl h, k⟩
theorem vl_ixL {xs : List V} {p : Int} (ha : Vl ta σ H (.ref a)) (hb : Vl tb σ H (.int p)) (h : SqL K H a xs) (hg : atI xs p = some z) : Vl (tOp (rIxL K) ta tb) σ H z :=
  vl_op ha hb fun _ k => ⟨a, xs, p, z, rfl, rfl, h, hg, k⟩
theorem vl_ixT {xs : List V} {p : Int} (ha : Vl ta σ H (.ref a)) (hb : Vl tb σ H (.int p)) (h : SqT K H a xs) (hg : atI xs p = some z) : Vl (tOp (rIxT K) ta tb) σ H z :=
  vl_op ha hb fun _ k => ⟨a, xs, p, z, rfl, rfl, h, hg, k⟩
theorem vl_eq (ha : Vl ta σ H x) (hb : Vl tb σ H y) (hs : scal x y = true) : Vl (tOp rEq ta tb) σ H (.bl (decide (x = y))) := vl_op ha hb fun _ k => ⟨hs, k⟩
theorem vl_ne (ha : Vl ta σ H x) (hb : Vl tb σ H y) (hs : scal x y = true) : Vl (tOp rNe ta tb) σ H (.bl (!decide (x = y))) := vl_op ha hb fun _ k => ⟨hs, k⟩
theorem vl_isN (ha : Vl ta σ H x) : Vl (tOp (fun x y H Q => y = V.non ∧ Q (V.bl (decide (x = V.non))) H) ta (tC .non)) σ H (.bl (decide (x = .non))) := vl_op ha vl_c fun _ k => ⟨rfl, k⟩
theorem vl_notN (ha : Vl ta σ H x) : Vl (tOp (fun x y H Q => y = V.non ∧ Q (V.bl (!decide (x = V.non))) H) ta (tC .non)) σ H (.bl (!decide (x = .non))) := vl_op ha vl_c fun _ k => ⟨rfl, k⟩
theorem vl_chain {r r' : R2} {tc : TE} {w : V} {k m : Bool} (ha : Vl ta σ H x) (hb : Vl tb σ H y) (hr : ∀ Q : VK, Q (.bl k) H → r x y H Q) (hc : Vl tc σ H w) (hr' : ∀ Q : VK, Q (.bl m) H → r' y w H Q) : Vl (tChain r r' ta tb tc) σ H (.bl (k && m)) := fun Q q =>
  ha _ (hb _ (hr _ ⟨k, rfl, by
    cases k with
    | true => exact iteT (hc _ (hr' _ q))
    | false => exact iteF q⟩))
theorem vl_chainI {g g' : Int → Int → Bool} {tc : TE} {p q s : Int} (ha : Vl ta σ H (.int p)) (hb : Vl tb σ H (.int q)) (hc : Vl tc σ H (.int s)) :
    Vl (tChain (rI0 fun i j => .bl (g i j)) (rI0 fun i j => .bl (g' i j)) ta tb tc) σ H (.bl (g p q && g' q s)) :=
  vl_chain ha hb (fun _ k => ⟨p, q, rfl, rfl, k⟩) hc (fun _ k => ⟨q, s, rfl, rfl, k⟩)
theorem vl_if {b : Bool} (h : An t σ H b) (h1 : b = true → Vl ta σ H v) (h2 : b = false → Vl tb σ H v) : Vl (tIf t ta tb) σ H v := fun Q q => h _ (by
  cases b with
  | true => exact iteT (h1 rfl _ q)
  | false => exact iteF (h2 rfl _ q))
theorem an_test {b : Bool} (h : Vl te σ H (.bl b)) : An (tTest te) σ H b := fun Q q => h _ ⟨b, rfl, q⟩
theorem an_B {b : Bool} (h : Vl te σ H (.bl b)) : An (tB te) σ H b := fun Q q => h _ ⟨b, rfl, q⟩
theorem an_not (h : An t σ H b) : An (tNot t) σ H (!b) := fun Q q => h _ q
theorem an_and {k m : Bool} (h1 : An t σ H k) (h2 : k = true → An u σ H m) : An (tAnd t u) σ H (k && m) := fun Q q => h1 _ (by
  cases k with
  | true => exact iteT (h2 rfl _ q)
  | false => exact iteF q)
theorem an_or {k m : Bool} (h1 : An t σ H k) (h2 : k = false → An u σ H m) : An (tOr t u) σ H (k || m) := fun Q q => h1 _ (by
  cases k with
  | true => exact iteT q
  | false => exact iteF (h2 rfl _ q))
theorem An.is {k m : Bool} (h : An t σ H k) (e : k = m) : An t σ H m := e ▸ h
theorem Vl.is {v w : V} (h : Vl te σ H v) (e : v = w) : Vl te σ H w := e ▸ h
/-! ### statements over them -/
theorem g_seq (h : tz { D with nx := tw D } σ H) : tSeq tz tw D σ H := h
theorem g_asg {i : Nat} (h : Vl te σ H v) (k : D.nx (σ.set i (some v)) H) : tAsg te (gName i) D σ H := h _ k
theorem g_ret (h : Vl te σ H v) (k : D.rt v H) : tRet te D σ H := h _ k
theorem g_if {b : Bool} (h : An t σ H b) (h1 : b = true → tz D σ H) (h2 : b = false → tw D σ H) : tIfS t tz tw D σ H := h _ (by
  cases b with
  | true => exact iteT (h1 rfl)
  | false => exact iteF (h2 rfl))
theorem g_app {l : Addr} {xs : List V} (ho : Vl ta σ H (.ref l)) (hl : H l = some (.lst xs)) (h : Vl te σ H v) (hz : xs.length < sizeLine) (k : D.nx σ (upd H l (.lst (xs ++ [v])))) :
    tDrop (tBM K "list" rAppend ta (tCons te tNil)) D σ H := ho _ ⟨.inl ⟨rfl, _, .inl (.inl hl)⟩, h _ ⟨l, xs, v, rfl, rfl, hl, hz, k⟩⟩
theorem at_int {ds : List Int} {k : Int} (h0 : 0 ≤ k) (h1 : k < (ds.length : Int)) : ∃ d, atI (ds.map V.int) k = some (.int d) ∧ ds[k.toNat]? = some d := by
  have hj : k.toNat < ds.length := by omega
  have g : (ds.map V.int)[k.toNat]? = some (.int ds[k.toNat]) := by
    rw [List.getElem?_map, List.getElem?_eq_getElem hj]
    rfl
  have g2 := atI_nat g
  rw [show ((k.toNat : Nat) : Int) = k by omega] at g2
  exact ⟨ds[k.toNat], g2, List.getElem?_eq_getElem hj⟩
/-! ### loops -/
theorem g_forR {j : Nat} {n : Int} (h : Va tr σ H [.int n]) (hn : -(2 ^ 62) ≤ n ∧ n < 2 ^ 62) (Pv : Nat → L2.St → Hp → Prop) (h0 : Pv 0 σ H)
    (hs : ∀ (i : Nat) σ H, (i : Int) < n → Pv i σ H → tz { D with nx := Pv (i + 1), ct := Pv (i + 1), bk := D.nx } (σ.set j (some (.int i))) H) (hd : ∀ σ H, Pv n.toNat σ H → D.nx σ H) :
    tFor (iRng1 tr) (gName j) tz D σ H := h _ ⟨n, rfl, hn.1, hn.2, for_range (lo := 0) (n := n.toNat) Pv h0 (fun i σ H hi p => by
      show tz _ (σ.set j (some (.int (0 + i)))) H
      rw [Int.zero_add]
      exact hs i σ H (by omega) p) hd⟩
theorem g_forR2 {j : Nat} {lo n : Int} (h : Va tr σ H [.int lo, .int n]) (hn : -(2 ^ 62) ≤ lo ∧ lo < 2 ^ 62 ∧ -(2 ^ 62) ≤ n ∧ n < 2 ^ 62) (Pv : Nat → L2.St → Hp → Prop) (h0 : Pv 0 σ H)
    (hs : ∀ (i : Nat) σ H, lo + (i : Int) < n → Pv i σ H → tz { D with nx := Pv (i + 1), ct := Pv (i + 1), bk := D.nx } (σ.set j (some (.int (lo + i)))) H) (hd : ∀ σ H, Pv (n - lo).toNat σ H → D.nx σ H) :
    tFor (iRng2 tr) (gName j) tz D σ H := h _ ⟨lo, n, rfl, hn, for_range (lo := lo) (n := (n - lo).toNat) Pv h0 (fun i σ H hi p => hs i σ H (by omega) p) hd⟩
theorem g_forL {j : Nat} {xs : List V} {tl : TE} (h : Vl tl σ H (.ref a)) (hx : SqL K H a xs) (Pv : Nat → L2.St → Hp → Prop) (h0 : Pv 0 σ H) (hl : ∀ i σ' H', Pv i σ' H' → SqL K H' a xs)
    (hs : ∀ (i : Nat) x σ H, xs[i]? = some x → Pv i σ H → tz { D with nx := Pv (i + 1), ct := Pv (i + 1), bk := D.nx } (σ.set j (some x)) H) (hd : ∀ σ H, Pv xs.length σ H → D.nx σ H) :
    tFor (iList K tl) (gName j) tz D σ H := h _ ⟨a, rfl, ⟨_, hx⟩, for_list (xs := xs) Pv h0 (fun i σ H _ p => hl i σ H p) hs hd⟩
/-- for a, b, there, back in links -/
theorem g_forLnk {j1 j2 j3 j4 : Nat} {Hb : Hp} {xs : List V} {ls : List Lnk} {tl : TE} (h : Vl tl σ H (.ref a)) (hx : SqL K Hb a xs) (hL : DpAll K Hb xs (ls.map lnkD)) (hb : Same Hb H) (Pv : Nat → L2.St → Hp → Prop) (h0 : Pv 0 σ H) (hl : ∀ i σ' H', Pv i σ' H' → Same Hb H')
    (hs : ∀ (i : Nat) l σ H, ls[i]? = some l → Pv i σ H → tz { D with nx := Pv (i + 1), ct := Pv (i + 1), bk := D.nx } ((((σ.set j1 (some (.int l.a))).set j2 (some (.int l.b))).set j3 (some (oV l.t))).set j4 (some (oV l.k))) H) (hd : ∀ σ H, Pv ls.length σ H → D.nx σ H) :
    tFor (iList K tl) (gTup K 4 (gCons (gName j1) (gCons (gName j2) (gCons (gName j3) (gCons (gName j4) gNil))))) tz D σ H := h _ ⟨a, rfl, ⟨_, hb.seq hx⟩, for_list (xs := xs) Pv h0 (fun i σ H _ p => (hl i σ H p).seq hx) (fun i x σ H hi p => by
      have e := DpAll.len hL
      rw [List.length_map] at e
      have hlt : i < xs.length := by
        by_cases hlt : i < xs.length
        · exact hlt
        · rw [List.getElem?_eq_none (by omega)] at hi
          cases hi
      have hg : ls[i]? = some ls[i] := List.getElem?_eq_getElem (by omega)
      obtain ⟨v, hv, dv⟩ := DpAll.get (i := i) (d := lnkD ls[i]) hL (by
        rw [List.getElem?_map, hg]
        rfl)
      cases hi.symm.trans hv
      obtain ⟨t, rfl, ht⟩ := Dp.lnk_inv dv
      exact ⟨t, _, rfl, seqT (hl i σ H p) ht, rfl, _, _, rfl, _, _, rfl, _, _, rfl, _, _, rfl, rfl, hs i _ σ H hg p⟩) (fun σ H p => by
      have e := DpAll.len hL
      rw [List.length_map] at e
      rw [e] at p
      exact hd σ H p)⟩
/-! ### the same with what follows -/
theorem q_asg {i : Nat} (h : Vl te σ H v) (k : tw D (σ.set i (some v)) H) : tSeq (tAsg te (gName i)) tw D σ H := h _ k
theorem q_if {b : Bool} {tu : TS} (h : An t σ H b) (h1 : b = true → tz { D with nx := tw D } σ H) (h2 : b = false → tu { D with nx := tw D } σ H) : tSeq (tIfS t tz tu) tw D σ H := g_if (D := { D with nx := tw D }) h h1 h2
/-- an if without else whose body leaves the def (or the turn) -/
theorem q_when {b : Bool} (h : An t σ H b) (h1 : b = true → tz { D with nx := tw D } σ H) (h2 : b = false → tw D σ H) : tSeq (tIfS t tz tNext) tw D σ H := g_if (D := { D with nx := tw D }) h h1 h2
theorem g_when {b : Bool} (h : An t σ H b) (h1 : b = true → tz D σ H) (h2 : b = false → D.nx σ H) : tIfS t tz tNext D σ H := g_if h h1 h2
theorem q_app {l : Addr} {xs : List V} (ho : Vl ta σ H (.ref l)) (hl : H l = some (.lst xs)) (h : Vl te σ H v) (hz : xs.length < sizeLine) (k : tw D σ (upd H l (.lst (xs ++ [v])))) :
    tSeq (tDrop (tBM K "list" rAppend ta (tCons te tNil))) tw D σ H := g_app (D := { D with nx := tw D }) ho hl h hz k
theorem q_forR {j : Nat} {n : Int} (h : Va tr σ H [.int n]) (hn : -(2 ^ 62) ≤ n ∧ n < 2 ^ 62) (Pv : Nat → L2.St → Hp → Prop) (h0 : Pv 0 σ H)
    (hs : ∀ (i : Nat) σ H, (i : Int) < n → Pv i σ H → tz { D with nx := Pv (i + 1), ct := Pv (i + 1), bk := tw D } (σ.set j (some (.int i))) H) (hd : ∀ σ H, Pv n.toNat σ H → tw D σ H) :
    tSeq (tFor (iRng1 tr) (gName j) tz) tw D σ H := g_forR (D := { D with nx := tw D }) h hn Pv h0 hs hd
theorem q_forR2 {j : Nat} {lo n : Int} (h : Va tr σ H [.int lo, .int n]) (hn : -(2 ^ 62) ≤ lo ∧ lo < 2 ^ 62 ∧ -(2 ^ 62) ≤ n ∧ n < 2 ^ 62) (Pv : Nat → L2.St → Hp → Prop) (h0 : Pv 0 σ H)
    (hs : ∀ (i : Nat) σ H, lo + (i : Int) < n → Pv i σ H → tz { D with nx := Pv (i + 1), ct := Pv (i + 1), bk := tw D } (σ.set j (some (.int (lo + i)))) H) (hd : ∀ σ H, Pv (n - lo).toNat σ H → tw D σ H) :
    tSeq (tFor (iRng2 tr) (gName j) tz) tw D σ H := g_forR2 (D := { D with nx := tw D }) h hn Pv h0 hs hd
theorem q_forL {j : Nat} {xs : List V} {tl : TE} (h : Vl tl σ H (.ref a)) (hx : SqL K H a xs) (Pv : Nat → L2.St → Hp → Prop) (h0 : Pv 0 σ H) (hl : ∀ i σ' H', Pv i σ' H' → SqL K H' a xs)
    (hs : ∀ (i : Nat) x σ H, xs[i]? = some x → Pv i σ H → tz { D with nx := Pv (i + 1), ct := Pv (i + 1), bk := tw D } (σ.set j (some x)) H) (hd : ∀ σ H, Pv xs.length σ H → tw D σ H) :
    tSeq (tFor (iList K tl) (gName j) tz) tw D σ H := g_forL (D := { D with nx := tw D }) h hx Pv h0 hl hs hd
theorem q_forLnk {j1 j2 j3 j4 : Nat} {Hb : Hp} {xs : List V} {ls : List Lnk} {tl : TE} (h : Vl tl σ H (.ref a)) (hx : SqL K Hb a xs) (hL : DpAll K Hb xs (ls.map lnkD)) (hb : Same Hb H) (Pv : Nat → L2.St → Hp → Prop) (h0 : Pv 0 σ H) (hl : ∀ i σ' H', Pv i σ' H' → Same Hb H')
    (hs : ∀ (i : Nat) l σ H, ls[i]? = some l → Pv i σ H → tz { D with nx := Pv (i + 1), ct := Pv (i + 1), bk := tw D } ((((σ.set j1 (some (.int l.a))).set j2 (some (.int l.b))).set j3 (some (oV l.t))).set j4 (some (oV l.k))) H) (hd : ∀ σ H, Pv ls.length σ H → tw D σ H) :
    tSeq (tFor (iList K tl) (gTup K 4 (gCons (gName j1) (gCons (gName j2) (gCons (gName j3) (gCons (gName j4) gNil))))) tz) tw D σ H := g_forLnk (D := { D with nx := tw D }) h hx hL hb Pv h0 hl hs hd
theorem q_asgT2 {i j : Nat} {p : Addr} (h : Vl te σ H (.ref p)) (hp : SqT K H p [x, y]) (k : tw D ((σ.set i (some x)).set j (some y)) H) : tSeq (tAsg te (gTup K 2 (gCons (gName i) (gCons (gName j) gNil)))) tw D σ H :=
  h _ ⟨p, _, rfl, hp, rfl, _, _, rfl, _, _, rfl, rfl, k⟩
theorem q_dnewT {i : Nat} (k : ∀ p, H p = none → tw D (σ.set i (some (.ref p))) (upd H p (.dT []))) : tSeq (tAsg tDNewT (gName i)) tw D σ H := k
theorem q_lnew {i : Nat} (k : ∀ p, H p = none → tw D (σ.set i (some (.ref p))) (upd H p (.lst []))) : tSeq (tAsg (tLst tNil) (gName i)) tw D σ H := ⟨Nat.zero_le _, k⟩
theorem q_dput {td ty : TE} {o : Addr} {kvs : List (List Key × V)} {y1 y2 : Int} (hv : Vl te σ H v) (ho : Vl td σ H (.ref o)) (h1 : Vl ta σ H (.int y1)) (h2 : Vl tb σ H (.int y2)) (hd : H o = some (.dT kvs)) (hl : kvs.length < sizeLine)
    (k : ∀ T, H T = none → o ≠ T → tw D σ (upd (upd H T (.tup [.int y1, .int y2])) o (.dT (putK kvs [.inl y1, .inl y2] v)))) : tSeq (sDPut td (tTup (tCons ta (tCons tb tNil))) te) tw D σ H :=
  hv _ (ho _ (h1 _ (h2 _ ⟨by show 2 ≤ sizeLine; decide, fun T nT => by
    have oT : o ≠ T := ne_of_none hd nT
    exact ⟨o, _, rfl, DPut.t (k := [.inl y1, .inl y2]) (by rw [upd_ne oT]; exact hd) upd_same hl, k T nT oT⟩⟩)))
theorem q_dgetT {i : Nat} {td : TE} {o : Addr} {kvs : List (List Key × V)} {y1 y2 : Int} (ho : Vl td σ H (.ref o)) (h1 : ∀ H, Vl ta σ H (.int y1)) (h2 : ∀ H, Vl tb σ H (.int y2)) (hd : H o = some (.dT kvs))
    (k : ∀ T, H T = none → tw D (σ.set i (some ((valV kvs [.inl y1, .inl y2]).getD .non))) (upd H T (.tup [.int y1, .int y2]))) : tSeq (tAsg (tDGet1 td (tTup (tCons ta (tCons tb tNil)))) (gName i)) tw D σ H :=
  ho _ ⟨o, rfl, .inr ⟨_, .inl hd⟩, h1 _ _ (h2 _ _ ⟨by show 2 ≤ sizeLine; decide, fun T nT => by
    have oT : o ≠ T := ne_of_none hd nT
    exact ⟨_, DGet.t (k := [.inl y1, .inl y2]) (by rw [upd_ne oT]; exact hd) upd_same, k T nT⟩⟩)⟩
theorem q_asgE {i : Nat} (h : te σ H fun v H' => tw D (σ.set i (some v)) H') : tSeq (tAsg te (gName i)) tw D σ H := h
theorem g_asgE {i : Nat} (h : te σ H fun v H' => D.nx (σ.set i (some v)) H') : tAsg te (gName i) D σ H := h
theorem q_cut {M : L2.St → Hp → Prop} (h : tz { D with nx := M } σ H) (k : ∀ σ' H', M σ' H' → tw D σ' H') : Evl.tCut tz tw D σ H := ⟨M, h, k⟩
end
/-! ### defs that may be called by their names -/
structure Df (K : PySem.W.Frag) (mg : Str → Option Value) (x : Str) (st : Stmt) (ps : List Str) : Prop where
  ex : ∃ (f : Addr) (fd : FuncData), Fun K x x st f fd ∧ mg x = some (.ref f) ∧ Binds K fd ps []
structure Kal (P : Program) (w : World) (K : PySem.W.Frag) (mg : Str → Option Value) (base : Heap) (k : Nat) (x : Str) (ps : List Str) (sp : Sp) : Prop where
  ex : ∃ (f : Addr) (fd : FuncData), FnOk P w K mg base CX0 k f fd ps sp ∧ mg x = some (.ref f) ∧ PySem.W.keepIn K (.ref f) = true ∧ Binds K fd ps []
theorem kal_of {P : Program} {w : World} {K : PySem.W.Frag} {mg : Str → Option Value} {base : Heap} {k : Nat} {x : Str} {st : Stmt} {ps : List Str} {sp : Sp} (A : Df K mg x st ps)
    (ok : ∀ f fd, Fun K x x st f fd → FnOk P w K mg base CX0 k f fd ps sp) : Kal P w K mg base k x ps sp := by
  obtain ⟨f, fd, F, g, b⟩ := A.ex
  exact ⟨f, fd, ok f fd F, g, F.kp, b⟩
theorem pe_k {X : Cx} {k j : Nat} {x : Str} {ps : List Str} {sp : Sp} {p pos : Pos} {e : Expr} {es : List Expr} {t : TA} (c : Kal X.prog X.w X.K X.mg X.base k x ps sp) (hr : Room j X.A) (hk : k ≤ j) (hg : Gl X x) (ha : PA X (e :: es) t)
    (hdb : (x == ("__debug__" : Str)) = false := by decide) (he : starEach (e :: es) X.env = (false, eval e X.env) :: starEach es X.env := by rfl) (hpl : (backTo pos (starEach es X.env)).any (·.1) = false := by rfl) :
    PE X (.Call (.Name x p) (e :: es) [] pos) (tCall sp [] E0 t) := by
  obtain ⟨f, fd, F, hm, kp, b⟩ := c.ex
  exact pe_call F (hr.mono hk) hg hm kp b .nil pass0 ha hdb he hpl
/-! ### values that are not told: ints of which P holds -/
def Vi (te : TE) (σ : L2.St) (H : Hp) (P : Int → Prop) : Prop := ∀ Q : VK, (∀ r, P r → Q (.int r) H) → te σ H Q
section
variable {K : PySem.W.Frag} {σ : L2.St} {H : Hp} {i : Nat} {ta tb te : TE} {tr : TA} {D : Ends} {tz tw tu : TS} {P P1 P2 : Int → Prop}
theorem vi_of {n : Int} (h : Vl te σ H (.int n)) : Vi te σ H (fun r => r = n) := fun _ q => h _ (q n rfl)
theorem vi_I0 {g : Int → Int → Int} (ha : Vi ta σ H P1) (hb : Vi tb σ H P2) (h : ∀ p q, P1 p → P2 q → P (g p q)) : Vi (tOp (rI0 fun i j => .int (g i j)) ta tb) σ H P := fun _ k =>
  ha _ fun p hp => hb _ fun q hq => ⟨p, q, rfl, rfl, k _ (h p q hp hq)⟩
theorem vi_call {sp : Sp} {vs : List V} (h : Va tr σ H vs) (hs : ∀ Q E, (∀ r, P r → Q (.int r) H) → sp vs H Q E) : Vi (tCall sp [] E0 tr) σ H P := fun Q q => h _ (by
  show sp (vs ++ []) H Q E0
  rw [List.append_nil]
  exact hs Q E0 q)
theorem vi_mono (h : Vi te σ H P1) (hh : ∀ r, P1 r → P r) : Vi te σ H P := fun Q q => h Q fun r hr => q r (hh r hr)
theorem g_asgI {i : Nat} (h : Vi te σ H P) (k : ∀ r, P r → D.nx (σ.set i (some (.int r))) H) : tAsg te (gName i) D σ H := h _ k
theorem q_asgI {i : Nat} (h : Vi te σ H P) (k : ∀ r, P r → tw D (σ.set i (some (.int r))) H) : tSeq (tAsg te (gName i)) tw D σ H := h _ k
theorem g_retI (h : Vi te σ H P) (k : ∀ r, P r → D.rt (.int r) H) : tRet te D σ H := h _ k
end
local macro_rules
  | `(tactic| walk_at "ev") => `(tactic| repeat' (first
    | exact vl_c | exact vl_var rfl | apply vl_I0 | apply vl_I | apply vl_int1 | apply vl_abs | apply vl_min2 | apply vl_max2 | apply vl_neg | apply vl_chainI
    | apply vl_lenL | apply vl_ixL | apply vl_ixT | apply vl_isN | apply vl_notN | apply vl_eq | apply vl_ne
    | apply an_test | apply an_B | apply an_not
    | exact (show (0 : Int) < _ by decide) | exact (show (0 : Int) < _ ∧ _ < (1073741824 : Int) from ⟨by decide, by decide⟩)))
abbrev sDraws : Stmt := topS 16
theorem scDraws : FnScope ["script", "draws", "k", "rest", "turn", "mixed"] ["script"] (defScope sDraws) := ⟨rfl, rfl, rfl, by decide +kernel, rfl, by decide +kernel, by decide +kernel⟩
structure DrawsOk (m : Nat) (ds : List Int) : Prop where
  len : ds.length ≤ m
  all : ∀ d ∈ ds, 0 ≤ d ∧ d < 65536
theorem DrawsOk.app {m : Nat} {ds : List Int} {d : Int} (h : DrawsOk m ds) (h0 : 0 ≤ d) (h1 : d < 65536) : DrawsOk (m + 1) (ds ++ [d]) where
  len := by
    rw [List.length_append]
    exact Nat.succ_le_succ h.len
  all := fun e he => by
    rcases List.mem_append.mp he with h' | h'
    · exact h.all e h'
    · rw [List.mem_singleton.mp h']
      exact ⟨h0, h1⟩
theorem DrawsOk.mono {m n : Nat} {ds : List Int} (h : DrawsOk m ds) (le : m ≤ n) : DrawsOk n ds := ⟨Nat.le_trans h.len le, h.all⟩
def spDraws (K : PySem.W.Frag) : Sp := fun vs H Q _ => ∃ (a : Addr) (ns : List Int), vs = [.ref a] ∧ SqL K H a (ns.map V.int) ∧ ns.length ≤ 63 ∧
  ∀ H' p ds, Same H H' → H p = none → H' p = some (.lst (ds.map V.int)) → DrawsOk 3780 ds → Q (.ref p) H'
section
variable {P : Program} {w : World} {K : PySem.W.Frag} {mg : Str → Option Value} {base : Heap}
theorem ok_draws {f : Addr} {fd : FuncData} {k : Nat} (F : Fun K "_law_draws" "_law_draws" sDraws f fd) (mr : mg "range" = none) (mm : mg "min" = none) (ml : mg "len" = none) (ma : mg "abs" = none) (mi : mg "int" = none) :
    FnOk P w K mg base CX0 (k + 1) f fd ["script"] (spDraws K) := by
  refine F.ok scDraws (fun vs H Q E h => ?_) (fun cdv A outer s H vs Q E hr h => ?_)
  · obtain ⟨a, ns, rfl, _⟩ := h
    rfl
  · obtain ⟨a, ns, rfl, hS, hlen, q⟩ := h
    refine ⟨_, pss_cons (ps_set (i := 1) scDraws.nd rfl (.inl rfl) (pe_lst pa_nil))
      (pss_cons (ps_for PassesOwn.never rfl (pi_range1 (by rfl) mr (pa_cons (pe_callB (call_min2 rfl) (by rfl) mm (by decide +kernel) (pa_cons pe_int (pa_cons (pe_callB call_len_seq (by rfl) ml PySem.boot_len (pa_cons (pv 0) pa_nil)) pa_nil))) pa_nil)) (pg_name (i := 2) scDraws.nd rfl (.inl rfl))
        (pss_cons (ps_set (i := 3) scDraws.nd rfl (.inl rfl) (pe_callB call_abs (by rfl) ma (by decide +kernel) (pa_cons (pe_ix ix_list (pv 0) (pv 2) (fun _ _ => rfl)) pa_nil)))
        (pss_one (ps_if (pt_cmpR op_ge (pv 3) (pe_op op_pow pe_int pe_int) (nomark _))
          (pss_one (ps_for PassesOwn.never rfl (pi_range1 (by rfl) mr (pa_cons pe_int pa_nil)) (pg_name (i := 4) scDraws.nd rfl (.inl rfl))
            (pss_one (ps_if (pt_cmpR op_gt (pv 3) pe_int (nomark _))
              (pss_cons (ps_expr (pe_bm PySem.F.plainAttrs_list PySem.F.slot_list_append PySem.F.type_list_append mt_append (pv 1) (pa_cons (pe_op op_mod (pe_callTy call_int1 (by rfl) mi (by decide +kernel) (pa_cons (pv 3) pa_nil)) pe_int) pa_nil)))
              (pss_one (ps_set (i := 3) scDraws.nd rfl (.inl rfl) (pe_op op_fdiv (pv 3) pe_int)))) pss_nil))))
          (pss_cons (ps_set (i := 5) scDraws.nd rfl (.inl rfl) (pe_op op_mod (pe_callTy call_int1 (by rfl) mi (by decide +kernel) (pa_cons (pe_op op_add (pe_op op_mul (pv 3) pe_int) (pe_op op_mul (pe_op op_add (pv 2) pe_int) pe_int)) pa_nil)) pe_int))
          (pss_cons (ps_set (i := 5) scDraws.nd rfl (.inl rfl) (pe_op op_mod (pe_callTy call_int1 (by rfl) mi (by decide +kernel) (pa_cons (pe_op op_add (pe_op op_add (pe_op op_mul (pv 5) pe_int) (pe_op op_mul pe_int (pv 2))) pe_int) pa_nil)) pe_int))
          (pss_cons (ps_expr (pe_bm PySem.F.plainAttrs_list PySem.F.slot_list_append PySem.F.type_list_append mt_append (pv 1) (pa_cons (pe_op op_mod (pe_callTy call_int1 (by rfl) mi (by decide +kernel) (pa_cons (pv 5) pa_nil)) pe_int) pa_nil)))
          (pss_one (ps_expr (pe_bm PySem.F.plainAttrs_list PySem.F.slot_list_append PySem.F.type_list_append mt_append (pv 1) (pa_cons (pe_op op_mod (pe_callTy call_int1 (by rfl) mi (by decide +kernel) (pa_cons (pe_op op_fdiv (pv 5) pe_int) pa_nil)) pe_int) pa_nil)))))))))))
      (pss_one (ps_ret (pv 1)))), ?_⟩
    -- draws = []
    refine ⟨Nat.zero_le _, fun o no => ?_⟩
    have s1 : Same H (upd H o (.lst [])) := same_upd no
    have hS1 := s1.seq hS
    refine (q_forR (n := if (ns.length : Int) < 63 then (ns.length : Int) else 63) (va_cons (vl_min2 vl_c ((vl_lenL (vl_var rfl) hS1).is (by rw [List.length_map]))) va_nil) ⟨by split <;> omega, by split <;> omega⟩
      (fun i σ H3 => ∃ y2 y3 y4 y5 ds, σ = [some (.ref a), some (.ref o), y2, y3, y4, y5] ∧ Same H H3 ∧ H3 o = some (.lst (ds.map V.int)) ∧ DrawsOk (60 * i) ds)
      ⟨none, none, none, none, [], rfl, s1, upd_same, Nat.zero_le _, fun _ h => by cases h⟩ (fun i σ H3 hi hP => ?_) (fun σ H3 hP => ?_))
    · obtain ⟨y2, y3, y4, y5, ds, rfl, sm, ho, hd⟩ := hP
      have hi2 : i < ns.length := by
        split at hi <;> omega
      have hA := sm.seq hS
      have g1 : (ns.map V.int)[i]? = some (.int ns[i]) := by
        rw [List.getElem?_map, List.getElem?_eq_getElem hi2]
        rfl
      -- rest = abs(script[k])
      refine (q_asg (v := .int (if ns[i] < 0 then -ns[i] else ns[i])) (vl_abs (vl_ixL (vl_var rfl) (vl_var rfl) hA (atI_nat g1))) ?_)
      generalize hr0 : (if ns[i] < 0 then -ns[i] else ns[i]) = r
      have hr1 : 0 ≤ r := by
        rw [← hr0]
        split <;> omega
      refine g_if (b := decide ((10 : Int) ^ (18 : Int).toNat ≤ r)) (by exact an_test (vl_I0 (vl_var rfl) (vl_I vl_c vl_c ⟨by decide, by decide, by decide⟩))) (fun _ => ?_) (fun hlt => ?_)
      · refine g_forR (n := 60) (va_cons vl_c va_nil) ⟨by decide, by decide⟩
          (fun j σ H4 => ∃ y4 r ds', σ = [some (.ref a), some (.ref o), some (.int i), some (.int r), y4, y5] ∧ Same H H4 ∧ H4 o = some (.lst (ds'.map V.int)) ∧ DrawsOk (60 * i + j) ds')
          ⟨y4, r, ds, rfl, sm, ho, hd⟩ (fun j σ H4 hj hP => ?_) (fun σ H4 hP => ?_)
        · obtain ⟨z4, r', ds', rfl, sm', ho', hd'⟩ := hP
          refine g_if (by walk_at "ev") (fun _ => ?_) (fun _ => ?_)
          · have h0 : 0 ≤ r' % 65536 := Int.emod_nonneg _ (by decide)
            have h1 : r' % 65536 < 65536 := Int.emod_lt_of_pos _ (by decide)
            refine (q_app (vl_var rfl) ho' (v := .int (r' % 65536)) (by walk_at "ev") ?_ ?_)
            · rw [List.length_map]
              have := hd'.len
              exact Nat.lt_of_le_of_lt this (Nat.lt_of_le_of_lt (show 60 * i + j ≤ 10000 by omega) (by decide))
            · refine g_asg (v := .int (r' / 65536)) (by walk_at "ev") ?_
              refine ⟨_, _, ds' ++ [r' % 65536], rfl, same_upd' sm' no, ?_, hd'.app h0 h1⟩
              rw [upd_same, List.map_append]
              rfl
          · exact ⟨_, _, ds', rfl, sm', ho', hd'.mono (Nat.le_succ _)⟩
        · obtain ⟨z4, r', ds', rfl, sm', ho', hd'⟩ := hP
          exact ⟨_, _, _, _, ds', rfl, sm', ho', hd'⟩
      · have hlt : r < 1000000000000000000 := by
          have := of_decide_eq_false hlt
          have e : (10 : Int) ^ (18 : Int).toNat = 1000000000000000000 := by decide
          omega
        refine (q_asg (v := .int ((r * 48271 + ((i : Int) + 1) * 69621) % 2147483647)) (by walk_at "ev"; exact .inl ⟨by omega, by omega⟩; exact .inl ⟨by omega, by omega⟩) ?_)
        generalize hm : (r * 48271 + ((i : Int) + 1) * 69621) % 2147483647 = m
        have hm0 : 0 ≤ m := by
          rw [← hm]
          exact Int.emod_nonneg _ (by decide)
        have hm1 : m < 2147483647 := by
          rw [← hm]
          exact Int.emod_lt_of_pos _ (by decide)
        refine (q_asg (v := .int ((m * 16807 + 11 * (i : Int) + 5) % 2147483629)) (by walk_at "ev"; exact .inl ⟨by omega, by omega⟩; exact .inl ⟨by decide, by decide⟩) ?_)
        generalize (m * 16807 + 11 * (i : Int) + 5) % 2147483629 = m2
        have h0 : 0 ≤ m2 % 65536 := Int.emod_nonneg _ (by decide)
        have h1 : m2 % 65536 < 65536 := Int.emod_lt_of_pos _ (by decide)
        have h2 : 0 ≤ (m2 / 65536) % 32768 := Int.emod_nonneg _ (by decide)
        have h3 : (m2 / 65536) % 32768 < 65536 := Int.lt_trans (Int.emod_lt_of_pos _ (by decide)) (by decide)
        have hl := hd.len
        refine (q_app (vl_var rfl) ho (v := .int (m2 % 65536)) (by walk_at "ev") ?_ ?_)
        · rw [List.length_map]
          exact Nat.lt_of_le_of_lt (show ds.length ≤ 10000 by omega) (by decide)
        · refine g_app (vl_var rfl) upd_same (v := .int ((m2 / 65536) % 32768)) (by walk_at "ev") ?_ ?_
          · rw [List.length_append, List.length_map]
            exact Nat.lt_of_le_of_lt (show ds.length + 1 ≤ 10000 by omega) (by decide)
          · refine ⟨_, _, _, _, (ds ++ [m2 % 65536]) ++ [(m2 / 65536) % 32768], rfl, same_upd' (same_upd' sm no) no, ?_, ((hd.app h0 h1).app h2 h3).mono (by omega)⟩
            rw [upd_same, List.map_append, List.map_append]
            rfl
    · obtain ⟨y2, y3, y4, y5, ds, rfl, sm, ho, hd⟩ := hP
      refine g_ret (vl_var rfl) (q H3 o ds sm no ho (hd.mono ?_))
      split <;> omega
end
abbrev sAt : Stmt := topS 17
abbrev sIsI : Stmt := topS 18
abbrev sMix : Stmt := topS 19
abbrev sPrice : Stmt := topS 20
theorem scAt : FnScope ["draws", "k", "many"] ["draws", "k", "many"] (defScope sAt) := ⟨rfl, rfl, rfl, by decide +kernel, rfl, by decide +kernel, by decide +kernel⟩
theorem scIsI : FnScope ["actual"] ["actual"] (defScope sIsI) := ⟨rfl, rfl, rfl, by decide +kernel, rfl, by decide +kernel, by decide +kernel⟩
theorem scMix : FnScope ["draws", "k", "many", "value"] ["draws", "k", "many"] (defScope sMix) := ⟨rfl, rfl, rfl, by decide +kernel, rfl, by decide +kernel, by decide +kernel⟩
theorem scPrice : FnScope ["draws", "k", "word"] ["draws", "k"] (defScope sPrice) := ⟨rfl, rfl, rfl, by decide +kernel, rfl, by decide +kernel, by decide +kernel⟩
local macro_rules
  | `(tactic| walk_at "ev") => `(tactic| repeat' (first
    | exact vl_c | exact vl_var rfl | apply vl_I0 | apply vl_I | apply vl_int1 | apply vl_abs | apply vl_min2 | apply vl_max2 | apply vl_neg | apply vl_chainI
    | apply vl_lenL | apply vl_ixL | apply vl_ixT | apply vl_isN | apply vl_notN | apply vl_eq | apply vl_ne
    | apply an_test | apply an_B | apply an_not
    | exact (show (0 : Int) < _ by decide) | exact (show (0 : Int) < _ ∧ _ < (1073741824 : Int) from ⟨by decide, by decide⟩)))
/-- an int in [0, m) for draws, k, m -/
def spAt (K : PySem.W.Frag) : Sp := fun vs H Q _ => ∃ (a : Addr) (ds : List Int) (k m : Int), vs = [.ref a, .int k, .int m] ∧ SqL K H a (ds.map V.int) ∧ 0 ≤ k ∧ 0 < m ∧ ∀ r, 0 ≤ r ∧ r < m → Q (.int r) H
def spIsI : Sp := fun vs H Q _ => ∃ i : Int, vs = [.int i] ∧ Q (.bl true) H
section
variable {P : Program} {w : World} {K : PySem.W.Frag} {mg : Str → Option Value} {base : Heap}
theorem ok_isI {f : Addr} {fd : FuncData} {k : Nat} (F : Fun K "_law_is_integer" "_law_is_integer" sIsI f fd) (ms : mg "isinstance" = none) (mi : mg "int" = none) (mb : mg "bool" = none) :
    FnOk P w K mg base CX0 (k + 1) f fd ["actual"] spIsI := by
  refine F.ok scIsI (fun vs H Q E h => ?_) (fun cdv A outer s H vs Q E hr h => ?_)
  · obtain ⟨i, rfl, _⟩ := h
    rfl
  · obtain ⟨i, rfl, q⟩ := h
    refine ⟨_, pss_one (ps_ret (pe_and (pe_callB call_isi (by rfl) ms (by decide +kernel) (pa_cons (pv 0) (pa_cons (pe_bltn (v := .ty "int") (by rfl) mi (by decide +kernel) rfl) pa_nil)))
      (pe_one (pe_not (pe_callB call_isi (by rfl) ms (by decide +kernel) (pa_cons (pv 0) (pa_cons (pe_bltn (v := .ty "bool") (by rfl) mb (by decide +kernel) rfl) pa_nil))))))), ?_⟩
    refine ⟨.int i, rfl, .int i, .ty "int", .type "int", .type "int", true, rfl, .ty _, .base (.int _), kit_ty (by decide +kernel), true, rfl, iteT ?_⟩
    exact ⟨.int i, rfl, .int i, .ty "bool", .type "int", .type "bool", false, rfl, .ty _, .base (.int _), kit_ty (by decide +kernel), false, rfl, q⟩
theorem ok_at {f : Addr} {fd : FuncData} {k : Nat} (F : Fun K "_law_at" "_law_at" sAt f fd) (ml : mg "len" = none) (mi : mg "int" = none) :
    FnOk P w K mg base CX0 (k + 1) f fd ["draws", "k", "many"] (spAt K) := by
  refine F.ok scAt (fun vs H Q E h => ?_) (fun cdv A outer s H vs Q E hr h => ?_)
  · obtain ⟨a, ds, k, m, rfl, _⟩ := h
    rfl
  · obtain ⟨a, ds, k, m, rfl, hS, hk, hm, q⟩ := h
    refine ⟨_, pss_cons (ps_if (pt_cmpR op_lt (pv 1) (pe_callB call_len_seq (by rfl) ml PySem.boot_len (pa_cons (pv 0) pa_nil)) (nomark _))
        (pss_one (ps_ret (pe_op op_mod (pe_callTy call_int1 (by rfl) mi (by decide +kernel) (pa_cons (pe_ix ix_list (pv 0) (pv 1) (fun _ _ => rfl)) pa_nil)) (pv 2)))) pss_nil)
      (pss_one (ps_ret pe_int)), ?_⟩
    refine q_when (b := decide (k < (ds.length : Int))) (by exact an_test (vl_I0 (vl_var rfl) ((vl_lenL (vl_var rfl) hS).is (by rw [List.length_map])))) (fun hb => ?_) (fun _ => ?_)
    · have hb := of_decide_eq_true hb
      obtain ⟨d, g', _⟩ := at_int hk hb
      refine g_ret (v := .int (d % m)) ?_ (q _ ⟨Int.emod_nonneg _ (by omega), Int.emod_lt_of_pos _ hm⟩)
      exact vl_I (vl_int1 (vl_ixL (vl_var rfl) (vl_var rfl) hS g')) (vl_var rfl) hm
    · exact g_ret vl_c (q 0 ⟨by omega, by omega⟩)
theorem ok_mix {f : Addr} {fd : FuncData} {k : Nat} (F : Fun K "_law_mix" "_law_mix" sMix f fd) (ml : mg "len" = none) (mi : mg "int" = none) :
    FnOk P w K mg base CX0 (k + 1) f fd ["draws", "k", "many"] (spAt K) := by
  refine F.ok scMix (fun vs H Q E h => ?_) (fun cdv A outer s H vs Q E hr h => ?_)
  · obtain ⟨a, ds, k, m, rfl, _⟩ := h
    rfl
  · obtain ⟨a, ds, k, m, rfl, hS, hk, hm, q⟩ := h
    refine ⟨_, pss_cons (ps_set (i := 3) scMix.nd rfl (.inl rfl) pe_int)
      (Evl.pss_cut (ps_if (pt_cmpR op_gt (pe_callB call_len_seq (by rfl) ml PySem.boot_len (pa_cons (pv 0) pa_nil)) pe_int (nomark _))
        (pss_one (ps_set (i := 3) scMix.nd rfl (.inl rfl) (pe_ix ix_list (pv 0) (pe_op op_mod (pe_callTy call_int1 (by rfl) mi (by decide +kernel) (pa_cons (pv 1) pa_nil)) (pe_callB call_len_seq (by rfl) ml PySem.boot_len (pa_cons (pv 0) pa_nil))) (fun _ _ => rfl)))) pss_nil)
      (pss_cons (ps_if (pt_cmpR op_lt (pv 1) (pe_callB call_len_seq (by rfl) ml PySem.boot_len (pa_cons (pv 0) pa_nil)) (nomark _))
        (pss_one (ps_ret (pe_op op_mod (pe_callTy call_int1 (by rfl) mi (by decide +kernel) (pa_cons (pv 3) pa_nil)) (pv 2)))) pss_nil)
      (pss_one (ps_ret (pe_op op_mod (pe_callTy call_int1 (by rfl) mi (by decide +kernel) (pa_cons (pe_op op_fdiv (pe_callTy call_int1 (by rfl) mi (by decide +kernel) (pa_cons (pe_op op_add (pe_op op_mul (pv 3) pe_int) (pe_op op_mul (pv 1) pe_int)) pa_nil)) pe_int) pa_nil)) (pv 2)))))), ?_⟩
    refine q_asg vl_c ?_
    refine q_cut (M := fun σ' H' => ∃ v : Int, σ' = [some (.ref a), some (.int k), some (.int m), some (.int v)] ∧ H' = H) ?_ ?_
    · refine g_when (b := decide ((0 : Int) < (ds.length : Int))) (by exact an_test (vl_I0 ((vl_lenL (vl_var rfl) hS).is (by rw [List.length_map])) vl_c)) (fun hb => ?_) (fun _ => ⟨0, rfl, rfl⟩)
      have hb := of_decide_eq_true hb
      have h0 : 0 ≤ k % (ds.length : Int) := Int.emod_nonneg _ (by omega)
      have h1 : k % (ds.length : Int) < (ds.length : Int) := Int.emod_lt_of_pos _ hb
      obtain ⟨d, g', _⟩ := at_int h0 h1
      exact g_asg (vl_ixL (vl_var rfl) (vl_I (vl_int1 (vl_var rfl)) ((vl_lenL (vl_var rfl) hS).is (by rw [List.length_map])) hb) hS g') ⟨_, rfl, rfl⟩
    · rintro σ' H' ⟨v, rfl, rfl⟩
      refine q_when (b := decide (k < (ds.length : Int))) (by exact an_test (vl_I0 (vl_var rfl) ((vl_lenL (vl_var rfl) hS).is (by rw [List.length_map])))) (fun hb => ?_) (fun _ => ?_)
      · exact g_ret (v := .int (v % m)) (vl_I (vl_int1 (vl_var rfl)) (vl_var rfl) hm) (q _ ⟨Int.emod_nonneg _ (by omega), Int.emod_lt_of_pos _ hm⟩)
      · refine g_ret (v := .int ((v * 7919 + k * 104729) / 3 % m)) (vl_I (vl_int1 (vl_I (vl_int1 (vl_I0 (vl_I (vl_var rfl) vl_c (.inr ⟨by decide, by decide⟩)) (vl_I (vl_var rfl) vl_c (.inr ⟨by decide, by decide⟩)))) vl_c ⟨by decide, by decide⟩)) (vl_var rfl) hm) (q _ ⟨Int.emod_nonneg _ (by omega), Int.emod_lt_of_pos _ hm⟩)
end
def PriceOk (o : Option Int) : Prop := ∀ x, o = some x → 1 ≤ x ∧ x ≤ 1000000
structure LnkOk (n : Int) (l : Lnk) : Prop where
  a0 : 0 ≤ l.a
  ab : l.a < l.b
  bn : l.b < n
  t : PriceOk l.t
  k : PriceOk l.k
def LnkLt (x y : Lnk) : Prop := x.a < y.a ∨ (x.a = y.a ∧ x.b < y.b)
structure NetOk (N : Net) : Prop where
  n1 : 1 ≤ N.n
  n40 : N.n ≤ 40
  ok : ∀ l ∈ N.ls, LnkOk N.n l
  lt : N.ls.Pairwise LnkLt
  len : N.ls.length ≤ 1600
/-- a net that stands in H by itself -/
def NetAt (K : PySem.W.Frag) (H : Hp) (v : V) (N : Net) : Prop := ∃ p q xs, v = .ref p ∧ H p = some (.tup [.int N.n, .ref q]) ∧ H q = some (.lst xs) ∧ DpAll K H xs (N.ls.map lnkD)
theorem NetAt.dp {K : PySem.W.Frag} {H : Hp} {v : V} {N : Net} (h : NetAt K H v N) : Dp K H v (netD N) := by
  obtain ⟨p, q, xs, rfl, hp, hq, hx⟩ := h
  exact Dp.net (.of hp) (.of hq) hx
theorem NetAt.to {K : PySem.W.Frag} {H H' : Hp} {v : V} {N : Net} (h : NetAt K H v N) (s : Same H H') : NetAt K H' v N := by
  obtain ⟨p, q, xs, rfl, hp, hq, hx⟩ := h
  exact ⟨p, q, xs, rfl, s _ _ hp, s _ _ hq, DpAll.to hx s⟩
def spPrice (K : PySem.W.Frag) : Sp := fun vs H Q _ => ∃ (a : Addr) (ds : List Int) (k : Int), vs = [.ref a, .int k] ∧ SqL K H a (ds.map V.int) ∧ 0 ≤ k ∧ ∀ H' o, Same H H' → PriceOk o → Q (oV o) H'
def spNet (K : PySem.W.Frag) : Sp := fun vs H Q _ => ∃ (a : Addr) (ds : List Int) (k m : Int), vs = [.ref a, .int k, .int m] ∧ SqL K H a (ds.map V.int) ∧ 0 ≤ k ∧ 1 ≤ m ∧ m ≤ 40 ∧
  ∀ H' v N, Same H H' → NetAt K H' v N → NetOk N → N.n ≤ m → Q v H'
section
variable {P : Program} {w : World} {K : PySem.W.Frag} {mg : Str → Option Value} {base : Heap}
theorem ok_price {f : Addr} {fd : FuncData} (F : Fun K "_law_price" "_law_price" sPrice f fd) (M : Kal P w K mg base 1 "_law_mix" ["draws", "k", "many"] (spAt K)) (mi : mg "int" = none) :
    FnOk P w K mg base CX0 2 f fd ["draws", "k"] (spPrice K) := by
  refine F.ok scPrice (fun vs H Q E h => ?_) (fun cdv A outer s H vs Q E hr h => ?_)
  · obtain ⟨a, ds, k, rfl, _⟩ := h
    rfl
  · obtain ⟨a, ds, k, rfl, hS, hk, q⟩ := h
    refine ⟨_, pss_cons (ps_set (i := 2) scPrice.nd rfl (.inl rfl) (pe_k M hr (by decide) (by rfl) (pa_cons (pv 0) (pa_cons (pv 1) (pa_cons pe_int pa_nil)))))
      (pss_cons (ps_if (pt_cmpR op_eq (pv 2) pe_int (nomark _)) (pss_one (ps_ret pe_non)) pss_nil)
      (pss_cons (ps_if (pt_cmpR op_eq (pv 2) pe_int (nomark _))
        (pss_one (ps_ret (pe_op op_sub pe_int (pe_k M hr (by decide) (by rfl) (pa_cons (pv 0) (pa_cons (pe_op op_add (pv 1) pe_int) (pa_cons pe_int pa_nil))))))) pss_nil)
      (pss_one (ps_ret (pe_op op_add pe_int (pe_k M hr (by decide) (by rfl) (pa_cons (pv 0) (pa_cons (pe_op op_add (pv 1) pe_int)
        (pa_cons (pe_ix ix_list (pe_lst (pa_cons pe_int (pa_cons pe_int (pa_cons pe_int pa_nil)))) (pe_op op_mod (pe_callTy call_int1 (by rfl) mi (by decide +kernel) (pa_cons (pv 2) pa_nil)) pe_int) (fun _ _ => rfl)) pa_nil))))))))), ?_⟩
    refine q_asgI (vi_call (P := fun r => 0 ≤ r ∧ r < 7) (va_cons (vl_var rfl) (va_cons (vl_var rfl) (va_cons vl_c va_nil))) fun Q E q => ⟨a, ds, k, 7, rfl, hS, hk, by decide, q⟩) (fun wd hw => ?_)
    refine q_when (b := decide (V.int wd = V.int 0)) (by exact an_test (vl_eq (vl_var rfl) vl_c rfl)) (fun _ => ?_) (fun _ => ?_)
    · exact g_ret vl_c (q H none (Same.refl H) (fun x e => by cases e))
    · refine q_when (b := decide (V.int wd = V.int 1)) (by exact an_test (vl_eq (vl_var rfl) vl_c rfl)) (fun _ => ?_) (fun _ => ?_)
      · refine g_retI (P := fun r => 1 ≤ r ∧ r ≤ 1000000) (vi_I0 (vi_of vl_c) (vi_call (P := fun r => 0 ≤ r ∧ r < 3) (va_cons (vl_var rfl) (va_cons (vl_I0 (vl_var rfl) vl_c) (va_cons vl_c va_nil))) fun Q E q => ⟨a, ds, k + 1, 3, rfl, hS, by omega, by decide, q⟩) (fun p r hp hr => ?_)) (fun r hr => ?_)
        · omega
        · exact q H (some r) (Same.refl H) (fun x e => by
            cases e
            exact hr)
      · refine ⟨.ref a, rfl, .int k, rfl, k, 1, rfl, rfl, by show 3 ≤ sizeLine; decide, fun p np => ?_⟩
        refine (vl_I (vl_int1 (vl_var rfl)) vl_c (by decide)) _ ?_
        obtain ⟨d, g', hd⟩ := at_int (ds := [4, 30, 1000000]) (k := wd % 3) (by omega) (by show wd % 3 < 3; omega)
        have hd1 : 1 ≤ d ∧ d ≤ 1000000 := by
          have := List.mem_of_getElem? hd
          simp only [List.mem_cons, List.not_mem_nil, or_false] at this
          omega
        refine ⟨p, _, _, _, rfl, rfl, .inl (.inl upd_same), g', ?_⟩
        refine ⟨a, ds, k + 1, d, rfl, (same_upd np).seq hS, by omega, by omega, fun r hr => ?_⟩
        exact ⟨1, r, rfl, rfl, q _ (some (1 + r)) (same_upd np) (fun x e => by
          cases e
          omega)⟩
end
abbrev sNet : Stmt := topS 21
theorem scNet : FnScope ["draws", "k", "most", "size", "dense", "links", "a", "b", "at"] ["draws", "k", "most"] (defScope sNet) := ⟨rfl, rfl, rfl, by decide +kernel, rfl, by decide +kernel, by decide +kernel⟩
/-- the links made so far: all of them before (i, c) -/
structure LsAt (n i c : Int) (ls : List Lnk) : Prop where
  ok : ∀ l ∈ ls, LnkOk n l
  to : ∀ l ∈ ls, l.a < i ∨ (l.a = i ∧ l.b < c)
  lt : ls.Pairwise LnkLt
theorem LsAt.nil {n i c : Int} : LsAt n i c [] := ⟨fun _ h => (nomatch h), fun _ h => (nomatch h), .nil⟩
theorem LsAt.mono {n i c i' c' : Int} {ls : List Lnk} (h : LsAt n i c ls) (e : i < i' ∨ (i = i' ∧ c ≤ c')) : LsAt n i' c' ls :=
  ⟨h.ok, fun l hl => by
    have := h.to l hl
    omega, h.lt⟩
theorem LsAt.app {n i c : Int} {ls : List Lnk} {t k : Option Int} (h : LsAt n i c ls) (h0 : 0 ≤ i) (h1 : i < c) (h2 : c < n) (ht : PriceOk t) (hk : PriceOk k) : LsAt n i (c + 1) (ls ++ [⟨i, c, t, k⟩]) where
  ok := fun l hl => by
    rcases List.mem_append.mp hl with h' | h'
    · exact h.ok l h'
    · rw [List.mem_singleton.mp h']
      exact ⟨h0, h1, h2, ht, hk⟩
  to := fun l hl => by
    rcases List.mem_append.mp hl with h' | h'
    · have := h.to l h'
      omega
    · rw [List.mem_singleton.mp h']
      exact .inr ⟨rfl, Int.lt_succ c⟩
  lt := List.pairwise_append.mpr ⟨h.lt, List.pairwise_singleton _ _, fun x hx y hy => by
    rw [List.mem_singleton.mp hy]
    exact h.to x hx⟩
section
variable {P : Program} {w : World} {K : PySem.W.Frag} {mg : Str → Option Value} {base : Heap}
theorem ok_net {f : Addr} {fd : FuncData} (F : Fun K "_law_net" "_law_net" sNet f fd) (M : Kal P w K mg base 1 "_law_mix" ["draws", "k", "many"] (spAt K)) (C : Kal P w K mg base 2 "_law_price" ["draws", "k"] (spPrice K)) (mr : mg "range" = none) :
    FnOk P w K mg base CX0 3 f fd ["draws", "k", "most"] (spNet K) := by
  refine F.ok scNet (fun vs H Q E h => ?_) (fun cdv A outer s H vs Q E hr h => ?_)
  · obtain ⟨a, ds, k, m, rfl, _⟩ := h
    rfl
  · obtain ⟨a, ds, k, m, rfl, hS, hk, hm1, hm2, q⟩ := h
    refine ⟨_, pss_cons (ps_set (i := 3) scNet.nd rfl (.inl rfl) (pe_op op_add pe_int (pe_k M hr (by decide) (by rfl) (pa_cons (pv 0) (pa_cons (pv 1) (pa_cons (pv 2) pa_nil))))))
      (pss_cons (ps_set (i := 4) scNet.nd rfl (.inl rfl) (pe_op op_add pe_int (pe_k M hr (by decide) (by rfl) (pa_cons (pv 0) (pa_cons (pe_op op_add (pv 1) pe_int) (pa_cons pe_int pa_nil))))))
      (pss_cons (ps_set (i := 5) scNet.nd rfl (.inl rfl) (pe_lst pa_nil))
      (pss_cons (ps_for PassesOwn.never rfl (pi_range1 (by rfl) mr (pa_cons (pv 3) pa_nil)) (pg_name (i := 6) scNet.nd rfl (.inl rfl))
        (pss_one (ps_for PassesOwn.never rfl (pi_range2 (by rfl) mr (pa_cons (pe_op op_add (pv 6) pe_int) (pa_cons (pv 3) pa_nil))) (pg_name (i := 7) scNet.nd rfl (.inl rfl))
          (pss_cons (ps_set (i := 8) scNet.nd rfl (.inl rfl) (pe_op op_add (pe_op op_add (pv 1) pe_int) (pe_op op_mul pe_int (pe_op op_add (pe_op op_mul (pv 6) (pv 3)) (pv 7)))))
          (pss_one (ps_if (pt_cmpR op_eq (pe_k M hr (by decide) (by rfl) (pa_cons (pv 0) (pa_cons (pv 8)
              (pa_cons (pe_ix ix_list (pe_lst (pa_cons pe_int (pa_cons pe_int (pa_cons pe_int (pa_cons (pv 3) (pa_cons (pv 3) pa_nil)))))) (pe_op op_sub (pv 4) pe_int) (fun _ _ => rfl)) pa_nil)))) pe_int (nomark _))
            (pss_one (ps_expr (pe_bm PySem.F.plainAttrs_list PySem.F.slot_list_append PySem.F.type_list_append mt_append (pv 5)
              (pa_cons (pe_tup (pa_cons (pv 6) (pa_cons (pv 7) (pa_cons (pe_k C hr (by decide) (by rfl) (pa_cons (pv 0) (pa_cons (pe_op op_add (pv 8) pe_int) pa_nil)))
                (pa_cons (pe_k C hr (by decide) (by rfl) (pa_cons (pv 0) (pa_cons (pe_op op_add (pv 8) pe_int) pa_nil))) pa_nil))))) pa_nil)))) pss_nil))))))
      (pss_one (ps_ret (pe_tup (pa_cons (pv 3) (pa_cons (pv 5) pa_nil)))))))), ?_⟩
    refine q_asgI (P := fun r => 1 ≤ r ∧ r ≤ m) (vi_I0 (vi_of vl_c) (vi_call (P := fun r => 0 ≤ r ∧ r < m) (va_cons (vl_var rfl) (va_cons (vl_var rfl) (va_cons (vl_var rfl) va_nil))) fun Q E q => ⟨a, ds, k, m, rfl, hS, hk, by omega, q⟩) (fun p r hp hr => by omega)) (fun n hn => ?_)
    refine q_asgI (P := fun r => 1 ≤ r ∧ r ≤ 5) (vi_I0 (vi_of vl_c) (vi_call (P := fun r => 0 ≤ r ∧ r < 5) (va_cons (vl_var rfl) (va_cons (vl_I0 (vl_var rfl) vl_c) (va_cons vl_c va_nil))) fun Q E q => ⟨a, ds, k + 1, 5, rfl, hS, by omega, by decide, q⟩) (fun p r hp hr => by omega)) (fun dn hdn => ?_)
    refine ⟨Nat.zero_le _, fun o no => ?_⟩
    refine q_forR (n := n) (va_cons (vl_var rfl) va_nil) ⟨by omega, by omega⟩
      (fun i σ H3 => ∃ y6 y7 y8 xs ls, σ = [some (.ref a), some (.int k), some (.int m), some (.int n), some (.int dn), some (.ref o), y6, y7, y8] ∧ H3 o = some (.lst xs) ∧ Same H (but H3 o) ∧ DpAll K (but H3 o) xs (ls.map lnkD) ∧ LsAt n i 0 ls ∧ ls.length ≤ i * 40)
      ⟨none, none, none, [], [], rfl, upd_same, same_but (same_upd no) no, .nil, .nil, by simp⟩ (fun i σ H3 hi hP => ?_) (fun σ H3 hP => ?_)
    · obtain ⟨y6, y7, y8, xs, ls, rfl, ho, sm, hx, hl, hlen⟩ := hP
      refine g_forR2 (lo := (i : Int) + 1) (n := n) (va_cons (vl_I0 (vl_var rfl) vl_c) (va_cons (vl_var rfl) va_nil)) ⟨by omega, by omega, by omega, by omega⟩
        (fun j σ H3 => ∃ y7 y8 xs ls, σ = [some (.ref a), some (.int k), some (.int m), some (.int n), some (.int dn), some (.ref o), some (.int i), y7, y8] ∧ H3 o = some (.lst xs) ∧ Same H (but H3 o) ∧ DpAll K (but H3 o) xs (ls.map lnkD) ∧ LsAt n i ((i : Int) + 1 + j) ls ∧ ls.length ≤ i * 40 + j)
        ⟨y7, y8, xs, ls, rfl, ho, sm, hx, hl.mono (.inr ⟨rfl, by omega⟩), hlen⟩ (fun j σ H3 hj hP => ?_) (fun σ H3 hP => ?_)
      · obtain ⟨y7, y8, xs, ls, rfl, ho, sm, hx, hl, hlen⟩ := hP
        refine q_asg (v := .int (k + 3 + 2 * (i * n + ((i : Int) + 1 + j)))) (vl_I0 (vl_I0 (vl_var rfl) vl_c) (vl_I vl_c (vl_I0 (vl_I (vl_var rfl) (vl_var rfl) (.inl ⟨by omega, by omega⟩)) (vl_var rfl)) (.inl ⟨by decide, by decide⟩))) ?_
        have hin : 0 ≤ (i : Int) * n := Int.mul_nonneg (by omega) (by omega)
        generalize hat : k + 3 + 2 * ((i : Int) * n + ((i : Int) + 1 + j)) = at_
        have hat0 : 0 ≤ at_ := by omega
        refine ⟨.ref a, rfl, .int at_, rfl, .int n, rfl, .int n, rfl, by show 5 ≤ sizeLine; decide, fun p np => ?_⟩
        refine (vl_I0 (vl_var rfl) vl_c) _ ?_
        have npo : o ≠ p := ne_of_none ho np
        obtain ⟨d, g', hd⟩ := at_int (ds := [2, 3, 4, n, n]) (k := dn - 1) (by omega) (by show dn - 1 < 5; omega)
        have hd1 : 1 ≤ d := by
          have := List.mem_of_getElem? hd
          simp only [List.mem_cons, List.not_mem_nil, or_false] at this
          omega
        have s3 : Same H3 (upd H3 p (.lst [.int 2, .int 3, .int 4, .int n, .int n])) := same_upd np
        have sH : Same H H3 := sm.trans but_same
        refine ⟨p, _, _, _, rfl, rfl, .inl (.inl upd_same), g', ?_⟩
        refine ⟨a, ds, at_, d, rfl, (sH.trans s3).seq hS, hat0, by omega, fun r hr => ?_⟩
        refine ⟨rfl, _, rfl, ite2 (fun _ => ?_) (fun _ => ?_)⟩
        · -- links.append
          have ho4 := s3 _ _ ho
          refine ⟨.ref o, rfl, .inl ⟨rfl, _, .inl (.inl ho4)⟩, .int i, rfl, .int ((i : Int) + 1 + j), rfl, ?_⟩
          refine ⟨.ref a, rfl, .int at_, rfl, at_, 1, rfl, rfl, a, ds, at_ + 1, rfl, (sH.trans s3).seq hS, by omega, fun H5 t s5 ht => ?_⟩
          refine ⟨.ref a, rfl, .int at_, rfl, at_, 2, rfl, rfl, a, ds, at_ + 2, rfl, ((sH.trans s3).trans s5).seq hS, by omega, fun H6 u s6 hu => ?_⟩
          refine ⟨by show 4 ≤ sizeLine; decide, fun T nT => ?_⟩
          have s36 : Same H3 H6 := (s3.trans s5).trans s6
          have ho6 := s36 _ _ ho
          have nTo : o ≠ T := ne_of_none ho6 nT
          have s7 : Same H6 (upd H6 T (.tup [.int i, .int ((i : Int) + 1 + j), oV t, oV u])) := same_upd nT
          refine ⟨o, xs, .ref T, rfl, rfl, s7 _ _ ho6, ?_, ?_⟩
          · rw [DpAll.len hx, List.length_map]
            exact Nat.lt_of_le_of_lt (show ls.length ≤ 10000 by omega) (by decide)
          · have sb : Same (but H3 o) (but (upd (upd H6 T (.tup [.int i, .int ((i : Int) + 1 + j), oV t, oV u])) o (.lst (xs ++ [.ref T]))) o) := by
              rw [but_upd]
              exact but_mono (s36.trans s7)
            refine ⟨_, _, xs ++ [.ref T], ls ++ [⟨i, (i : Int) + 1 + j, t, u⟩], rfl, upd_same, sm.trans sb, ?_, ?_, ?_⟩
            · rw [List.map_append]
              refine DpAll.app (DpAll.to hx sb) (DpAll.one (Dp.lnk (l := ⟨i, (i : Int) + 1 + j, t, u⟩) (.of ?_)))
              rw [but_upd, but_ne nTo.symm, upd_same]
              rfl
            · rw [show (i : Int) + 1 + ((j + 1 : Nat) : Int) = (i : Int) + 1 + j + 1 by omega]
              exact hl.app (by omega) (by omega) (by omega) ht hu
            · rw [List.length_append]
              show ls.length + 1 ≤ i * 40 + (j + 1)
              omega
        · have sb : Same (but H3 o) (but (upd H3 p (.lst [.int 2, .int 3, .int 4, .int n, .int n])) o) := but_mono s3
          exact ⟨_, _, xs, ls, rfl, s3 _ _ ho, sm.trans sb, DpAll.to hx sb, hl.mono (.inr ⟨rfl, by omega⟩), by omega⟩
      · obtain ⟨y7, y8, xs, ls, rfl, ho, sm, hx, hl, hlen⟩ := hP
        exact ⟨_, _, _, xs, ls, rfl, ho, sm, hx, hl.mono (.inl (by omega)), by omega⟩
    · obtain ⟨y6, y7, y8, xs, ls, rfl, ho, sm, hx, hl, hlen⟩ := hP
      refine ⟨.int n, rfl, .ref o, rfl, by show 2 ≤ sizeLine; decide, fun T nT => ?_⟩
      have s3 : Same H3 (upd H3 T (.tup [.int n, .ref o])) := same_upd nT
      exact q _ _ ⟨n, ls⟩ ((sm.trans but_same).trans s3) ⟨T, o, xs, rfl, upd_same, s3 _ _ ho, DpAll.to hx (but_same.trans s3)⟩ ⟨by show 1 ≤ n; omega, by show n ≤ 40; omega, hl.ok, hl.lt, by show ls.length ≤ 1600; omega⟩ (by show n ≤ m; omega)
end
/-! ### data that is the same is equal -/
theorem lay_o : ∀ o : Option Int, (oD o).canLay0 = true ∧ (oD o).depth = 0
  | none => ⟨rfl, rfl⟩
  | some _ => ⟨rfl, rfl⟩
theorem lay_lnks : ∀ ls : List Lnk, PyData.canLayAll0 (ls.map lnkD) = true ∧ PyData.depthAll (ls.map lnkD) ≤ 1
  | [] => ⟨rfl, Nat.zero_le _⟩
  | l :: ls => by
    have h1 := lay_o l.t
    have h2 := lay_o l.k
    have ih := lay_lnks ls
    constructor
    · show (((true && (true && ((oD l.t).canLay0 && ((oD l.k).canLay0 && true)))) && PyData.canLayAll0 (ls.map lnkD)) = true)
      rw [h1.1, h2.1, ih.1]
      rfl
    · show max (max 0 (max 0 (max (oD l.t).depth (max (oD l.k).depth 0))) + 1) (PyData.depthAll (ls.map lnkD)) ≤ 1
      rw [h1.2, h2.2]
      have := ih.2
      simp only [Nat.max_self, Nat.zero_add]
      omega
theorem shaped_net (N : Net) : SeqAt.shaped (netD N) = true := by
  have h := lay_lnks N.ls
  show ((true && (PyData.canLayAll0 (N.ls.map lnkD) && true)) && decide (max 0 (max (PyData.depthAll (N.ls.map lnkD) + 1) 0) + 1 ≤ 64)) = true
  rw [h.1, decide_eq_true (show max 0 (max (PyData.depthAll (N.ls.map lnkD) + 1) 0) + 1 ≤ 64 by
    have := h.2
    omega)]
  rfl
theorem eqv_net (N : Net) : PyData.eqv (netD N) (netD N) = true := SeqAt.eqv_refl _ (Bool.and_eq_true_iff.mp (shaped_net N)).1
/-! ### new lists -/
def Vn (te : TE) (σ : L2.St) (H : Hp) (xs : List V) : Prop := ∀ Q : VK, (∀ p H', Same H H' → H p = none → H' p = some (.lst xs) → Q (.ref p) H') → te σ H Q
section
variable {K : PySem.W.Frag} {σ : L2.St} {H : Hp} {ta tb te : TE} {tr : TA} {xs ys : List V} {a : Addr} {D : Ends} {tw : TS}
theorem vn_lst (h : Va tr σ H xs) (hz : xs.length ≤ sizeLine) : Vn (tLst tr) σ H xs := fun Q q => h _ ⟨hz, fun p np => q p _ (same_upd np) np upd_same⟩
theorem vn_slice {tl th : TO} {lo hi : Option Int} (h : Vl te σ H (.ref a)) (hl : ∀ Q : Option Int → Hp → Prop, Q lo H → tl σ H Q) (hh : ∀ Q : Option Int → Hp → Prop, Q hi H → th σ H Q) (hx : SqL K H a xs) : Vn (tSl (rSlL K) te tl th) σ H (cutV xs lo hi) := fun Q q =>
  h _ (hl _ (hh _ ⟨a, xs, rfl, hx, fun p np => q p _ (same_upd np) np upd_same⟩))
theorem vn_rev (h : Vl te σ H (.ref a)) (hx : SqL K H a xs) : Vn (tRevL K te) σ H xs.reverse := fun Q q => h _ ⟨a, xs, rfl, hx, fun p np => q p _ (same_upd np) np upd_same⟩
theorem vn_cat (ha : Vn ta σ H xs) (hb : ∀ H', Same H H' → Vn tb σ H' ys) (hz : xs.length + ys.length ≤ sizeLine) : Vn (tOp rCat ta tb) σ H (xs ++ ys) := fun Q q => ha _ fun p H1 s1 np hp => hb H1 s1 _ fun r H2 s2 nr hr =>
  ⟨p, r, xs, ys, rfl, rfl, s2 _ _ hp, hr, hz, fun t nt => q t _ ((s1.trans s2).trans (same_upd nt)) (Same.free (s1.trans s2) nt) upd_same⟩
theorem vn_listOf (h : Vl te σ H (.ref a)) (hx : SqL K H a xs) : Vn (tCB (fun xs H Q => ∃ p ys, xs = [V.ref p] ∧ (SqL K H p ys ∨ SqT K H p ys) ∧ ∀ l, H l = none → Q (V.ref l) (upd H l (.lst ys))) (tCons te tNil)) σ H xs := fun Q q =>
  h _ ⟨a, xs, rfl, .inl hx, fun p np => q p _ (same_upd np) np upd_same⟩
theorem q_asgN {i : Nat} (h : Vn te σ H xs) (k : ∀ p H', Same H H' → H p = none → H' p = some (.lst xs) → tw D (σ.set i (some (.ref p))) H') : tSeq (tAsg te (gName i)) tw D σ H := h _ k
end
theorem cut_to {xs : List V} {n : Nat} (h : n ≤ xs.length) : cutV xs none (some (n : Int)) = xs.take n := by
  unfold cutV
  rw [HT.sIx_none, HT.sIx_nat, Nat.min_eq_left h, Nat.sub_zero, List.drop_zero]
theorem cut_from {xs : List V} {n : Nat} (h : n ≤ xs.length) : cutV xs (some (n : Int)) none = xs.drop n := by
  unfold cutV
  rw [HT.sIx_none, HT.sIx_nat, Nat.min_eq_left h]
  exact List.take_of_length_le (by rw [List.length_drop]; exact Nat.le_refl _)
/-- lists of lists of ints -/
theorem Dp.ints {K : PySem.W.Frag} {H : Hp} {p : Addr} {ns : List Int} (h : SqL K H p (ns.map V.int)) : Dp K H (.ref p) (.list (ns.map PyData.int)) := .lst h (DpAll.ints ns)
theorem Dp.ints_inv {K : PySem.W.Frag} {H : Hp} {v : V} {ns : List Int} (h : Dp K H v (.list (ns.map PyData.int))) : ∃ p, v = .ref p ∧ SqL K H p (ns.map V.int) := by
  obtain ⟨a, xs, rfl, hs, ha⟩ := Dp.lst_inv h
  rw [DpAll.ints_inv ha] at hs
  exact ⟨a, rfl, hs⟩
end Ovc
namespace PySem
namespace LowX
open PySem.W PySem.Calls PyProof.Rows PySem.HandSPX
/-! ### the text of __init__ -/
def iA (p1 p2 : Pos) : Arguments := { posonlyargs := [], args := [{ arg := "self", annotation := none, pos := p1 }, { arg := "at", annotation := none, pos := p2 }], vararg := none, kwonlyargs := [], kw_defaults := [], kwarg := none, defaults := [] }
def iB (q1 q2 q3 q4 : Pos) : List Stmt := [.Assign [.Attribute (.Name "self" q1) "at" q2] (.Name "at" q3) q4]
def iS : Scope := { kind := .function, names := [(PySem.Str.ofString "self", .local), (PySem.Str.ofString "at", .local)], isGenerator := false, isCoroutine := false, more := [] }
/-- what the written part says of Low, at C, and of its __init__, at fI -/
structure LowTxt (K : Frag) (mg : Str → Option Value) (xN : Str) (C fI : Addr) : Prop where
  gC : mg xN = some (.ref C)
  cls : ∃ nm q N bs bm sn sub ab col dd k0 k1 k2 k3 k5, K.lookup C = some (excClassObj nm q C N bs bm true sn sub ab col dd k0 k1 k2 k3 k5 "ValueError.__new__") ∧ refsVE bm = true
  sa : findIn K (.ref C) "__setattr__" = some (some (.builtin "object.__setattr__"))
  ga : findIn K (.ref C) "__getattribute__" = some (some (.builtin "BaseException.__getattribute__"))
  gg : findIn K (.ref C) "__getattr__" = some none
  noN : findIn K (.ref C) "at" = some none
  iC : findIn K (.ref C) "__init__" = some (some (.ref fI))
  tC : typeIn K (.ref fI) = some (.type "function")
  kC : keepIn K (.ref C) = true
  exC : subIn K (.ref C) (.type "BaseException") = some true
  tyC : typeIn K (.ref C) = some (.type "type")
  hdC : hasDictIn K C = true
  te : exmOne K (.ref C) (.ref C) = some true
  fn : ∃ (oc : Value) (od : Option Addr) (doc pm : Value) (an : Option Addr) (cdv ct : Value) (osl : Array (Option Value)) (p1 p2 q1 q2 q3 q4 : Pos),
    K.lookup fI = some ⟨oc, od, .func (fnOf "__init__" "OverpassesError.__init__" (iA p1 p2) (iB q1 q2 q3 q4) iS .none .none doc pm an cdv ct), osl⟩ ∧ codeIn K cdv "OverpassesError.__init__" = true
theorem one_size (v : Value) : [v].length ≤ sizeLine := by
  rw [sizeLine_eq]
  exact (by decide : 1 ≤ 16777216)
theorem kept_but {K : Frag} {h h' : Heap} {x : Addr} (X : K.In h) (hx : K.lookup x = none) (k : ∀ b o, b ≠ x → h.get? b = some o → h'.get? b = some o) : K.In h' := fun a o e =>
  k a o (fun z => by rw [z, hx] at e; cases e) (X a o e)
theorem ldC {M : Model} {s : Shared} {name : Str} {scope : Scope} {L a : Addr} {cd : Value} {m : Str → Option Value} {x : Str} {pos : Pos} {v : Value} {Q : Value → Shared → Prop} {A : Around} {E : Value → Shared → Prop} (hn : s.heap.Ns L m) (hv : m x = some v) (h : Q v s)
    (hk : scope.kind = .function := by rfl) (hl : (envOfC name scope L a cd).kindOf x = some .local := by rfl) (hd : (x == ("__debug__" : Str)) = false := by decide) :
    wpAny M A (eval (.Name x pos) (envOfC name scope L a cd)) Q E s := wpAny_Name (wpAny_loadName_local hk hl hn hv h) hd
/-- what __init__ leaves of a fresh exception at x -/
structure InitEnd (h h' : Heap) (x C dx t1 : Addr) (v : Value) : Prop where
  keep : ∀ b o, b ≠ x → h.get? b = some o → h'.get? b = some o
  obj : h'.get? x = some { cls := .ref C, dict := some dx, data := .fields #[.ref t1, .none, .none, .none, .bool false, .none] }
  dbig : h.objs.size ≤ dx
  dne : dx ≠ x
  ns : h'.Ns1 dx (fun y => if y = "at" then some v else none)
/-- a made Low -/
structure OwnMade (h h' : Heap) (e C d : Addr) (v : Value) : Prop where
  keep : ∀ b o, h.get? b = some o → h'.get? b = some o
  new : h.objs.size ≤ e
  obj : ∃ oe vs, h'.get? e = some oe ∧ oe.cls = .ref C ∧ oe.dict = some d ∧ oe.data = .fields vs ∧ vs[1]? = some .none
  dbig : h.objs.size ≤ d
  dne : d ≠ e
  ns : h'.Ns1 d (fun y => if y = "at" then some v else none)
section
variable {prog : Program} {w : World} {A : Around} {E : Value → Shared → Prop} {R : Result → Shared → Prop} {s : Shared} {K : Frag} {mg : Str → Option Value} {xN : Str} {C fI : Addr}
theorem low_init (T : LowTxt K mg xN C fI) {x t0 : Addr} {v : Value} (X : K.In s.heap) (hlim : s.heap.NoLimit) (hx : s.heap.get? x = some (excO C t0)) (hnx : K.lookup x = none) (hroom : A.depth < recursionLimit)
    (hq : ∀ h' tk dx, InitEnd s.heap h' x C dx t0 v → R (.ok (.ret .none)) { s with heap := h', toks := tk }) :
    codeAny (model prog w) A (.call (.ref fI) ⟨[.ref x, v], []⟩) R s := by
  obtain ⟨oc, od, doc, pm, an, cdv, ct, osl, p1, p2, q1, q2, q3, q4, ho, hcd⟩ := T.fn
  obtain ⟨nm, q, N, bs, bm, sn, sub, ab, col, dd, k0, k1, k2, k3, k5, hC, hbm⟩ := T.cls
  have hcl : clsIn K C = some { name := nm, bases := bs, mro := .ref C :: bm, ns := N, qualname := q, hasDict := true, slotNames := sn, subclasses := sub, abstract := ab, collection := col, hasDel := false } := by unfold clsIn; rw [hC] <;> rfl
  refine Att.call_fn (binds := [("self", .ref x), ("at", v)]) X hlim ho hcd hroom (BindsTo.of_eq (by first | rfl | with_unfolding_all rfl)) (by first | rfl | decide | with_unfolding_all rfl) (fun s₁ IC => ?_) rfl rfl rfl
  obtain ⟨h₁, tk₁, rfl⟩ := IC.toInCall.same
  have k : ∀ b o, s.heap.get? b = some o → h₁.get? b = some o := IC.toInCall.keep
  have hn := IC.toInCall.ns
  have hxL : s.heap.objs.size ≠ x := Nat.ne_of_gt (Heap.lt_size hx)
  have X₁ : K.In h₁ := X.keeps k
  have hx₁ := k _ _ hx
  -- self.by = by
  show wpAny _ _ (execs _ _) _ _ _
  refine wpAny_execs_cons (plainObj_wpAny_Assign_Attribute ?_)
  refine ldC (v := v) hn (by first | rfl | with_unfolding_all rfl | kernel_rfl) (ldC (v := .ref x) hn (by first | rfl | with_unfolding_all rfl | kernel_rfl) ?_)
  refine set_plain X₁ (ox := excO C t0) (od := none) ⟨hx₁, rfl, rfl, trivial⟩ T.sa ?_
  refine exc_osa X₁ hx₁ hcl (show refsVE (.ref C :: bm) = true from hbm) rfl T.noN (fun h₃ tk₃ dx k₃ dn dne hx₃ hn₃ => ?_)
  show wpAny _ _ (execs _ _) _ _ _
  have z : s.heap.objs.size < h₁.objs.size := hn.lt
  exact wpAny_execs_nil (hq h₃ tk₃ dx ⟨fun b o hb e => k₃ b o hb (k b o e), hx₃, Nat.le_of_lt (Nat.lt_of_lt_of_le z dn), dne, hn₃⟩)
theorem low_made (T : LowTxt K mg xN C fI) {v : Value} (X : K.In s.heap) (hlim : s.heap.NoLimit) (hroom : A.depth + 1 < recursionLimit)
    (hq : ∀ h' tk e d, OwnMade s.heap h' e C d v → R (.ok (.ret (.ref e))) { s with heap := h', toks := tk }) :
    codeAny (model prog w) A (.call (.ref C) ⟨[v], []⟩) R s := by
  obtain ⟨nm, q, N, bs, bm, sn, sub, ab, col, dd, k0, k1, k2, k3, k5, hC, hbm⟩ := T.cls
  obtain ⟨hp, g, dr, tk, os⟩ := s
  have k : ∀ b o, hp.get? b = some o → ((hp.push (kdv_tup [v])).push (excO C hp.objs.size)).get? b = some o := fun b o e => Heap.get?_push_of_some _ (Heap.get?_push_of_some _ e)
  have hget : ((hp.push (kdv_tup [v])).push (excO C hp.objs.size)).get? (hp.objs.size + 1) = some (excO C hp.objs.size) := by heap_get
  have hnx : K.lookup (hp.objs.size + 1) = none := by
    cases e : K.lookup (hp.objs.size + 1) with
    | none => rfl
    | some o =>
      have z : hp.get? (hp.objs.size + 1) = some o := X _ _ e
      exact absurd (Nat.lt_of_succ_lt (Heap.lt_size z)) (Nat.lt_irrefl _)
  refine call_own F.excBase_ValueError (fun X => refsVE_contains X bm hbm) (X _ _ hC) (looks_findIn X T.iC) (fun self => bind_fn X self T.tC) (one_size v) ?_
  refine low_init (s := ⟨(hp.push (kdv_tup [v])).push (excO C hp.objs.size), g, dr, tk, os⟩) T (X.keeps k) (hlim.keeps k) hget hnx ?_ fun h' tk' dx ⟨k', hx, dn, dne, hns⟩ => ?_
  · show A.depth + 1 < recursionLimit
    exact hroom
  · have old : ∀ b o, hp.get? b = some o → h'.get? b = some o := fun b o e => k' b o (Nat.ne_of_lt (Nat.lt_succ_of_lt (Heap.lt_size e))) (k b o e)
    have z : hp.objs.size + 1 + 1 ≤ dx := by
      first
        | (simpa only [Heap.size_push] using dn)
        | exact dn
        | (have q := dn; rw [Heap.size_push, Heap.size_push] at q; exact q)
    exact ⟨rfl, hq h' tk' (hp.objs.size + 1) dx ⟨old, Nat.le_succ _, ⟨_, _, hx, rfl, rfl, rfl, rfl⟩, Nat.le_trans (Nat.le_trans (Nat.le_succ _) (Nat.le_succ _)) z, dne, hns⟩⟩
end
end LowX
end PySem
namespace L2
open PySem PySem.Spec PyProof.Rows
theorem relO_low {v : V} {v' : Value} (r : RelV v v') (f : Str) : RelO (List.lookup f [(("at" : Str), v)]) (if f = "at" then some v' else none) := by
  by_cases hw : f = "at"
  · subst hw
    rw [if_pos rfl]
    have q : List.lookup ("at" : Str) [(("at" : Str), v)] = some v := by simp [List.lookup]
    rw [q]
    exact r
  · rw [if_neg hw]
    have qw : (f == ("at" : Str)) = false := by simpa using hw
    have q2 : List.lookup f [(("at" : Str), v)] = none := by simp [List.lookup, qw]
    rw [q2]
    trivial
section
variable {X : Cx} {xN : Str} {C fI : Addr}
/-- Low(e) -/
def tMkLow (C : Addr) (ta : TA) : St → Hp → XK → Prop := fun σ H Q => ta σ H fun vs H1 => ∃ v, vs = [v] ∧ ∀ d, H1 d = none → Q (.ref C) (some d) (upd H1 d (.xd [(("at" : Str), v)]))
theorem pmk_low {a : Expr} {ta : TA} {p pos : Pos} {k : Nat} (T : PySem.LowX.LowTxt X.K X.mg xN C fI) (hr : Room k X.A) (ha : PA X [a] ta) (hg : Gl X xN := by rfl) (hdb : (xN == ("__debug__" : Str)) = false := by decide)
    (he : starEach (a :: []) X.env = (false, eval a X.env) :: starEach [] X.env := by rfl) (hpl : (backTo pos (starEach [] X.env)).any (·.1) = false := by rfl) :
    PMk X (.Call (.Name xN p) [a] [] pos) (tMkLow C ta) := by
  intro pins s σ H Q I h
  refine wpAny_Call_Name_kw (ld_glob I hg T.gC ?_ hdb)
  refine PySem.W.callWith_K (h₀ := X.base) I.ok.mod.kin T.kC (thn (ha.run pos pins s σ H _ I h) fun us s1 hh => ?_) he hpl
  obtain ⟨vs, H1, I1, r1, v, ev, q1⟩ := hh
  subst ev
  refine ⟨I1.kIn, ?_⟩
  cases r1 with
  | cons rv rn =>
    rename_i v' us'
    cases rn
    show wpAny _ _ (call (.ref C) [v']) _ _ _
    have hlim := I1.nolimit
    obtain ⟨hp, g, dr, tk, os⟩ := s1
    refine wpAny_call (PySem.LowX.low_made T I1.kIn hlim (by have := hr.dp; omega) fun h' tk' e d M => ?_)
    show MkP X pins σ Q (.ref e) ⟨h', g, dr, tk', os⟩
    obtain ⟨oe, fv, hoe, hc, hd, hdat, h1⟩ := M.obj
    have hns := M.ns
    obtain ⟨G', g1, g2⟩ := restrict h' fun b => decide (b ≠ e)
    have gk : ∀ b, b ≠ e → G'.get? b = h'.get? b := fun b hb => g1 b (decide_eq_true hb)
    have ge : G'.get? e = none := g2 e (by simp)
    have old : ∀ b o, hp.get? b = some o → G'.get? b = some o := fun b o q => (gk b (Nat.ne_of_lt (Nat.lt_of_lt_of_le (Heap.lt_size q) M.new))).trans (M.keep b o q)
    have ob : ObjOk X.prog X.w (upd H1 d (.xd [(("at" : Str), v)])) G' d (.xd [(("at" : Str), v)]) :=
      ⟨_, hns.at (fun o q => (gk d M.dne).trans q), fun f => relO_low rv f⟩
    have J : Inv X pins σ (upd H1 d (.xd [(("at" : Str), v)])) ⟨G', g, dr, tk', os⟩ := I1.laid (t' := tk') old M.dbig ob
    refine ⟨e, oe, fv, ⟨G', g, dr, tk', os⟩, _, .ref C, some d, rfl, J, fun b o q => ?_, ge, hoe, ⟨hc, hd⟩, hdat, h1, ?_, rfl, I1.bare, raises_own T.exC T.tyC, q1 d (I1.hok.fresh M.dbig)⟩
    · by_cases hb : b = e
      · have q' : G'.get? b = some o := q
        rw [hb, ge] at q'; cases q'
      · exact (gk b hb).symm.trans q
    · rw [upd_ne (Ne.symm M.dne)]
      exact I1.hok.fresh M.new
/-- raise Low(e) -/
def tRaiseLow (C : Addr) (W : WX) (ta : TA) : TS := fun _ σ H => tMkLow C ta σ H fun cls d H' => W cls d σ H'
theorem ps_raiseLow {a : Expr} {ta : TA} {W : WX} {p pos pos2 : Pos} {k : Nat} (hc : X.calm = true) (T : PySem.LowX.LowTxt X.K X.mg xN C fI) (hr : Room k X.A) (tk : Takes X W) (ha : PA X [a] ta) (hg : Gl X xN := by rfl) (hdb : (xN == ("__debug__" : Str)) = false := by decide)
    (he : starEach (a :: []) X.env = (false, eval a X.env) :: starEach [] X.env := by rfl) (hpl : (backTo pos (starEach [] X.env)).any (·.1) = false := by rfl) :
    PS X (.Raise (some (.Call (.Name xN p) [a] [] pos)) none pos2) (tRaiseLow C W ta) := ps_raise hc tk (pmk_low T hr ha hg hdb he hpl)
/-- low.by, low the exception that the suite holds (at a; its class cls, its dict d) -/
def tByLow (C : Addr) (a : Addr) (cls : Value) (d : Option Addr) (te : TE) : TE := fun σ H Q => te σ H fun x H1 => x = .ref a ∧ cls = .ref C ∧ ∃ (dd : Addr) (v : V), d = some dd ∧ H1 dd = some (.xd [(("at" : Str), v)]) ∧ Q v H1
theorem pe_byLow {a : Addr} {oe : Obj} {cls : Value} {d : Option Addr} {pn : List (Addr × Obj)} {e : Expr} {te : TE} {pos : Pos} (T : PySem.LowX.LowTxt X.K X.mg xN C fI) (hz : Zc cls d oe) (hf : ∃ vs, oe.data = .fields vs) (he : PE (X.suite a ((a, oe) :: pn)) e te)
    (hb : attributeBase e "at" X.env (eval e X.env) = eval e X.env := by rfl) :
    PE (X.suite a ((a, oe) :: pn)) (.Attribute e "at" pos) (tByLow C a cls d te) := by
  refine ⟨fun pins s σ H Q I h => ?_⟩
  refine attr_of hb (thn (he.run pins s σ H _ I h) fun u s1 hh => ?_)
  obtain ⟨x, H1, I1, rx, ex, ec, dd, v, ed, ea, q⟩ := hh
  subst ex
  obtain rfl : u = Value.ref a := rx
  subst ec
  subst ed
  obtain ⟨ha, _⟩ := I1.pin (a, oe) (List.mem_append_left _ List.mem_cons_self)
  obtain ⟨vs, hd⟩ := hf
  have hx : ObjOk X.prog X.w H1 s1.heap dd (.xd [(("at" : Str), v)]) := I1.hok dd _ ea
  obtain ⟨mA, hns, hr⟩ := hx
  obtain ⟨od, ho, hl⟩ := lookIn_ns hns
  have l : List.lookup ("at" : Str) [(("at" : Str), v)] = some v := by simp [List.lookup]
  obtain ⟨u, hu, ru⟩ := RelO.some_of (v := v) (o := mA "at") (by rw [← l]; exact hr "at")
  have J : PySem.W.InstAt s1.heap a oe C (some od) := ⟨ha, hz.1, by unfold PySem.W.notCls; rw [hd] <;> rfl, by rw [hz.2]; exact ho⟩
  exact HandSPX.exc_get I1.kIn J T.ga T.gg T.exC (PySem.W.findObj_own T.hdC T.noN rfl (by rw [hl, hu])) (handed_of ru) ⟨v, H1, I1.tok _, ru, q⟩
end
end L2

namespace L2
open PySem PySem.Spec PyProof.Rows
/-- an if whose test is known -/
theorem if_true_of {c : Bool} {A B : Prop} (hc : c = true) (h : A) : if c = true then A else B := by
  rw [if_pos hc]
  exact h
theorem if_false_of {c : Bool} {A B : Prop} (hc : c = false) (h : B) : if c = true then A else B := by
  rw [hc, if_neg Bool.false_ne_true]
  exact h
end L2
namespace Ovc
open PySem PySem.Spec PyProof.Rows L2
/-! ### try with several clauses, each with a name or without one -/
/-- the ends of a suite whose name's slot is emptied behind it -/
def endsAs (i : Nat) (D : Ends) : Ends := { nx := fun σ H => D.nx (σ.set i none) H, rt := D.rt, bk := fun σ H => D.bk (σ.set i none) H, ct := fun σ H => D.ct (σ.set i none) H }
abbrev Clause := Value × Option Nat × (Addr → Value → Option Addr → TS)
def runClause (q : Clause) (a : Addr) (cls : Value) (d : Option Addr) (D : Ends) (σ : L2.St) (H : Hp) : Prop :=
  match q.2.1 with
  | none => q.2.2 a cls d D σ H
  | some i => q.2.2 a cls d (endsAs i D) (σ.set i (some (.ref a))) H
def wClauses (K : PySem.W.Frag) (Wout : WX) (D : Ends) : List Clause → WX
  | [] => Wout
  | q :: r => fun cls d σ H => ∃ b, PySem.W.exmOne K cls q.1 = some b ∧ (b = true → ∀ a, H a = none → runClause q a cls d D σ H) ∧ (b = false → wClauses K Wout D r cls d σ H)
inductive ClOk (X : Cx) : List ExceptHandler → List Clause → Prop
  | nil : ClOk X [] []
  | bare {x : Str} {c : Value} {ts : Addr → Value → Option Addr → TS} {st₀ : Stmt} {sts : List Stmt} {p1 p2 : Pos} {hds : List ExceptHandler} {l : List Clause} (hc : Names X x c)
      (suite : ∀ (a : Addr) (ob : Obj) (cls : Value) (d : Option Addr) (pn : List (Addr × Obj)), Zc cls d ob → (∃ fv, ob.data = .fields fv) → PSs (X.suite a ((a, ob) :: pn)) (st₀ :: sts) (ts a cls d)) (more : ClOk X hds l) :
      ClOk X (.ExceptHandler (some (.Name x p1)) none (st₀ :: sts) p2 :: hds) ((c, none, ts) :: l)
  | named {x n : Str} {c : Value} {i : Nat} {ts : Addr → Value → Option Addr → TS} {st₀ : Stmt} {sts : List Stmt} {p1 p2 : Pos} {hds : List ExceptHandler} {l : List Clause} (hN : X.N.Nodup) (hi : X.N[i]? = some n) (hln : X.env.kindOf n = some .local) (hc : Names X x c)
      (suite : ∀ (a : Addr) (ob : Obj) (cls : Value) (d : Option Addr) (pn : List (Addr × Obj)), Zc cls d ob → (∃ fv, ob.data = .fields fv) → PSs (X.suite a ((a, ob) :: pn)) (st₀ :: sts) (ts a cls d)) (more : ClOk X hds l) :
      ClOk X (.ExceptHandler (some (.Name x p1)) (some n) (st₀ :: sts) p2 :: hds) ((c, some i, ts) :: l)
section
variable {X : Cx} {body : List Stmt} {hd₀ : ExceptHandler} {hds : List ExceptHandler} {l : List Clause} {pos : Pos} {tb : WX → TS} {Wout : WX}
theorem ps_try_cl (hsk : X.stack = X.env :: X.outer) (hfm : X.env.frame = some X.env.locals) (tk : Takes X Wout)
    (hb : ∀ (W : WX) (pn : List (Addr × Obj)) (xe : Value → Shared → Prop), Takes (X.tr pn xe) W → PassesOwn (model X.prog X.w) X.A X.env xe → PSs (X.tr pn xe) body (tb W))
    (hcl : ClOk X (hd₀ :: hds) l) : PS X (.Try body (hd₀ :: hds) [] [] pos) (fun D σ H => tb (wClauses X.K Wout D l) D σ H) := by
  refine ⟨fun pins s σ H D I0 hr => ?_⟩
  have okX := I0.ok
  have frA : X.A.frames = some (X.env :: X.outer) := by rw [okX.frames, hsk]
  refine wpAny_Try_except (wpAny_mono ((hb (wClauses X.K Wout D l) (X.pn ++ pins) (fun e t₁ => wpAny (model X.prog X.w) X.A (noteFrame e X.env) (fun _ t₂ => wpAny (model X.prog X.w) X.A (setFlight e none) (fun _ t₃ =>
    wpAny (model X.prog X.w) X.A (handleBy e X.env (hd₀ :: hds)) (SP X pins D) X.xe t₃) X.xe t₂) X.xe t₁) (fun u t xx => ?caught) PassesOwn.looking).run [] s σ H D (I0.toTry _) hr) (fun fl t hsp => ?after) (fun e t he => he))
  case after =>
    cases fl with
    | next => exact let ⟨σ1, H1, I1, z⟩ := hsp; wpAny_execs_nil ⟨σ1, H1, I1.ofTry okX, z⟩
    | brk => exact let ⟨σ1, H1, I1, z⟩ := hsp; ⟨σ1, H1, I1.ofTry okX, z⟩
    | cont => exact let ⟨σ1, H1, I1, z⟩ := hsp; ⟨σ1, H1, I1.ofTry okX, z⟩
    | ret u => exact let ⟨v, σ1, H1, I1, r, z⟩ := hsp; ⟨v, σ1, H1, I1.ofTry okX, r, z⟩
  case caught =>
    obtain ⟨a, B, sI, pins1, σ1, H1, cls, d, rfl, I1', nb, up, sky, na, os, ag, wish⟩ := xx
    have I1 : Inv X pins σ1 H1 sI := I1'.ofTry okX
    have skyF : Sky B (X.env :: X.outer) a (Zc cls d) X.env.locals t.heap := by rw [← hsk]; exact sky
    refine Sky.land Zc.steady frA hfm skyF fun h3 fl3 up3 => ?_
    have I3 : Inv X pins σ1 H1 { t with heap := h3 } := I1.landed nb fl3.1 (up.trans up3) os ag
    obtain ⟨ob3, fv3, at3, z3, dat3⟩ := fl3.there
    have off : a ∉ frs (X.env :: X.outer) := fun hm => by
      obtain ⟨_, o', e', hnf⟩ := fl3.2.2.1.mem hm
      rw [at3] at e'
      cases e'
      exact hnf _ dat3
    have offL : a ≠ X.env.locals := fun z => off (List.mem_filterMap.mpr ⟨X.env, List.mem_cons_self, by rw [hfm, z]⟩)
    have offF : a ∉ X.fs := fun hm => let ⟨en, hen, z⟩ := List.mem_filterMap.mp hm; off (List.mem_filterMap.mpr ⟨en, List.mem_cons_of_mem _ hen, z⟩)
    have SU3 := I3.suite at3 dat3 na offL offF
    have test : ∀ {x : Str} {c : Value} {p1 : Pos} {Q : Value → Shared → Prop} {E : Value → Shared → Prop}, Names X x c → Q c { t with heap := h3 } →
        wpAny (model X.prog X.w) (X.A.mark (some (.ref a))) (eval (.Name x p1) X.env) Q E { t with heap := h3 } := fun {x c p1 Q E} hc z => by
      obtain ⟨hg, hdb, hm | ⟨hm, hv, hne⟩⟩ := hc
      · exact ld_glob (X := X.suite a ((a, ob3) :: (X.pn ++ pins))) SU3 hg hm z hdb
      · exact ld_blt (X := X.suite a ((a, ob3) :: (X.pn ++ pins))) SU3 hg hm hv z hne hdb
    have looks : PySem.W.Looks (model X.prog X.w) h3 (typeOf (.ref a)) cls := fun A Q E s1 keep z => wpAny_typeOf_ref (keep _ _ at3) (by rw [z3.1]; exact z)
    suffices go : ∀ {hs1 : List ExceptHandler} {l1 : List Clause}, ClOk X hs1 l1 → wClauses X.K Wout D l1 cls d σ1 H1 → wpAny (model X.prog X.w) X.A (handleBy (.ref a) X.env hs1) (SP X pins D) X.xe { t with heap := h3 } from go hcl wish
    intro hs1 l1 hk
    induction hk with
    | nil =>
      intro wo
      refine wpAny_handleBy_nil ?_
      obtain ⟨k1, k2, k3, ob, fv, T, oT, tv, heT, hzT, hdT, hT1, hTr⟩ := id fl3
      unfold PySem.passOn
      refine wpAny_bind (wpAny_field heT hdT hT1 ?_)
      rw [if_neg (show ¬ (Value.ref T == Value.none) = true from by simp)]
      have fin : wpAny (model X.prog X.w) X.A (setFlight (.ref a) X.env.frame) (fun _ t4 => wpAny (model X.prog X.w) X.A (throw (.ref a) : Sem Flow) (SP X pins D) X.xe t4) X.xe { t with heap := h3 } := by
        rw [hfm]
        exact HandSPX.setFlight_upZ fl3 fun h4 held4 up4 => wpAny_throw (tk _ _ ⟨a, B, sI, pins, σ1, H1, cls, d, rfl, I1, nb, (up.trans up3).trans up4, .inr (.inr (by rw [hsk]; exact held4)), na, os, ag, wo⟩)
      first | exact wpAny_bind (wpAny_pure (wpAny_bind fin)) | exact wpAny_bind fin
    | @bare x c ts st₀ sts p1 p2 hs2 l2 hc suite more ih =>
      rintro ⟨b, hb1, yes, no⟩
      refine wpAny_handleBy_cons (codeAny_handlers_test (test hc ((PySem.W.exm_one (M := model X.prog X.w) I3.kIn looks hb1).here ?_))) (by intro q; cases q)
      cases b with
      | false => exact ih (no rfl)
      | true =>
        refine codeAny_handlers_suite (HandSPX.lands_againZ fl3 fun h4 fl4 up4 => ?_)
        have I4 : Inv X pins σ1 H1 { t with heap := h4 } := I1.landed nb fl4.1 ((up.trans up3).trans up4) os ag
        obtain ⟨ob4, fv4, at4, z4, dat4⟩ := fl4.there
        refine wpAny_mono ((suite a ob4 cls d (X.pn ++ pins) z4 ⟨_, dat4⟩).run [] _ _ H1 _ (I4.suite at4 dat4 na offL offF) (yes rfl a na)) (fun f t6 hsp => ?_) (fun _ _ z => False.elim z)
        cases f with
        | next => exact let ⟨σ6, H6, S6, z6⟩ := hsp; ⟨_, _, S6.unsuite okX, z6⟩
        | brk => exact let ⟨σ6, H6, S6, z6⟩ := hsp; ⟨_, _, S6.unsuite okX, z6⟩
        | cont => exact let ⟨σ6, H6, S6, z6⟩ := hsp; ⟨_, _, S6.unsuite okX, z6⟩
        | ret u => exact let ⟨v6, σ6, H6, S6, r6, z6⟩ := hsp; ⟨_, _, _, S6.unsuite okX, r6, z6⟩
    | @named x n c i ts st₀ sts p1 p2 hs2 l2 hN hi hln hc suite more ih =>
      rintro ⟨b, hb1, yes, no⟩
      refine wpAny_handleBy_cons (codeAny_handlers_test (test hc ((PySem.W.exm_one (M := model X.prog X.w) I3.kIn looks hb1).here ?_))) (by intro q; cases q)
      cases b with
      | false => exact ih (no rfl)
      | true =>
        refine codeAny_handlers_suite_as (HandSPX.lands_againZ fl3 fun h4 fl4 up4 => ?_)
        have I4 : Inv X pins σ1 H1 { t with heap := h4 } := I1.landed nb fl4.1 ((up.trans up3).trans up4) os ag
        obtain ⟨ob4, fv4, at4, z4, dat4⟩ := fl4.there
        refine store_ok (X := X.suite a ((a, ob4) :: (X.pn ++ pins))) (v := .ref a) (I4.suite at4 dat4 na offL offF) hN hi (.inl hln) rfl (fun t5 S5 => ?_) (.inr hln)
        refine wpAny_mono ((suite a ob4 cls d (X.pn ++ pins) z4 ⟨_, dat4⟩).run [] t5 _ H1 _ S5 (yes rfl a na)) (fun f t6 hsp => ?_) (fun _ _ z => False.elim z)
        have off6 : ∀ {σ6 : L2.St} {H6 : Hp} {Q : Shared → Prop}, Inv (X.suite a ((a, ob4) :: (X.pn ++ pins))) [] σ6 H6 t6 → (∀ t7, Inv X pins (σ6.set i none) H6 t7 → Q t7) →
            wpAny (model X.prog X.w) X.A (do bindName X.env n .none; unbindBehindTheSuite X.env n p2) (fun _ t7 => Q t7) X.xe t6 := fun {σ6 H6 Q} S6 hq => gone_ok (S6.unsuite okX) hN hi hln hq
        cases f with
        | next => exact let ⟨σ6, H6, S6, z6⟩ := hsp; off6 S6 fun t7 I7 => ⟨_, _, I7, z6⟩
        | brk => exact let ⟨σ6, H6, S6, z6⟩ := hsp; off6 S6 fun t7 I7 => ⟨_, _, I7, z6⟩
        | cont => exact let ⟨σ6, H6, S6, z6⟩ := hsp; off6 S6 fun t7 I7 => ⟨_, _, I7, z6⟩
        | ret u => exact let ⟨v6, σ6, H6, S6, r6, z6⟩ := hsp; off6 S6 fun t7 I7 => ⟨_, _, _, I7, r6, z6⟩
end
/-! ### a < b < c < d as a test -/
def tTest3 (r1 r2 r3 : R2) (ta tb tc td : TE) : TT := fun σ H Q => ta σ H fun x H1 => tb σ H1 fun y H2 => r1 x y H2 fun z H3 => ∃ k, z = .bl k ∧
  (if k = true then tc σ H3 fun u H4 => r2 y u H4 fun z2 H5 => ∃ k2, z2 = .bl k2 ∧ (if k2 = true then td σ H5 fun v H6 => r3 u v H6 fun z3 H7 => ∃ k3, z3 = .bl k3 ∧ Q k3 H7 else Q false H5) else Q false H3)
theorem pt_chain3 {X : Cx} {a b c d : Expr} {ta tb tc td : TE} {o1 o2 o3 : CmpOp} {r1 r2 r3 : R2} {pos : Pos} (h1 : OpR X (compareOp o1) r1) (h2 : OpR X (compareOp o2) r2) (h3 : OpR X (compareOp o3) r3) (ha : PE X a ta) (hb : PE X b tb) (hc : PE X c tc) (hd : PE X d td)
    (hm : lastMarks [o1, o2, o3] [b, c, d] = false := by with_unfolding_all rfl) : PT X (.Compare a [o1, o2, o3] [b, c, d] pos) (tTest3 r1 r2 r3 ta tb tc td) := by
  refine ⟨fun pins s σ H Q I0 hr => isTrue_chain (thn (ha.run pins s σ H _ I0 hr) fun v1 s1 ⟨x, H1, I1, e1, q1⟩ => test_link (thn (hb.run pins s1 σ H1 _ I1 q1) fun v2 s2 ⟨y, H2, I2, e2, q2⟩ =>
    thn (h1 pins s2 σ H2 x y v1 v2 _ I2 e1 e2 q2) fun v3 s3 ⟨z, H3, I3, e3, k, ez, q3⟩ => ?_)) hm⟩
  subst ez
  cases e3
  refine wpAny_truthy_bool ?_
  cases k with
  | false => exact ite_ff ⟨H3, I3, q3⟩
  | true =>
    refine ite_tt (test_link (thn (hc.run pins s3 σ H3 _ I3 q3) fun v4 s4 ⟨u, H4, I4, e4, q4⟩ => thn (h2 pins s4 σ H4 y u v2 v4 _ I4 e2 e4 q4) fun v5 s5 ⟨z2, H5, I5, e5, k2, ez2, q5⟩ => ?_))
    subst ez2
    cases e5
    refine wpAny_truthy_bool ?_
    cases k2 with
    | false => exact ite_ff ⟨H5, I5, q5⟩
    | true =>
      refine ite_tt (test_last (thn (hd.run pins s5 σ H5 _ I5 q5) fun v6 s6 ⟨v, H6, I6, e6, q6⟩ => thn (h3 pins s6 σ H6 u v v4 v6 _ I6 e4 e6 q6) fun v7 s7 ⟨z3, H7, I7, e7, k3, ez3, q7⟩ => ?_))
      subst ez3
      cases e7
      exact wpAny_truthy_bool ⟨H7, I7, q7⟩
theorem an_chain3 {σ : L2.St} {H : Hp} {g1 g2 g3 : Int → Int → Bool} {ta tb tc td : TE} {p q r s : Int} (ha : Vl ta σ H (.int p)) (hb : Vl tb σ H (.int q)) (hc : Vl tc σ H (.int r)) (hd : Vl td σ H (.int s)) :
    An (tTest3 (rI0 fun i j => .bl (g1 i j)) (rI0 fun i j => .bl (g2 i j)) (rI0 fun i j => .bl (g3 i j)) ta tb tc td) σ H (g1 p q && (g2 q r && g3 r s)) := fun Q k =>
  ha _ (hb _ ⟨p, q, rfl, rfl, _, rfl, by
    show if g1 p q = true then _ else _
    revert k
    cases g1 p q with
    | false => exact fun k => iteF k
    | true => exact fun k => iteT (hc _ ⟨q, r, rfl, rfl, _, rfl, by
        show if g2 q r = true then _ else _
        revert k
        cases g2 q r with
        | false => exact fun k => iteF k
        | true => exact fun k => iteT (hd _ ⟨r, s, rfl, rfl, _, rfl, k⟩)⟩)⟩)
/-! ### tests that make objects on their way -/
def Ax (t : TT) (σ : L2.St) (H : Hp) (b : Bool) : Prop := ∀ Q : Bool → Hp → Prop, (∀ H', Same H H' → Q b H') → t σ H Q
section
variable {K : PySem.W.Frag} {σ : L2.St} {H : Hp} {t u : TT} {D : Ends} {tz tu tw : TS} {ta tb tc : TE}
theorem ax_of {b : Bool} (h : An t σ H b) : Ax t σ H b := fun Q q => h Q (q H (Same.refl H))
theorem ax_not {b : Bool} (h : Ax t σ H b) : Ax (tNot t) σ H (!b) := fun Q q => h _ fun H' s => q H' s
theorem ax_and {k m : Bool} (h1 : Ax t σ H k) (h2 : k = true → ∀ H', Same H H' → Ax u σ H' m) : Ax (tAnd t u) σ H (k && m) := fun Q q => h1 _ fun H1 s1 => by
  cases k with
  | true => exact iteT (h2 rfl H1 s1 _ fun H2 s2 => q H2 (s1.trans s2))
  | false => exact iteF (q H1 s1)
theorem ax_or {k m : Bool} (h1 : Ax t σ H k) (h2 : k = false → ∀ H', Same H H' → Ax u σ H' m) : Ax (tOr t u) σ H (k || m) := fun Q q => h1 _ fun H1 s1 => by
  cases k with
  | true => exact iteT (q H1 s1)
  | false => exact iteF (h2 rfl H1 s1 _ fun H2 s2 => q H2 (s1.trans s2))
theorem Ax.is {k m : Bool} (h : Ax t σ H k) (e : k = m) : Ax t σ H m := e ▸ h
theorem g_ifx {b : Bool} (h : Ax t σ H b) (h1 : b = true → ∀ H', Same H H' → tz D σ H') (h2 : b = false → ∀ H', Same H H' → tu D σ H') : tIfS t tz tu D σ H := h _ fun H' s => by
  cases b with
  | true => exact iteT (h1 rfl H' s)
  | false => exact iteF (h2 rfl H' s)
theorem q_ifx {b : Bool} (h : Ax t σ H b) (h1 : b = true → ∀ H', Same H H' → tz { D with nx := tw D } σ H') (h2 : b = false → ∀ H', Same H H' → tu { D with nx := tw D } σ H') : tSeq (tIfS t tz tu) tw D σ H := g_ifx (D := { D with nx := tw D }) h h1 h2
theorem q_whenx {b : Bool} (h : Ax t σ H b) (h1 : b = true → ∀ H', Same H H' → tz { D with nx := tw D } σ H') (h2 : b = false → ∀ H', Same H H' → tw D σ H') : tSeq (tIfS t tz tNext) tw D σ H := g_ifx (D := { D with nx := tw D }) h h1 h2
theorem g_whenx {b : Bool} (h : Ax t σ H b) (h1 : b = true → ∀ H', Same H H' → tz D σ H') (h2 : b = false → ∀ H', Same H H' → D.nx σ H') : tIfS t tz tNext D σ H := g_ifx h h1 h2
theorem lexAt2 {a b c d : Int} : Ob.lexAt (fun j => decide ([a, b].getD j 0 = [c, d].getD j 0)) (fun j => decide ([a, b].getD j 0 ≤ [c, d].getD j 0)) (decide ([a, b].length ≤ [c, d].length)) 0 (min [a, b].length [c, d].length) = decide (a < c ∨ (a = c ∧ b ≤ d)) := by
  show (if decide (a = c) = true then (if decide (b = d) = true then decide (2 ≤ 2) else decide (b ≤ d)) else decide (a ≤ c)) = _
  by_cases h1 : a = c
  · rw [if_pos (decide_eq_true h1)]
    by_cases h2 : b = d
    · rw [if_pos (decide_eq_true h2), decide_eq_true (Nat.le_refl 2), decide_eq_true (.inr ⟨h1, by omega⟩)]
    · rw [if_neg (fun h => h2 (of_decide_eq_true h)), Bool.eq_iff_iff]
      simp only [decide_eq_true_eq]
      omega
  · rw [if_neg (fun h => h1 (of_decide_eq_true h)), Bool.eq_iff_iff]
    simp only [decide_eq_true_eq]
    omega
/-- (a, b) <= t, t a tuple of two ints -/
theorem ax_leT {a b c d : Int} {T : Addr} (ha : Vl ta σ H (.int a)) (hb : Vl tb σ H (.int b)) (hc : ∀ H', Same H H' → Vl tc σ H' (.ref T)) (hT : SqT K H T [.int c, .int d]) : Ax (tTest (tOp (rLeT K) (tTup (tCons ta (tCons tb tNil))) tc)) σ H (decide (a < c ∨ (a = c ∧ b ≤ d))) := fun Q q =>
  ha _ (hb _ ⟨by show 2 ≤ sizeLine; decide, fun S nS => hc _ (same_upd nS) _ ⟨S, T, [a, b], [c, d], rfl, rfl, .of upd_same, seqT (same_upd nS) hT, _, rfl, by
    rw [lexAt2]
    exact q _ (same_upd nS)⟩⟩)
/-- (a, b) == (c, d), the tuples made on the way -/
theorem ax_eqTT {td : TE} {p q r s : Int} (ha : ∀ H', Same H H' → Vl ta σ H' (.int p)) (hb : ∀ H', Same H H' → Vl tb σ H' (.int q)) (hc : ∀ H', Same H H' → Vl tc σ H' (.int r)) (hd : ∀ H', Same H H' → Vl td σ H' (.int s)) :
    Ax (tTest (tOp (rEqD K) (tTup (tCons ta (tCons tb tNil))) (tTup (tCons tc (tCons td tNil))))) σ H (decide (p = r ∧ q = s)) := fun Q k =>
  ha H (Same.refl H) _ (hb H (Same.refl H) _ ⟨by show 2 ≤ sizeLine; decide, fun T nT => by
    have s1 : Same H (upd H T (.tup [.int p, .int q])) := same_upd nT
    refine hc _ s1 _ (hd _ s1 _ ⟨by show 2 ≤ sizeLine; decide, fun S nS => ?_⟩)
    have s2 : Same (upd H T (.tup [.int p, .int q])) (upd (upd H T (.tup [.int p, .int q])) S (.tup [.int r, .int s])) := same_upd nS
    refine ⟨.tuple [.int p, .int q], .tuple [.int r, .int s], .tup (.of (s2 _ _ upd_same)) (.cons (.int _) (.cons (.int _) .nil)), .tup (.of upd_same) (.cons (.int _) (.cons (.int _) .nil)), by rfl, by rfl, _, rfl, ?_⟩
    rw [show PyData.eqv (.tuple [.int p, .int q]) (.tuple [.int r, .int s]) = decide (p = r ∧ q = s) by
      show (p == r && (q == s && true)) = _
      rw [Bool.and_true, Bool.eq_iff_iff]
      simp]
    exact k _ (s1.trans s2)⟩)
/-- t == (c, d), t a tuple of two ints -/
theorem ax_eqRT {p q r s : Int} {T : Addr} (ha : Vl ta σ H (.ref T)) (hT : SqT K H T [.int p, .int q]) (hb : Vl tb σ H (.int r)) (hc : Vl tc σ H (.int s)) :
    Ax (tTest (tOp (rEqD K) ta (tTup (tCons tb (tCons tc tNil))))) σ H (decide (p = r ∧ q = s)) := fun Q k =>
  ha _ (hb _ (hc _ ⟨by show 2 ≤ sizeLine; decide, fun S nS => by
    have s2 : Same H (upd H S (.tup [.int r, .int s])) := same_upd nS
    refine ⟨.tuple [.int p, .int q], .tuple [.int r, .int s], .tup (seqT s2 hT) (.cons (.int _) (.cons (.int _) .nil)), .tup (.of upd_same) (.cons (.int _) (.cons (.int _) .nil)), by rfl, by rfl, _, rfl, ?_⟩
    rw [show PyData.eqv (.tuple [.int p, .int q]) (.tuple [.int r, .int s]) = decide (p = r ∧ q = s) by
      show (p == r && (q == s && true)) = _
      rw [Bool.and_true, Bool.eq_iff_iff]
      simp]
    exact k _ s2⟩))
/-- (a, b) == t, t a tuple of two ints -/
theorem ax_eqTR {p q r s : Int} {T : Addr} (ha : Vl ta σ H (.int p)) (hb : Vl tb σ H (.int q)) (hc : ∀ H', Same H H' → Vl tc σ H' (.ref T)) (hT : SqT K H T [.int r, .int s]) :
    Ax (tTest (tOp (rEqD K) (tTup (tCons ta (tCons tb tNil))) tc)) σ H (decide (p = r ∧ q = s)) := fun Q k =>
  ha _ (hb _ ⟨by show 2 ≤ sizeLine; decide, fun S nS => by
    have s2 : Same H (upd H S (.tup [.int p, .int q])) := same_upd nS
    refine hc _ s2 _ ⟨.tuple [.int p, .int q], .tuple [.int r, .int s], .tup (.of upd_same) (.cons (.int _) (.cons (.int _) .nil)), .tup (seqT s2 hT) (.cons (.int _) (.cons (.int _) .nil)), by rfl, by rfl, _, rfl, ?_⟩
    rw [show PyData.eqv (.tuple [.int p, .int q]) (.tuple [.int r, .int s]) = decide (p = r ∧ q = s) by
      show (p == r && (q == s && true)) = _
      rw [Bool.and_true, Bool.eq_iff_iff]
      simp]
    exact k _ s2⟩)
/-- assignments of a new tuple -/
theorem q_asgTup {i : Nat} {tr : TA} {xs : List V} (h : Va tr σ H xs) (hz : xs.length ≤ sizeLine) (k : ∀ T, H T = none → tw D (σ.set i (some (.ref T))) (upd H T (.tup xs))) : tSeq (tAsg (tTup tr) (gName i)) tw D σ H := h _ ⟨hz, k⟩
theorem g_asgTup {i : Nat} {tr : TA} {xs : List V} (h : Va tr σ H xs) (hz : xs.length ≤ sizeLine) (k : ∀ T, H T = none → D.nx (σ.set i (some (.ref T))) (upd H T (.tup xs))) : tAsg (tTup tr) (gName i) D σ H := h _ ⟨hz, k⟩
end
/-! ### defs that may raise, by their names -/
structure KalX (P : Program) (w : World) (K : PySem.W.Frag) (mg : Str → Option Value) (base : Heap) (k : Nat) (x : Str) (ps : List Str) (sp : Sp) : Prop where
  ex : ∃ (f : Addr) (fd : FuncData), FnOk P w K mg base (L2.CX P w) k f fd ps sp ∧ mg x = some (.ref f) ∧ PySem.W.keepIn K (.ref f) = true ∧ Binds K fd ps []
theorem kalx_of {P : Program} {w : World} {K : PySem.W.Frag} {mg : Str → Option Value} {base : Heap} {k : Nat} {x : Str} {st : Stmt} {ps : List Str} {sp : Sp} (A : Df K mg x st ps)
    (ok : ∀ f fd, Fun K x x st f fd → FnOk P w K mg base (L2.CX P w) k f fd ps sp) : KalX P w K mg base k x ps sp := by
  obtain ⟨f, fd, F, g, b⟩ := A.ex
  exact ⟨f, fd, ok f fd F, g, F.kp, b⟩
/-- called in a def that may raise -/
theorem pe_kx {X : Cx} {k j : Nat} {x : Str} {ps : List Str} {sp : Sp} {p pos : Pos} {e : Expr} {es : List Expr} {t : TA} {E : XK} (c : KalX X.prog X.w X.K X.mg X.base k x ps sp) (hr : Room j X.A) (hk : k ≤ j) (hg : Gl X x) (tk : Takes X (fun cls d _ H => E cls d H)) (ha : PA X (e :: es) t)
    (hdb : (x == ("__debug__" : Str)) = false := by decide) (he : starEach (e :: es) X.env = (false, eval e X.env) :: starEach es X.env := by rfl) (hpl : (backTo pos (starEach es X.env)).any (·.1) = false := by rfl) :
    PE X (.Call (.Name x p) (e :: es) [] pos) (tCall sp [] E t) := by
  obtain ⟨f, fd, F, hm, kp, b⟩ := c.ex
  exact pe_call F (hr.mono hk) hg hm kp b .nil (passes_call tk fun _ _ _ _ h => h) ha hdb he hpl
/-- called within a try -/
theorem pe_ks {X : Cx} {k j : Nat} {x : Str} {ps : List Str} {sp : Sp} {p pos : Pos} {e : Expr} {es : List Expr} {t : TA} {W : WX} (c : KalX X.prog X.w X.K X.mg X.base k x ps sp) (hr : Room j X.A) (hk : k ≤ j) (hg : Gl X x) (tk : Takes X W) (ha : PA X (e :: es) t)
    (hdb : (x == ("__debug__" : Str)) = false := by decide) (he : starEach (e :: es) X.env = (false, eval e X.env) :: starEach es X.env := by rfl) (hpl : (backTo pos (starEach es X.env)).any (·.1) = false := by rfl) :
    PE X (.Call (.Name x p) (e :: es) [] pos) (tCallS sp (WE W) t) := by
  obtain ⟨f, fd, F, hm, kp, b⟩ := c.ex
  exact pe_callS F (hr.mono hk) hg hm kp b (fun σ => passAt tk σ) ha hdb he hpl
/-! ### for link in links -/
section
variable {K : PySem.W.Frag} {σ : L2.St} {H : Hp} {a : Addr} {D : Ends} {tz tw : TS}
theorem g_forLk {j : Nat} {Hb : Hp} {xs : List V} {ls : List Lnk} {tl : TE} (h : Vl tl σ H (.ref a)) (hx : SqL K Hb a xs) (hL : DpAll K Hb xs (ls.map lnkD)) (hb : Same Hb H) (Pv : Nat → L2.St → Hp → Prop) (h0 : Pv 0 σ H) (hl : ∀ i σ' H', Pv i σ' H' → Same Hb H')
    (hs : ∀ (i : Nat) l t σ H, ls[i]? = some l → SqT K Hb t (lnkV l) → Pv i σ H → tz { D with nx := Pv (i + 1), ct := Pv (i + 1), bk := D.nx } (σ.set j (some (.ref t))) H) (hd : ∀ σ H, Pv ls.length σ H → D.nx σ H) :
    tFor (iList K tl) (gName j) tz D σ H := h _ ⟨a, rfl, ⟨_, hb.seq hx⟩, for_list (xs := xs) Pv h0 (fun i σ H _ p => (hl i σ H p).seq hx) (fun i x σ H hi p => by
      have e := DpAll.len hL
      rw [List.length_map] at e
      have hlt := (List.getElem?_eq_some_iff.mp hi).1
      have hg : ls[i]? = some ls[i] := List.getElem?_eq_getElem (by omega)
      obtain ⟨v, hv, dv⟩ := DpAll.get (i := i) (d := lnkD ls[i]) hL (by
        rw [List.getElem?_map, hg]
        rfl)
      cases hi.symm.trans hv
      obtain ⟨t, rfl, ht⟩ := Dp.lnk_inv dv
      exact hs i _ t σ H hg ht p) (fun σ H p => by
      have e := DpAll.len hL
      rw [List.length_map] at e
      rw [e] at p
      exact hd σ H p)⟩
theorem q_forLk {j : Nat} {Hb : Hp} {xs : List V} {ls : List Lnk} {tl : TE} (h : Vl tl σ H (.ref a)) (hx : SqL K Hb a xs) (hL : DpAll K Hb xs (ls.map lnkD)) (hb : Same Hb H) (Pv : Nat → L2.St → Hp → Prop) (h0 : Pv 0 σ H) (hl : ∀ i σ' H', Pv i σ' H' → Same Hb H')
    (hs : ∀ (i : Nat) l t σ H, ls[i]? = some l → SqT K Hb t (lnkV l) → Pv i σ H → tz { D with nx := Pv (i + 1), ct := Pv (i + 1), bk := tw D } (σ.set j (some (.ref t))) H) (hd : ∀ σ H, Pv ls.length σ H → tw D σ H) :
    tSeq (tFor (iList K tl) (gName j) tz) tw D σ H := g_forLk (D := { D with nx := tw D }) h hx hL hb Pv h0 hl hs hd
/-- a, b, c, d = e, a link -/
theorem q_asgLnk {j1 j2 j3 j4 : Nat} {te : TE} {t : Addr} {l : Lnk} (h : Vl te σ H (.ref t)) (ht : SqT K H t (lnkV l)) (k : tw D ((((σ.set j1 (some (.int l.a))).set j2 (some (.int l.b))).set j3 (some (oV l.t))).set j4 (some (oV l.k))) H) :
    tSeq (tAsg te (gTup K 4 (gCons (gName j1) (gCons (gName j2) (gCons (gName j3) (gCons (gName j4) gNil)))))) tw D σ H := h _ ⟨t, _, rfl, ht, rfl, _, _, rfl, _, _, rfl, _, _, rfl, _, _, rfl, rfl, k⟩
/-- a tuple made in one of two ways -/
theorem if_tup {t : TT} {r1 r2 : TA} {b : Bool} {x1 x2 zs : List V} {Q : VK} (h : An t σ H b) (h1 : Va r1 σ H x1) (h2 : Va r2 σ H x2) (e1 : b = true → x1 = zs) (e2 : b = false → x2 = zs) (hz : zs.length ≤ sizeLine)
    (k : ∀ T, H T = none → Q (.ref T) (upd H T (.tup zs))) : tIf t (tTup r1) (tTup r2) σ H Q := h _ (by
  cases b with
  | true =>
    cases e1 rfl
    exact iteT (h1 _ ⟨hz, k⟩)
  | false =>
    cases e2 rfl
    exact iteF (h2 _ ⟨hz, k⟩))
end
/-! ### is_price -/
abbrev sIsPrice : Stmt := topS 8
theorem scIsPrice : FnScope ["value"] ["value"] (defScope sIsPrice) := ⟨rfl, rfl, rfl, by decide +kernel, rfl, by decide +kernel, by decide +kernel⟩
def priceB : Option Int → Bool
  | none => true
  | some x => decide (1 ≤ x) && decide (x ≤ 1000000)
theorem priceB_ok {o : Option Int} (h : PriceOk o) : priceB o = true := by
  cases o with
  | none => rfl
  | some x =>
    have := h x rfl
    show (decide (1 ≤ x) && decide (x ≤ 1000000)) = true
    rw [decide_eq_true this.1, decide_eq_true this.2]
    rfl
theorem take_snoc {α : Type} {xs : List α} {i : Nat} {x : α} (h : xs[i]? = some x) : xs.take (i + 1) = xs.take i ++ [x] := by
  rw [List.take_add_one, h]
  rfl
theorem vl_orV {K : PySem.W.Frag} {σ : L2.St} {H : Hp} {ta tb : TE} {k m : Bool} (h1 : Vl ta σ H (.bl k)) (h2 : k = false → Vl tb σ H (.bl m)) : Vl (tOrV ta tb) σ H (.bl (k || m)) := fun Q q => h1 _ ⟨k, rfl, by
  cases k with
  | true => exact iteT q
  | false => exact iteF (h2 rfl _ q)⟩
def spIsPrice : Sp := fun vs H Q _ => ∃ o : Option Int, vs = [oV o] ∧ Q (.bl (priceB o)) H
section
variable {P : Program} {w : World} {K : PySem.W.Frag} {mg : Str → Option Value} {base : Heap}
theorem ok_isPrice {f : Addr} {fd : FuncData} {k : Nat} (F : Fun K "is_price" "is_price" sIsPrice f fd) {t : Tok} (mH : mg "HIGHEST_PRICE" = some (.int 1000000 t)) : FnOk P w K mg base CX0 (k + 1) f fd ["value"] spIsPrice := by
  refine F.ok scIsPrice (fun vs H Q E h => ?_) (fun cdv A outer s H vs Q E hr h => ?_)
  · obtain ⟨o, rfl, _⟩ := h
    rfl
  · obtain ⟨o, rfl, q⟩ := h
    refine ⟨_, pss_one (ps_ret (pe_or (pe_cmpR op_isN (pv 0) pe_non (nomark _)) (pe_one (pe_chain op_le op_le pe_int (pv 0) (pe_glob (v := .int 1000000) (by rfl) mH ⟨_, rfl⟩))))), ?_⟩
    cases o with
    | none => exact g_ret (vl_orV (K := K) (k := true) ((vl_isN (vl_var rfl)).is rfl) (fun e => nomatch e) (m := true)) q
    | some x => exact g_ret (vl_orV (K := K) (k := false) ((vl_isN (vl_var rfl)).is rfl) fun _ => vl_chainI vl_c (vl_var rfl) vl_c) q
end
/-! ### errors that leave a def -/
def RaiseTo (E : XK) (H : Hp) (C : Addr) (i : Int) : Prop := ∀ H' d, Same H H' → H' d = some (.xd [("at", .int i)]) → E (.ref C) (some d) H'
theorem RaiseTo.to {E : XK} {H H' : Hp} {C : Addr} {i : Int} (h : RaiseTo E H C i) (s : Same H H') : RaiseTo E H' C i := fun H2 d s2 hd => h H2 d (s.trans s2) hd
theorem raise_now {E : XK} {C : Addr} {i : Int} {ta : TA} {σ : L2.St} {H : Hp} {D : Ends} (h : Va ta σ H [.int i]) (r : RaiseTo E H C i) : tRaiseLow C (fun cls d _ H => E cls d H) ta D σ H := h _ ⟨_, rfl, fun d nd => r _ d (same_upd nd) upd_same⟩
/-- for i, x in enumerate(xs) -/
theorem for_en {K : PySem.W.Frag} {a : Addr} {xs : List V} {g : TG} {tb : TS} {D : Ends} {σ : L2.St} {H : Hp} (Pv : Nat → L2.St → Hp → Prop) (h0 : Pv 0 σ H) (hq : ∀ i σ H, Pv i σ H → SqL K H a xs)
    (hs : ∀ (i : Nat) x T σ H, xs[i]? = some x → Pv i σ H → H T = none → g (.ref T) σ (upd H T (.tup [.int (i : Nat), x])) fun σ2 H2 => tb { D with nx := Pv (i + 1), ct := Pv (i + 1), bk := D.nx } σ2 H2) (hd : ∀ σ H, Pv xs.length σ H → D.nx σ H) :
    ∃ W : Nat → Nat → L2.St → Hp → Prop, (∃ m, W 0 m σ H) ∧ ∀ i m σ H, W i m σ H → ((Ite K a).stop i H ∧ D.nx σ H) ∨
      ((Ite K a).go i H ∧ ∃ N : L2.St → Hp → Prop, (∀ σ' H', N σ' H' → ∃ m', m' < m ∧ W (i + 1) m' σ' H') ∧ ∀ v H', (Ite K a).yld i H v H' → g v σ H' fun σ2 H2 => tb { D with nx := N, ct := N, bk := D.nx } σ2 H2) := by
  refine ⟨fun i m σ H => m + i = xs.length ∧ Pv i σ H, ⟨xs.length, rfl, h0⟩, fun i m σ H hW => ?_⟩
  obtain ⟨em, p⟩ := hW
  have qx := hq i σ H p
  by_cases hlt : i < xs.length
  · refine .inr ⟨⟨xs, xs[i], qx, List.getElem?_eq_getElem hlt⟩, Pv (i + 1), fun σ' H' p' => ⟨m - 1, by omega, by omega, p'⟩, fun v H' yy => ?_⟩
    obtain ⟨T, x', rfl, hT, rfl, f1⟩ := yy
    exact hs i x' T σ H (f1 xs qx) p hT
  · have e : i = xs.length := by omega
    rw [e] at p
    exact .inl ⟨⟨xs, qx, by omega⟩, hd σ H p⟩
/-! ### check_places -/
def badP (n x : Int) : Bool := !(decide (0 ≤ x) && decide (x < n))
theorem badP_in {n x : Int} (h : 0 ≤ x ∧ x < n) : ¬ badP n x = true := by
  unfold badP
  rw [decide_eq_true h.1, decide_eq_true h.2]
  exact Bool.false_ne_true
theorem badP_out {n x : Int} (h : ¬ (0 ≤ x ∧ x < n)) : badP n x = true := by
  unfold badP
  rw [Bool.not_eq_true', Bool.and_eq_false_iff, decide_eq_false_iff_not, decide_eq_false_iff_not]
  omega
def badPl (n : Int) (xs : List Int) : Option Int := xs.find? (badP n)
theorem badPl_none {n : Int} {xs : List Int} (h : badPl n xs = none) : ∀ x ∈ xs, 0 ≤ x ∧ x < n := fun x hx => by
  have := List.find?_eq_none.mp h x hx
  by_cases c : 0 ≤ x ∧ x < n
  · exact c
  · exact absurd (badP_out c) this
theorem badPl_of {n : Int} {xs : List Int} (h : ∀ x ∈ xs, 0 ≤ x ∧ x < n) : badPl n xs = none := List.find?_eq_none.mpr fun x hx => badP_in (h x hx)
def spChkPl (K : PySem.W.Frag) (CP : Addr) : Sp := fun vs H Q E => ∃ (n : Int) (p : Addr) (xs : List Int), vs = [.int n, .ref p] ∧ SqL K H p (xs.map V.int) ∧
  (∀ x, badPl n xs = some x → RaiseTo E H CP x) ∧ (badPl n xs = none → ∀ H', Same H H' → Q .non H')
abbrev sChkPl : Stmt := topS 13
theorem scChkPl : FnScope ["n", "places", "place"] ["n", "places"] (defScope sChkPl) := ⟨rfl, rfl, rfl, by decide +kernel, rfl, by decide +kernel, by decide +kernel⟩
section
variable {P : Program} {w : World} {K : PySem.W.Frag} {mg : Str → Option Value} {base : Heap} {CP fI : Addr}
theorem ok_chkPl {f : Addr} {fd : FuncData} (F : Fun K "check_places" "check_places" sChkPl f fd) (hP : PySem.LowX.LowTxt K mg "NoPlace" CP fI) : FnOk P w K mg base (L2.CX P w) 2 f fd ["n", "places"] (spChkPl K CP) := by
  refine F.okX scChkPl (fun vs H Q E h => ?_) (fun cdv A outer s H vs Q E hr h => ?_)
  · obtain ⟨n, p, xs, rfl, _⟩ := h
    rfl
  · obtain ⟨n, p, xs, rfl, hS, q1, q2⟩ := h
    refine ⟨_, pss_one (ps_for (passes_of rfl) rfl (pi_list (pv 1)) (pg_name (i := 2) scChkPl.nd rfl (.inl rfl))
      (pss_one (ps_if (pt_not (pt_chain op_le op_lt pe_int (pv 2) (pv 0)))
        (pss_one (ps_raiseLow rfl hP hr (takes_of rfl rfl rfl rfl) (by exact (pa_cons (pv 2) pa_nil))))
        pss_nil))), ?_⟩
    refine g_forL (K := K) (j := 2) (xs := xs.map V.int) (vl_var rfl) hS
      (fun i σ H3 => ∃ y2, σ = [some (.int n), some (.ref p), y2] ∧ Same H H3 ∧ badPl n (xs.take i) = none)
      ⟨none, rfl, Same.refl _, rfl⟩ (fun i σ H3 hP => ?_) (fun i v σ H3 hi hP => ?_) (fun σ H3 hP => ?_)
    · obtain ⟨_, _, s3, _⟩ := hP
      exact s3.seq hS
    · obtain ⟨y2, rfl, s3, hb⟩ := hP
      rw [List.getElem?_map] at hi
      cases hg : xs[i]? with
      | none =>
        rw [hg] at hi
        cases hi
      | some z =>
        rw [hg] at hi
        cases hi
        refine g_when (b := !(decide ((0 : Int) ≤ z) && decide (z < n))) (an_not (an_test (vl_chainI vl_c (vl_var rfl) (vl_var rfl)))) (fun hz => ?_) (fun hz => ?_)
        · refine raise_now (va_cons (vl_var rfl) va_nil) ((q1 z ?_).to s3)
          have e : xs = xs.take i ++ (z :: xs.drop (i + 1)) := by
            have hil := (List.getElem?_eq_some_iff.mp hg)
            rw [← hil.2, ← List.drop_eq_getElem_cons hil.1, List.take_append_drop]
          rw [e]
          unfold badPl at hb ⊢
          rw [List.find?_append, hb, List.find?_cons_of_pos (p := badP n) hz] <;> rfl
        · refine ⟨_, rfl, s3, ?_⟩
          unfold badPl at hb ⊢
          rw [take_snoc hg, List.find?_append, hb, List.find?_cons_of_neg (p := badP n) (fun z => by rw [show badP n _ = false from hz] at z; cases z)] <;> rfl
    · obtain ⟨y2, rfl, s3, hb⟩ := hP
      rw [List.length_map, List.take_length] at hb
      exact q2 hb _ s3
end
section
variable {K : PySem.W.Frag} {σ : L2.St} {H : Hp} {t0 t1 t2 : TE} {D : Ends} {tw : TS} {E : XK} {CP : Addr} {n a b : Int}
/-- check_places(n, [a]) -/
theorem q_chk1 (h0 : Vl t0 σ H (.int n)) (h1 : Vl t1 σ H (.int a)) (qb : ¬ (0 ≤ a ∧ a < n) → RaiseTo E H CP a) (k : 0 ≤ a ∧ a < n → ∀ H', Same H H' → tw D σ H') :
    tSeq (tDrop (tCall (spChkPl K CP) [] E (tCons t0 (tCons (tLst (tCons t1 tNil)) tNil)))) tw D σ H :=
  h0 _ (h1 _ ⟨by show 1 ≤ sizeLine; decide, fun p np => ⟨n, p, [a], rfl, .of upd_same, fun x hx => by
    have s : Same H (upd H p (.lst [.int a])) := same_upd np
    refine (?_ : RaiseTo E H CP x).to s
    by_cases hin : 0 ≤ a ∧ a < n
    · rw [badPl_of (by
        intro y hy
        rw [List.mem_singleton.mp hy]
        exact hin)] at hx
      cases hx
    · have e : x = a := List.mem_singleton.mp (List.mem_of_find?_eq_some hx)
      rw [e]
      exact qb hin, fun hx H' s' => k (badPl_none hx a List.mem_cons_self) H' ((same_upd np).trans s')⟩⟩)
/-- check_places(n, [a, b]) -/
theorem q_chk2 (h0 : Vl t0 σ H (.int n)) (h1 : Vl t1 σ H (.int a)) (h2 : Vl t2 σ H (.int b)) (qa : ¬ (0 ≤ a ∧ a < n) → RaiseTo E H CP a) (qb : 0 ≤ a ∧ a < n → ¬ (0 ≤ b ∧ b < n) → RaiseTo E H CP b)
    (k : 0 ≤ a ∧ a < n → 0 ≤ b ∧ b < n → ∀ H', Same H H' → tw D σ H') :
    tSeq (tDrop (tCall (spChkPl K CP) [] E (tCons t0 (tCons (tLst (tCons t1 (tCons t2 tNil))) tNil)))) tw D σ H :=
  h0 _ (h1 _ (h2 _ ⟨by show 2 ≤ sizeLine; decide, fun p np => ⟨n, p, [a, b], rfl, .of upd_same, fun x hx => by
    have s : Same H (upd H p (.lst [.int a, .int b])) := same_upd np
    refine (?_ : RaiseTo E H CP x).to s
    unfold badPl at hx
    by_cases hin : 0 ≤ a ∧ a < n
    · by_cases hin2 : 0 ≤ b ∧ b < n
      · have := badPl_of (n := n) (xs := [a, b]) (by
          intro y hy
          rcases List.mem_cons.mp hy with rfl | hy
          · exact hin
          · rw [List.mem_singleton.mp hy]
            exact hin2)
        unfold badPl at this
        rw [this] at hx
        cases hx
      · rw [List.find?_cons_of_neg (badP_in hin)] at hx
        have e : x = b := List.mem_singleton.mp (List.mem_of_find?_eq_some hx)
        rw [e]
        exact qb hin hin2
    · rw [List.find?_cons_of_pos (badP_out hin)] at hx
      cases hx
      exact qa hin, fun hx H' s' => k (badPl_none hx a List.mem_cons_self) (badPl_none hx b (List.mem_cons_of_mem _ List.mem_cons_self)) H' ((same_upd np).trans s')⟩⟩))
end
/-! ### is_price, is_net -/
abbrev sIsNet : Stmt := topS 9
theorem scIsNet : FnScope ["net", "n", "links", "before", "a", "b", "there", "back"] ["net"] (defScope sIsNet) := ⟨rfl, rfl, rfl, by decide +kernel, rfl, by decide +kernel, by decide +kernel⟩
/-- a link behind the pair (p, q) -/
def lnkB (n p q : Int) (l : Lnk) : Bool := (decide (0 ≤ l.a) && (decide (l.a < l.b) && decide (l.b < n))) && !decide (l.a < p ∨ (l.a = p ∧ l.b ≤ q)) && (priceB l.t && priceB l.k)
def chk (n : Int) : Int → Int → List Lnk → Bool
  | _, _, [] => true
  | p, q, l :: ls => lnkB n p q l && chk n l.a l.b ls
def isNetB (N : Net) : Bool := (decide (1 ≤ N.n) && decide (N.n ≤ 40)) && chk N.n 0 0 N.ls
def spIsNet (K : PySem.W.Frag) : Sp := fun vs H Q _ => ∃ (v : V) (N : Net), vs = [v] ∧ Dp K H v (netD N) ∧ ∀ H', Same H H' → Q (.bl (isNetB N)) H'
theorem chk_snoc : ∀ (ls : List Lnk) (n p q : Int) (l : Lnk), chk n p q (ls ++ [l]) = (chk n p q ls && lnkB n ((ls.getLast?.map (·.a)).getD p) ((ls.getLast?.map (·.b)).getD q) l)
  | [], n, p, q, l => by
    show (lnkB n p q l && true) = (true && lnkB n p q l)
    rw [Bool.and_true, Bool.true_and]
  | m :: ls, n, p, q, l => by
    show (lnkB n p q m && chk n m.a m.b (ls ++ [l])) = ((lnkB n p q m && chk n m.a m.b ls) && _)
    rw [chk_snoc ls, Bool.and_assoc]
    cases ls with
    | nil => rfl
    | cons x r =>
      rw [List.getLast?_cons_cons, List.getLast?_cons]
      rfl
theorem chk_take {n p q : Int} {ls : List Lnk} {k : Nat} (h : chk n p q (ls.take k) = false) : chk n p q ls = false := by
  induction ls generalizing p q k with
  | nil =>
    rw [List.take_nil] at h
    exact h
  | cons m ls ih =>
    cases k with
    | zero => cases h
    | succ k =>
      have h' : (lnkB n p q m && chk n m.a m.b (ls.take k)) = false := h
      show (lnkB n p q m && chk n m.a m.b ls) = false
      cases e : lnkB n p q m with
      | false => rfl
      | true =>
        rw [e, Bool.true_and] at h'
        rw [Bool.true_and]
        exact ih h'
section
variable {P : Program} {w : World} {K : PySem.W.Frag} {mg : Str → Option Value} {base : Heap}
theorem ok_isNet {f : Addr} {fd : FuncData} (F : Fun K "is_net" "is_net" sIsNet f fd) {t : Tok} (mM : mg "MOST_PLACES" = some (.int 40 t)) (cP : Kal P w K mg base 1 "is_price" ["value"] spIsPrice) : FnOk P w K mg base CX0 2 f fd ["net"] (spIsNet K) := by
  refine F.ok scIsNet (fun vs H Q E h => ?_) (fun cdv A outer s H vs Q E hr h => ?_)
  · obtain ⟨v, N, rfl, _⟩ := h
    rfl
  · obtain ⟨v, N, rfl, hN, q⟩ := h
    have hu := hu_of hr
    refine ⟨_, pss_cons (ps_asg (pv 0) (pg_tup rfl (pgs_cons (pg_name (i := 1) scIsNet.nd rfl (.inl rfl)) (pgs_cons (pg_name (i := 2) scIsNet.nd rfl (.inl rfl)) pgs_nil))))
      (pss_cons (ps_if (pt_not (pt_chain op_le op_le pe_int (pv 1) (pe_glob (v := .int 40) (by rfl) mM ⟨_, rfl⟩))) (pss_one (ps_ret pe_bl)) pss_nil)
      (pss_cons (ps_set (i := 3) scIsNet.nd rfl (.inl rfl) (pe_tup (pa_cons pe_int (pa_cons pe_int pa_nil))))
      (pss_cons (ps_for PassesOwn.never rfl (pi_list (pv 2)) (pg_tup rfl (pgs_cons (pg_name (i := 4) scIsNet.nd rfl (.inl rfl)) (pgs_cons (pg_name (i := 5) scIsNet.nd rfl (.inl rfl)) (pgs_cons (pg_name (i := 6) scIsNet.nd rfl (.inl rfl)) (pgs_cons (pg_name (i := 7) scIsNet.nd rfl (.inl rfl)) pgs_nil)))))
        (pss_cons (ps_if (PW.pt (pw_or (pt_not (pt_chain3 op_le op_lt op_lt pe_int (pv 4) (pv 5) (pv 1))) (pw_or1 (pt_cmpR (op_leT hr.units0) (pe_tup (pa_cons (pv 4) (pa_cons (pv 5) pa_nil))) (pv 3) (nomark _))))) (pss_one (ps_ret pe_bl)) pss_nil)
        (pss_cons (ps_if (PW.pt (pw_or (pt_not (pt_val (pe_k cP hr (by decide) (by rfl) (pa_cons (pv 6) pa_nil)))) (pw_or1 (pt_not (pt_val (pe_k cP hr (by decide) (by rfl) (pa_cons (pv 7) pa_nil))))))) (pss_one (ps_ret pe_bl)) pss_nil)
        (pss_one (ps_set (i := 3) scIsNet.nd rfl (.inl rfl) (pe_tup (pa_cons (pv 4) (pa_cons (pv 5) pa_nil))))))))
      (pss_one (ps_ret pe_bl))))), ?_⟩
    obtain ⟨p, c, xs, rfl, hp, hc, hx⟩ := Dp.net_inv hN
    refine q_asgT2 (vl_var rfl) hp ?_
    refine q_when (b := !(decide ((1 : Int) ≤ N.n) && decide (N.n ≤ 40))) ?_ (fun hb => ?_) (fun hb => ?_)
    · exact an_not (an_test (vl_chainI vl_c (vl_var rfl) vl_c))
    · have e : isNetB N = false := by
        unfold isNetB
        rw [Bool.not_eq_true'] at hb
        rw [hb]
        rfl
      have := q H (Same.refl H)
      rw [e] at this
      exact g_ret vl_c this
    · have e : isNetB N = chk N.n 0 0 N.ls := by
        unfold isNetB
        rw [Bool.not_eq_false'] at hb
        rw [hb]
        rfl
      rw [e] at q
      refine q_asgTup (va_cons vl_c (va_cons vl_c va_nil)) (by show 2 ≤ sizeLine; decide) fun T nT => ?_
      refine q_forLnk (j1 := 4) (j2 := 5) (j3 := 6) (j4 := 7) (Hb := H) (vl_var rfl) hc hx (same_upd nT)
        (fun i σ H3 => ∃ y4 y5 y6 y7 T, σ = [some (.ref p), some (.int N.n), some (.ref c), some (.ref T), y4, y5, y6, y7] ∧ Same H H3 ∧ SqT K H3 T [.int (((N.ls.take i).getLast?.map (·.a)).getD 0), .int (((N.ls.take i).getLast?.map (·.b)).getD 0)] ∧ chk N.n 0 0 (N.ls.take i) = true)
        ⟨none, none, none, none, T, rfl, same_upd nT, .of upd_same, rfl⟩ (fun i σ H3 hP => ?_) (fun i l σ H3 hl hP => ?_) (fun σ H3 hP => ?_)
      · obtain ⟨_, _, _, _, _, _, s3, _⟩ := hP
        exact s3
      · obtain ⟨y4, y5, y6, y7, T, rfl, s3, hT, hck⟩ := hP
        have es := chk_snoc (N.ls.take i) N.n 0 0 l
        rw [← take_snoc hl, hck, Bool.true_and] at es
        generalize ((N.ls.take i).getLast?.map (·.a)).getD 0 = p0 at hT es
        generalize ((N.ls.take i).getLast?.map (·.b)).getD 0 = q0 at hT es
        have bad : lnkB N.n p0 q0 l = false → chk N.n 0 0 N.ls = false := fun h => chk_take (k := i + 1) (es.trans h)
        refine q_whenx (b := !(decide (0 ≤ l.a) && (decide (l.a < l.b) && decide (l.b < N.n))) || decide (l.a < p0 ∨ (l.a = p0 ∧ l.b ≤ q0))) ?_ (fun hb H4 s4 => ?_) (fun hb H4 s4 => ?_)
        · exact ax_or (ax_not (ax_of (an_chain3 vl_c (vl_var rfl) (vl_var rfl) (vl_var rfl)))) fun _ H' s' => ax_leT (vl_var rfl) (vl_var rfl) (fun _ _ => vl_var rfl) (seqT s' hT)
        · have := q H4 (s3.trans s4)
          rw [bad (by
            unfold lnkB
            rw [Bool.or_eq_true, Bool.not_eq_true'] at hb
            rcases hb with hb | hb
            · rw [hb]
              rfl
            · rw [hb]
              simp)] at this
          exact g_ret vl_c this
        · rw [Bool.or_eq_false_iff, Bool.not_eq_false'] at hb
          refine q_when (b := !priceB l.t || !priceB l.k) ?_ (fun hb2 => ?_) (fun hb2 => ?_)
          · exact an_or (an_not (an_B fun Q k => ⟨_, rfl, l.t, rfl, k⟩)) fun _ => an_not (an_B fun Q k => ⟨_, rfl, l.k, rfl, k⟩)
          · have := q H4 (s3.trans s4)
            rw [bad (by
              unfold lnkB
              rw [← Bool.not_and, Bool.not_eq_true'] at hb2
              rw [hb2, Bool.and_false])] at this
            exact g_ret vl_c this
          · refine g_asgTup (va_cons (vl_var rfl) (va_cons (vl_var rfl) va_nil)) (by show 2 ≤ sizeLine; decide) fun T2 nT2 => ?_
            have e2 : lnkB N.n p0 q0 l = true := by
              unfold lnkB
              rw [← Bool.not_and, Bool.not_eq_false'] at hb2
              rw [hb2, hb.1, hb.2]
              rfl
            refine ⟨_, _, _, _, T2, rfl, (s3.trans s4).trans (same_upd nT2), ?_, es.trans e2⟩
            rw [take_snoc hl, List.getLast?_append]
            exact .of upd_same
      · obtain ⟨y4, y5, y6, y7, T, rfl, s3, hT, hck⟩ := hP
        rw [List.take_length] at hck
        have := q H3 s3
        rw [hck] at this
        exact g_ret vl_c this
end
/-! ### _link_index -/
abbrev sLinkIx : Stmt := topS 14
theorem scLinkIx : FnScope ["net", "a", "b", "n", "links", "ends", "index", "link"] ["net", "a", "b"] (defScope sLinkIx) := ⟨rfl, rfl, rfl, by decide +kernel, rfl, by decide +kernel, by decide +kernel⟩
inductive LRes where
  | noPlace (x : Int)
  | noLink
  | here (i : Nat)
def atEnds (a b : Int) (l : Lnk) : Bool := decide (l.a = (if b < a then b else a) ∧ l.b = (if b > a then b else a))
def linkIx (N : Net) (a b : Int) : LRes :=
  if 0 ≤ a ∧ a < N.n then (if 0 ≤ b ∧ b < N.n then (match N.ls.findIdx? (atEnds a b) with
    | none => .noLink
    | some i => .here i) else .noPlace b) else .noPlace a
def spLinkIx (K : PySem.W.Frag) (CP CL : Addr) : Sp := fun vs H Q E => ∃ (v : V) (a b : Int) (N : Net), vs = [v, .int a, .int b] ∧ Dp K H v (netD N) ∧
  match linkIx N a b with
  | .noPlace x => RaiseTo E H CP x
  | .noLink => RaiseTo E H CL 0
  | .here i => ∀ H', Same H H' → Q (.int i) H'
theorem findIdx_take {ls : List Lnk} {f : Lnk → Bool} {i : Nat} {l : Lnk} (hl : ls[i]? = some l) (hn : ∀ m ∈ ls.take i, f m = false) (hf : f l = true) : ls.findIdx? f = some i := by
  have hi := (List.getElem?_eq_some_iff.mp hl).1
  rw [List.findIdx?_eq_some_iff_getElem]
  refine ⟨hi, ?_, fun j hj => ?_⟩
  · rw [(List.getElem?_eq_some_iff.mp hl).2]
    exact hf
  · have hj2 : j < ls.length := by omega
    rw [hn ls[j] (List.mem_take_iff_getElem.mpr ⟨j, by omega, rfl⟩)]
    exact Bool.false_ne_true
section
variable {P : Program} {w : World} {K : PySem.W.Frag} {mg : Str → Option Value} {base : Heap} {CP CL CB fI : Addr}
theorem ok_linkIx {f : Addr} {fd : FuncData} (F : Fun K "_link_index" "_link_index" sLinkIx f fd) (cCp : KalX P w K mg base 2 "check_places" ["n", "places"] (spChkPl K CP)) (hL : PySem.LowX.LowTxt K mg "NoLink" CL fI) (mm : mg "min" = none) (mx : mg "max" = none) (me : mg "enumerate" = none) :
    FnOk P w K mg base (L2.CX P w) 3 f fd ["net", "a", "b"] (spLinkIx K CP CL) := by
  refine F.okX scLinkIx (fun vs H Q E h => ?_) (fun cdv A outer s H vs Q E hr h => ?_)
  · obtain ⟨v, a, b, N, rfl, _⟩ := h
    rfl
  · obtain ⟨v, a, b, N, rfl, hN, q⟩ := h
    refine ⟨_, pss_cons (ps_asg (pv 0) (pg_tup rfl (pgs_cons (pg_name (i := 3) scLinkIx.nd rfl (.inl rfl)) (pgs_cons (pg_name (i := 4) scLinkIx.nd rfl (.inl rfl)) pgs_nil))))
      (pss_cons (ps_expr (pe_kx (E := E) cCp hr (by decide) (by rfl) (takes_of rfl rfl rfl rfl) (pa_cons (pv 3) (pa_cons (pe_lst (pa_cons (pv 1) (pa_cons (pv 2) pa_nil))) pa_nil))))
      (pss_cons (ps_set (i := 5) scLinkIx.nd rfl (.inl rfl) (pe_tup (pa_cons (pe_callB (call_min2 rfl) (by rfl) mm (by decide +kernel) (pa_cons (pv 1) (pa_cons (pv 2) pa_nil))) (pa_cons (pe_callB (call_max2 rfl) (by rfl) mx (by decide +kernel) (pa_cons (pv 1) (pa_cons (pv 2) pa_nil))) pa_nil))))
      (pss_cons (ps_for (passes_of rfl) rfl (pi_enum (by rfl) me (pa_cons (pv 4) pa_nil)) (pg_tup rfl (pgs_cons (pg_name (i := 6) scLinkIx.nd rfl (.inl rfl)) (pgs_cons (pg_name (i := 7) scLinkIx.nd rfl (.inl rfl)) pgs_nil)))
        (pss_one (ps_if (pt_cmpR (op_eqD hr.units) (pe_tup (pa_cons (pe_ix ix_tup (pv 7) pe_int (fun _ _ => rfl)) (pa_cons (pe_ix ix_tup (pv 7) pe_int (fun _ _ => rfl)) pa_nil))) (pv 5) (nomark _)) (pss_one (ps_ret (pv 6))) pss_nil)))
      (pss_one (ps_raiseLow rfl hL hr (takes_of rfl rfl rfl rfl) (by exact (pa_cons pe_int pa_nil))))))), ?_⟩
    obtain ⟨p, c, xs, rfl, hp, hc, hx⟩ := Dp.net_inv hN
    refine q_asgT2 (vl_var rfl) hp ?_
    refine q_chk2 (n := N.n) (a := a) (b := b) (vl_var rfl) (vl_var rfl) (vl_var rfl) (fun hz => ?_) (fun ha hz => ?_) (fun ha hb H3 h3 => ?_)
    · rw [show linkIx N a b = .noPlace a from if_neg hz] at q
      exact q
    · rw [show linkIx N a b = .noPlace b from (if_pos ha).trans (if_neg hz)] at q
      exact q
    · have e1 : linkIx N a b = (match N.ls.findIdx? (atEnds a b) with
          | none => .noLink
          | some i => .here i) := by
        unfold linkIx
        exact (if_pos ha).trans (if_pos hb)
      rw [e1] at q
      refine q_asgTup (va_cons (vl_min2 (vl_var rfl) (vl_var rfl)) (va_cons (vl_max2 (vl_var rfl) (vl_var rfl)) va_nil)) (by show 2 ≤ sizeLine; decide) fun S nS => ?_
      have s4 : Same H3 (upd H3 S (.tup [.int (if b < a then b else a), .int (if b > a then b else a)])) := same_upd nS
      refine ⟨.ref c, rfl, c, xs, rfl, (h3.trans s4).seq hc, for_en (xs := xs)
        (fun i σ H4 => ∃ y7 y8, σ = [some (.ref p), some (.int a), some (.int b), some (.int N.n), some (.ref c), some (.ref S), y7, y8] ∧ Same (upd H3 S (.tup [.int (if b < a then b else a), .int (if b > a then b else a)])) H4 ∧ ∀ m ∈ N.ls.take i, atEnds a b m = false)
        ⟨none, none, rfl, Same.refl _, fun m hm => (nomatch hm)⟩ (fun i σ H4 hP => ?_) (fun i x T2 σ H4 hi hP nT2 => ?_) (fun σ H4 hP => ?_)⟩
      · obtain ⟨_, _, _, s5, _⟩ := hP
        exact ((h3.trans s4).trans s5).seq hc
      · obtain ⟨y7, y8, rfl, s5, hno⟩ := hP
        have el := DpAll.len hx
        rw [List.length_map] at el
        have hil : i < N.ls.length := by
          have := (List.getElem?_eq_some_iff.mp hi).1
          omega
        have hg : N.ls[i]? = some N.ls[i] := List.getElem?_eq_getElem hil
        generalize N.ls[i] = l at hg
        obtain ⟨v', ev, dv⟩ := DpAll.get (i := i) (d := lnkD l) hx (by
          rw [List.getElem?_map, hg]
          rfl)
        cases hi.symm.trans ev
        obtain ⟨tl, rfl, htl⟩ := Dp.lnk_inv dv
        refine ⟨T2, _, rfl, .of upd_same, rfl, _, _, rfl, _, _, rfl, rfl, ?_⟩
        have s6 : Same H4 (upd H4 T2 (.tup [.int (i : Nat), .ref tl])) := same_upd nT2
        have s36 := (s4.trans s5).trans s6
        refine g_whenx (b := atEnds a b l) ?_ (fun hb H7 s7 => ?_) (fun hb H7 s7 => ?_)
        · exact ax_eqTR (vl_ixT (vl_var rfl) vl_c (seqT (h3.trans s36) htl) (atI_nat (j := 0) rfl)) (vl_ixT (vl_var rfl) vl_c (seqT (h3.trans s36) htl) (atI_nat (j := 1) rfl)) (fun _ _ => vl_var rfl) (.of (s6 _ _ (s5 _ _ upd_same)))
        · have e2 := findIdx_take hg hno hb
          rw [e2] at q
          exact g_ret (vl_var rfl) (q H7 ((h3.trans s36).trans s7))
        · refine ⟨_, _, rfl, (s5.trans s6).trans s7, fun m hm => ?_⟩
          rw [take_snoc hg] at hm
          rcases List.mem_append.mp hm with h' | h'
          · exact hno m h'
          · rw [List.mem_singleton.mp h']
            exact hb
      · obtain ⟨y7, y8, rfl, s5, hno⟩ := hP
        have el := DpAll.len hx
        rw [List.length_map] at el
        rw [el, List.take_length] at hno
        have e2 : N.ls.findIdx? (atEnds a b) = none := List.findIdx?_eq_none_iff.mpr hno
        rw [e2] at q
        refine (raise_now (C := CL) (i := 0) (D := _) (σ := [some (.ref p), some (.int a), some (.int b), some (.int N.n), some (.ref c), some (.ref S), y7, y8]) (va_cons vl_c va_nil) (q.to ((h3.trans s4).trans s5)) : tRaiseLow CL (fun cls d _ H => E cls d H) (tCons (tC (.int 0)) tNil) { nx := fun _ H' => Q .non H', rt := Q } _ H4)
end
/-! ### price, neighbours, with_price -/
abbrev sPr : Stmt := topS 10
abbrev sNear : Stmt := topS 11
abbrev sWith : Stmt := topS 12
theorem scPr : FnScope ["net", "a", "b", "low", "_", "there", "back"] ["net", "a", "b"] (defScope sPr) := ⟨rfl, rfl, rfl, by decide +kernel, rfl, by decide +kernel, by decide +kernel⟩
theorem scNear : FnScope ["net", "a", "n", "links", "found", "link"] ["net", "a"] (defScope sNear) := ⟨rfl, rfl, rfl, by decide +kernel, rfl, by decide +kernel, by decide +kernel⟩
theorem scWith : FnScope ["net", "a", "b", "value", "index", "n", "links", "low", "high", "there", "back", "link"] ["net", "a", "b", "value"] (defScope sWith) := ⟨rfl, rfl, rfl, by decide +kernel, rfl, by decide +kernel, by decide +kernel⟩
/-- the price of the way that begins at a -/
def wayOf (a : Int) (l : Lnk) : Option Int := if a = l.a then l.t else l.k
def setWay (a : Int) (o : Option Int) (l : Lnk) : Lnk := if a = l.a then ⟨l.a, l.b, o, l.k⟩ else ⟨l.a, l.b, l.t, o⟩
def setAt (N : Net) (i : Nat) (l : Lnk) : Net := ⟨N.n, N.ls.take i ++ [l] ++ N.ls.drop (i + 1)⟩
def nearF (a : Int) (l : Lnk) : Option Int := if l.a = a then some l.b else if l.b = a then some l.a else none
def nearOf (a : Int) (ls : List Lnk) : List Int := ls.filterMap (nearF a)
def spPr (K : PySem.W.Frag) (CP CL : Addr) : Sp := fun vs H Q E => ∃ (v : V) (a b : Int) (N : Net), vs = [v, .int a, .int b] ∧ Dp K H v (netD N) ∧
  match linkIx N a b with
  | .noPlace x => RaiseTo E H CP x
  | .noLink => RaiseTo E H CL 0
  | .here i => ∀ l, N.ls[i]? = some l → ∀ H', Same H H' → Q (oV (wayOf a l)) H'
def spNear (K : PySem.W.Frag) (CP : Addr) : Sp := fun vs H Q E => ∃ (v : V) (a : Int) (N : Net), vs = [v, .int a] ∧ Dp K H v (netD N) ∧ N.ls.length ≤ 1700 ∧
  (¬ (0 ≤ a ∧ a < N.n) → RaiseTo E H CP a) ∧ (0 ≤ a ∧ a < N.n → ∀ H' p, Same H H' → H p = none → H' p = some (.lst ((nearOf a N.ls).map V.int)) → Q (.ref p) H')
def spWith (K : PySem.W.Frag) (CP CL CB : Addr) : Sp := fun vs H Q E => ∃ (v : V) (a b : Int) (o : Option Int) (N : Net), vs = [v, .int a, .int b, oV o] ∧ Dp K H v (netD N) ∧ N.ls.length ≤ 1700 ∧
  match linkIx N a b with
  | .noPlace x => RaiseTo E H CP x
  | .noLink => RaiseTo E H CL 0
  | .here i => (priceB o = false → RaiseTo E H CB 0) ∧ (priceB o = true → ∀ l, N.ls[i]? = some l → ∀ H' v', Same H H' → NetAt K H' v' (setAt N i (setWay a o l)) → Q v' H')
theorem here_lt {N : Net} {a b : Int} {i : Nat} (h : linkIx N a b = .here i) : ∃ l, N.ls[i]? = some l ∧ atEnds a b l = true := by
  unfold linkIx at h
  split at h
  · split at h
    · split at h
      · cases h
      · rename_i j e
        cases h
        obtain ⟨hi, ha, _⟩ := List.findIdx?_eq_some_iff_getElem.mp e
        exact ⟨_, List.getElem?_eq_getElem hi, ha⟩
    · cases h
  · cases h
section
variable {P : Program} {w : World} {K : PySem.W.Frag} {mg : Str → Option Value} {base : Heap} {CP CL CB fI : Addr}
theorem ok_pr {f : Addr} {fd : FuncData} (F : Fun K "price" "price" sPr f fd) (cL : KalX P w K mg base 3 "_link_index" ["net", "a", "b"] (spLinkIx K CP CL)) : FnOk P w K mg base (L2.CX P w) 4 f fd ["net", "a", "b"] (spPr K CP CL) := by
  refine F.okX scPr (fun vs H Q E h => ?_) (fun cdv A outer s H vs Q E hr h => ?_)
  · obtain ⟨v, a, b, N, rfl, _⟩ := h
    rfl
  · obtain ⟨v, a, b, N, rfl, hN, q⟩ := h
    refine ⟨_, pss_cons (ps_asg (pe_ix ix_list (pe_ix ix_tup (pv 0) pe_int (fun _ _ => rfl)) (pe_kx (E := E) cL hr (by decide) (by rfl) (takes_of rfl rfl rfl rfl) (pa_cons (pv 0) (pa_cons (pv 1) (pa_cons (pv 2) pa_nil)))) (fun _ _ => rfl))
        (pg_tup rfl (pgs_cons (pg_name (i := 3) scPr.nd rfl (.inl rfl)) (pgs_cons (pg_name (i := 4) scPr.nd rfl (.inl rfl)) (pgs_cons (pg_name (i := 5) scPr.nd rfl (.inl rfl)) (pgs_cons (pg_name (i := 6) scPr.nd rfl (.inl rfl)) pgs_nil))))))
      (pss_one (ps_ret (pe_ifExp (pt_cmpR op_eq (pv 1) (pv 3) (nomark _)) (pv 5) (pv 6)))), ?_⟩
    obtain ⟨p, c, xs, rfl, hp, hc, hx⟩ := Dp.net_inv hN
    refine (vl_ixT (K := K) (vl_var rfl) vl_c hp (atI_nat (j := 1) rfl)) _ ?_
    refine ⟨.ref p, rfl, .int a, rfl, .int b, rfl, .ref p, a, b, N, rfl, hN, ?_⟩
    cases e : linkIx N a b with
    | noPlace x =>
      rw [e] at q
      exact q
    | noLink =>
      rw [e] at q
      exact q
    | here i =>
      rw [e] at q
      obtain ⟨l, hl, _⟩ := here_lt e
      have q := q l hl
      show ∀ H', Same H H' → _
      intro H1 s1
      obtain ⟨v', ev, dv⟩ := DpAll.get (i := i) (d := lnkD l) hx (by
        rw [List.getElem?_map, hl]
        rfl)
      obtain ⟨tl, rfl, htl⟩ := Dp.lnk_inv dv
      refine ⟨c, xs, _, _, rfl, rfl, s1.seq hc, atI_nat ev, tl, _, rfl, seqT s1 htl, rfl, _, _, rfl, _, _, rfl, _, _, rfl, _, _, rfl, rfl, ?_⟩
      refine g_ret (v := oV (wayOf a l)) (vl_if (b := decide (V.int a = V.int l.a)) (an_test (vl_eq (vl_var rfl) (vl_var rfl) rfl)) (fun h => ?_) (fun h => ?_)) (q H1 s1)
      · rw [show wayOf a l = l.t from if_pos (V.int.inj (of_decide_eq_true h))]
        exact vl_var rfl
      · rw [show wayOf a l = l.k from if_neg (fun z => of_decide_eq_false h (congrArg V.int z))]
        exact vl_var rfl
theorem ok_near {f : Addr} {fd : FuncData} (F : Fun K "neighbours" "neighbours" sNear f fd) (cCp : KalX P w K mg base 2 "check_places" ["n", "places"] (spChkPl K CP)) : FnOk P w K mg base (L2.CX P w) 3 f fd ["net", "a"] (spNear K CP) := by
  refine F.okX scNear (fun vs H Q E h => ?_) (fun cdv A outer s H vs Q E hr h => ?_)
  · obtain ⟨v, a, N, rfl, _⟩ := h
    rfl
  · obtain ⟨v, a, N, rfl, hN, hlen, q1, q2⟩ := h
    refine ⟨_, pss_cons (ps_asg (pv 0) (pg_tup rfl (pgs_cons (pg_name (i := 2) scNear.nd rfl (.inl rfl)) (pgs_cons (pg_name (i := 3) scNear.nd rfl (.inl rfl)) pgs_nil))))
      (pss_cons (ps_expr (pe_kx (E := E) cCp hr (by decide) (by rfl) (takes_of rfl rfl rfl rfl) (pa_cons (pv 2) (pa_cons (pe_lst (pa_cons (pv 1) pa_nil)) pa_nil))))
      (pss_cons (ps_set (i := 4) scNear.nd rfl (.inl rfl) (pe_lst pa_nil))
      (pss_cons (ps_for (passes_of rfl) rfl (pi_list (pv 3)) (pg_name (i := 5) scNear.nd rfl (.inl rfl))
        (pss_one (ps_if (pt_cmpR op_eq (pe_ix ix_tup (pv 5) pe_int (fun _ _ => rfl)) (pv 1) (nomark _))
          (pss_one (ps_expr (pe_bm PySem.F.plainAttrs_list PySem.F.slot_list_append PySem.F.type_list_append mt_append (pv 4) (pa_cons (pe_ix ix_tup (pv 5) pe_int (fun _ _ => rfl)) pa_nil))))
          (pss_one (ps_if (pt_cmpR op_eq (pe_ix ix_tup (pv 5) pe_int (fun _ _ => rfl)) (pv 1) (nomark _))
            (pss_one (ps_expr (pe_bm PySem.F.plainAttrs_list PySem.F.slot_list_append PySem.F.type_list_append mt_append (pv 4) (pa_cons (pe_ix ix_tup (pv 5) pe_int (fun _ _ => rfl)) pa_nil)))) pss_nil)))))
      (pss_one (ps_ret (pv 4)))))), ?_⟩
    obtain ⟨p, c, xs, rfl, hp, hc, hx⟩ := Dp.net_inv hN
    refine q_asgT2 (vl_var rfl) hp ?_
    refine q_chk1 (n := N.n) (a := a) (vl_var rfl) (vl_var rfl) (fun h => ?_) (fun h H0 s0 => ?_)
    · exact q1 h
    · have q := q2 h
      replace hp := seqT s0 hp
      replace hc := s0.seq hc
      replace hx := DpAll.to hx s0
      refine q_lnew fun o no => ?_
      refine q_forLk (j := 5) (Hb := H0) (vl_var rfl) hc hx (same_upd no)
        (fun i σ H3 => ∃ y5, σ = [some (.ref p), some (.int a), some (.int N.n), some (.ref c), some (.ref o), y5] ∧ Same H0 H3 ∧ H3 o = some (.lst ((nearOf a (N.ls.take i)).map V.int)))
        ⟨none, rfl, same_upd no, upd_same⟩ (fun i σ H3 hP => ?_) (fun i l t σ H3 hl ht hP => ?_) (fun σ H3 hP => ?_)
      · obtain ⟨_, _, s3, _⟩ := hP
        exact s3
      · obtain ⟨y5, rfl, s3, ho⟩ := hP
        have hi := (List.getElem?_eq_some_iff.mp hl).1
        have hsz : ((nearOf a (N.ls.take i)).map V.int).length < sizeLine := by
          rw [List.length_map]
          refine Nat.lt_of_le_of_lt (List.length_filterMap_le _ _) (Nat.lt_of_le_of_lt (m := 10000) ?_ (by decide))
          rw [List.length_take]
          omega
        have en : nearOf a (N.ls.take (i + 1)) = nearOf a (N.ls.take i) ++ (nearF a l).toList := by
          unfold nearOf
          rw [take_snoc hl, List.filterMap_append]
          cases e : nearF a l <;> simp [e]
        have e0 : Vl (tOp (rIxT K) (tVar 5) (tC (.int 0))) [some (.ref p), some (.int a), some (.int N.n), some (.ref c), some (.ref o), some (.ref t)] H3 (.int l.a) := vl_ixT (vl_var rfl) vl_c (seqT s3 ht) (atI_nat (j := 0) rfl)
        have e1 : Vl (tOp (rIxT K) (tVar 5) (tC (.int 1))) [some (.ref p), some (.int a), some (.int N.n), some (.ref c), some (.ref o), some (.ref t)] H3 (.int l.b) := vl_ixT (vl_var rfl) vl_c (seqT s3 ht) (atI_nat (j := 1) rfl)
        refine g_if (b := decide (V.int l.a = V.int a)) ?_ (fun h => ?_) (fun h => ?_)
        · exact an_test (vl_eq e0 (vl_var rfl) rfl)
        · have z := V.int.inj (of_decide_eq_true h)
          have ef : nearF a l = some l.b := if_pos z
          refine g_app (vl_var rfl) ho e1 hsz ⟨_, rfl, same_upd' s3 no, ?_⟩
          rw [upd_same, en, ef, List.map_append]
          rfl
        · have z : ¬ l.a = a := fun y => of_decide_eq_false h (congrArg V.int y)
          refine g_when (b := decide (V.int l.b = V.int a)) ?_ (fun h2 => ?_) (fun h2 => ?_)
          · exact an_test (vl_eq e1 (vl_var rfl) rfl)
          · have z2 := V.int.inj (of_decide_eq_true h2)
            have ef : nearF a l = some l.a := by
              unfold nearF
              rw [if_neg z, if_pos z2]
            refine g_app (vl_var rfl) ho e0 hsz ⟨_, rfl, same_upd' s3 no, ?_⟩
            rw [upd_same, en, ef, List.map_append]
            rfl
          · have ef : nearF a l = none := by
              unfold nearF
              rw [if_neg z, if_neg (fun y => of_decide_eq_false h2 (congrArg V.int y))]
            refine ⟨_, rfl, s3, ?_⟩
            rw [ho, en, ef]
            simp
      · obtain ⟨y5, rfl, s3, ho⟩ := hP
        rw [List.take_length] at ho
        exact g_ret (vl_var rfl) (q H3 o (s0.trans s3) (Same.free s0 no) ho)
theorem ok_with {f : Addr} {fd : FuncData} (F : Fun K "with_price" "with_price" sWith f fd) (cL : KalX P w K mg base 3 "_link_index" ["net", "a", "b"] (spLinkIx K CP CL)) (cP : Kal P w K mg base 1 "is_price" ["value"] spIsPrice) (hB : PySem.LowX.LowTxt K mg "BadPrice" CB fI) :
    FnOk P w K mg base (L2.CX P w) 4 f fd ["net", "a", "b", "value"] (spWith K CP CL CB) := by
  refine F.okX scWith (fun vs H Q E h => ?_) (fun cdv A outer s H vs Q E hr h => ?_)
  · obtain ⟨v, a, b, o, N, rfl, _⟩ := h
    rfl
  · obtain ⟨v, a, b, o, N, rfl, hN, hlen, q⟩ := h
    refine ⟨_, pss_cons (ps_set (i := 4) scWith.nd rfl (.inl rfl) (pe_kx (E := E) cL hr (by decide) (by rfl) (takes_of rfl rfl rfl rfl) (pa_cons (pv 0) (pa_cons (pv 1) (pa_cons (pv 2) pa_nil)))))
      (pss_cons (ps_if (pt_not (pt_val (pe_k cP hr (by decide) (by rfl) (pa_cons (pv 3) pa_nil)))) (pss_one (ps_raiseLow rfl hB hr (takes_of rfl rfl rfl rfl) (by exact (pa_cons pe_int pa_nil)))) pss_nil)
      (pss_cons (ps_asg (pv 0) (pg_tup rfl (pgs_cons (pg_name (i := 5) scWith.nd rfl (.inl rfl)) (pgs_cons (pg_name (i := 6) scWith.nd rfl (.inl rfl)) pgs_nil))))
      (pss_cons (ps_asg (pe_ix ix_list (pv 6) (pv 4) (fun _ _ => rfl)) (pg_tup rfl (pgs_cons (pg_name (i := 7) scWith.nd rfl (.inl rfl)) (pgs_cons (pg_name (i := 8) scWith.nd rfl (.inl rfl)) (pgs_cons (pg_name (i := 9) scWith.nd rfl (.inl rfl)) (pgs_cons (pg_name (i := 10) scWith.nd rfl (.inl rfl)) pgs_nil))))))
      (pss_cons (ps_set (i := 11) scWith.nd rfl (.inl rfl) (pe_ifExp (pt_cmpR op_eq (pv 1) (pv 7) (nomark _)) (pe_tup (pa_cons (pv 7) (pa_cons (pv 8) (pa_cons (pv 3) (pa_cons (pv 10) pa_nil))))) (pe_tup (pa_cons (pv 7) (pa_cons (pv 8) (pa_cons (pv 9) (pa_cons (pv 3) pa_nil)))))))
      (pss_one (ps_ret (pe_tup (pa_cons (pv 5) (pa_cons (pe_op op_cat (pe_op op_cat (pe_slice sl_list (pv 6) po_none (po_some (pv 4))) (pe_lst (pa_cons (pv 11) pa_nil))) (pe_slice sl_list (pv 6) (po_some (pe_op op_add (pv 4) pe_int)) po_none)) pa_nil))))))))), ?_⟩
    obtain ⟨p, c, xs, rfl, hp, hc, hx⟩ := Dp.net_inv hN
    refine q_asgE ⟨.ref p, rfl, .int a, rfl, .int b, rfl, .ref p, a, b, N, rfl, hN, ?_⟩
    cases e : linkIx N a b with
    | noPlace x =>
      rw [e] at q
      exact q
    | noLink =>
      rw [e] at q
      exact q
    | here i =>
      rw [e] at q
      obtain ⟨l, hl, _⟩ := here_lt e
      have hi := (List.getElem?_eq_some_iff.mp hl).1
      show ∀ H', Same H H' → _
      intro H1 s1
      refine q_when (b := !priceB o) ?_ (fun hb => ?_) (fun hb => ?_)
      · exact an_not (an_B fun Q k => ⟨_, rfl, o, rfl, k⟩)
      · rw [Bool.not_eq_true'] at hb
        exact raise_now (va_cons vl_c va_nil) ((q.1 hb).to s1)
      · rw [Bool.not_eq_false'] at hb
        have q := q.2 hb l hl
        obtain ⟨v', ev, dv⟩ := DpAll.get (i := i) (d := lnkD l) hx (by
          rw [List.getElem?_map, hl]
          rfl)
        obtain ⟨tl, rfl, htl⟩ := Dp.lnk_inv dv
        refine q_asgT2 (vl_var rfl) (seqT s1 hp) ?_
        refine q_asgLnk (K := K) (vl_ixL (vl_var rfl) (vl_var rfl) (s1.seq hc) (atI_nat ev)) (seqT s1 htl) ?_
        refine q_asgE (if_tup (b := decide (V.int a = V.int l.a)) (zs := lnkV (setWay a o l)) (an_test (vl_eq (vl_var rfl) (vl_var rfl) rfl)) (va_cons (vl_var rfl) (va_cons (vl_var rfl) (va_cons (vl_var rfl) (va_cons (vl_var rfl) va_nil)))) (va_cons (vl_var rfl) (va_cons (vl_var rfl) (va_cons (vl_var rfl) (va_cons (vl_var rfl) va_nil)))) (fun h => ?_) (fun h => ?_) (by show 4 ≤ sizeLine; decide) fun T nT => ?_)
        · unfold setWay
          rw [if_pos (V.int.inj (of_decide_eq_true h))]
          rfl
        · unfold setWay
          rw [if_neg (fun z => of_decide_eq_false h (congrArg V.int z))]
          rfl
        have sT : Same H1 (upd H1 T (.tup (lnkV (setWay a o l)))) := same_upd nT
        have hcT := (s1.trans sT).seq hc
        have lx := DpAll.len hx
        rw [List.length_map] at lx
        have hil : i < xs.length := (List.getElem?_eq_some_iff.mp ev).1
        have small : ∀ n : Nat, n ≤ 10000 → n ≤ sizeLine := fun n h => Nat.le_trans h (by decide)
        have vTo : ∀ H', Same (upd H1 T (.tup (lnkV (setWay a o l)))) H' → Vn (tSl (rSlL K) (tVar 6) tNoPart (tPart (tVar 4))) [some (.ref p), some (.int a), some (.int b), some (oV o), some (.int i), some (.int N.n), some (.ref c), some (.int l.a), some (.int l.b), some (oV l.t), some (oV l.k), some (.ref T)] H' (xs.take i) := fun H' s' => by
          rw [← cut_to (Nat.le_of_lt hil)]
          exact vn_slice (vl_var rfl) (fun _ q => q) (fun _ q => ⟨_, rfl, _, rfl, q⟩) (s'.seq hcT)
        have vFr : ∀ H', Same (upd H1 T (.tup (lnkV (setWay a o l)))) H' → Vn (tSl (rSlL K) (tVar 6) (tPart (tOp (rI0 fun i j => .int (i + j)) (tVar 4) (tC (.int 1)))) tNoPart) [some (.ref p), some (.int a), some (.int b), some (oV o), some (.int i), some (.int N.n), some (.ref c), some (.int l.a), some (.int l.b), some (oV l.t), some (oV l.k), some (.ref T)] H' (xs.drop (i + 1)) := fun H' s' => by
          rw [← cut_from (n := i + 1) hil]
          exact vn_slice (vl_var rfl) (fun _ q => ⟨_, rfl, _, _, rfl, rfl, _, rfl, q⟩) (fun _ q => q) (s'.seq hcT)
        have lt1 : (xs.take i).length ≤ 1700 := by
          rw [List.length_take]
          omega
        have ld1 : (xs.drop (i + 1)).length ≤ 1700 := by
          rw [List.length_drop]
          omega
        refine ⟨.int N.n, rfl, ?_⟩
        refine (vn_cat (vn_cat (vTo _ (Same.refl _)) (fun H' s' => vn_lst (va_cons (vl_var rfl) va_nil) (small _ (show 1 ≤ 10000 by decide))) (small _ (by
          show _ + 1 ≤ 10000
          omega))) (fun H' s' => vFr H' s') (small _ (by
            rw [List.length_append]
            show _ + 1 + _ ≤ 10000
            omega))) _ fun L H6 s6 nL hL => ?_
        refine ⟨by show 2 ≤ sizeLine; decide, fun R nR => ?_⟩
        have sR : Same H6 (upd H6 R (.tup [.int N.n, .ref L])) := same_upd nR
        have sAll := (sT.trans s6).trans sR
        refine q _ _ (s1.trans sAll) ⟨R, L, _, rfl, upd_same, sR _ _ hL, ?_⟩
        show DpAll K _ _ ((N.ls.take i ++ [setWay a o l] ++ N.ls.drop (i + 1)).map lnkD)
        rw [List.map_append, List.map_append, List.map_take, List.map_drop]
        exact DpAll.app (DpAll.app (DpAll.to (DpAll.take i hx) (s1.trans sAll)) (DpAll.one (Dp.lnk (.of ((s6.trans sR) _ _ upd_same))))) (DpAll.to (DpAll.drop (i + 1) hx) (s1.trans sAll))
end
/-! ### nets with a thing spoilt -/
theorem chk_tail {n : Int} {ys : List Lnk} (h : ∀ p q, chk n p q ys = false) : ∀ (xs : List Lnk) (p q : Int), chk n p q (xs ++ ys) = false
  | [], p, q => h p q
  | x :: xs, p, q => by
    show (lnkB n p q x && chk n x.a x.b (xs ++ ys)) = false
    rw [chk_tail h xs, Bool.and_false]
theorem chk_bad {n : Int} {m : Lnk} (h : ∀ p q, lnkB n p q m = false) (xs ys : List Lnk) (p q : Int) : chk n p q (xs ++ [m] ++ ys) = false := by
  rw [List.append_assoc]
  refine chk_tail (fun p q => ?_) xs p q
  show (lnkB n p q m && chk n m.a m.b ys) = false
  rw [h, Bool.false_and]
theorem bad_place {n p q : Int} {m : Lnk} (h : ¬ (0 ≤ m.a ∧ m.a < m.b ∧ m.b < n)) : lnkB n p q m = false := by
  unfold lnkB
  rw [show (decide (0 ≤ m.a) && (decide (m.a < m.b) && decide (m.b < n))) = false by
    rw [Bool.eq_false_iff]
    intro e
    rw [Bool.and_eq_true, Bool.and_eq_true] at e
    exact h ⟨of_decide_eq_true e.1, of_decide_eq_true e.2.1, of_decide_eq_true e.2.2⟩]
  rfl
theorem bad_price {n p q : Int} {m : Lnk} (h : (priceB m.t && priceB m.k) = false) : lnkB n p q m = false := by
  unfold lnkB
  rw [h, Bool.and_false]
theorem isNet_bad {N : Net} (h : chk N.n 0 0 N.ls = false) : isNetB N = false := by
  unfold isNetB
  rw [h, Bool.and_false]
section
variable {K : PySem.W.Frag} {σ : L2.St} {H : Hp} {D : Ends} {t0 t1 te t3 : TE}
/-- te gives a tuple of zs, new or not -/
def Vt (K : PySem.W.Frag) (te : TE) (σ : L2.St) (H : Hp) (zs : List V) : Prop := ∀ Q : VK, (∀ T H', Same H H' → SqT K H' T zs → Q (.ref T) H') → te σ H Q
theorem vt_tup {tr : TA} {zs : List V} (h : Va tr σ H zs) (hz : zs.length ≤ sizeLine) : Vt K (tTup tr) σ H zs := fun Q q => h _ ⟨hz, fun T nT => q T _ (same_upd nT) (.of upd_same)⟩
theorem vt_ix {ta tb : TE} {a T : Addr} {xs zs : List V} {p : Int} (ha : Vl ta σ H (.ref a)) (hb : Vl tb σ H (.int p)) (h : SqL K H a xs) (hg : atI xs p = some (.ref T)) (hT : SqT K H T zs) : Vt K (tOp (rIxL K) ta tb) σ H zs := fun Q q =>
  vl_ixL ha hb h hg Q (q T H (Same.refl H) hT)
theorem ret_cat3 {n : Int} {ys zs : List V} {A B : List Lnk} {m : Lnk} (h0 : Vl t0 σ H (.int n)) (h1 : ∀ H', Same H H' → Vn t1 σ H' ys) (h2 : ∀ H', Same H H' → Vt K te σ H' (lnkV m)) (h3 : ∀ H', Same H H' → Vn t3 σ H' zs)
    (hy : DpAll K H ys (A.map lnkD)) (hz : DpAll K H zs (B.map lnkD)) (ly : ys.length ≤ 2000) (lz : zs.length ≤ 2000) (k : ∀ v' H', Same H H' → NetAt K H' v' ⟨n, A ++ [m] ++ B⟩ → D.rt v' H') :
    tRet (tTup (tCons t0 (tCons (tOp rCat (tOp rCat t1 (tLst (tCons te tNil))) t3) tNil))) D σ H := h0 _ (by
  have small : ∀ n : Nat, n ≤ 10000 → n ≤ sizeLine := fun n h => Nat.le_trans h (by decide)
  refine h1 H (Same.refl H) _ fun p1 H1 s1 n1 e1 => ?_
  refine h2 H1 s1 _ fun T H2 s2 hT => ⟨small 1 (by decide), fun p2 n2 => ?_⟩
  have sA : Same H2 (upd H2 p2 (.lst [.ref T])) := same_upd n2
  refine ⟨p1, p2, ys, [.ref T], rfl, rfl, sA _ _ (s2 _ _ e1), upd_same, small _ (by
    show ys.length + 1 ≤ 10000
    omega), fun p3 n3 => ?_⟩
  have sB : Same (upd H2 p2 (.lst [.ref T])) (upd (upd H2 p2 (.lst [.ref T])) p3 (.lst (ys ++ [.ref T]))) := same_upd n3
  have sHB := (s1.trans s2).trans (sA.trans sB)
  refine h3 _ sHB _ fun p4 H4 s4 n4 e4 => ?_
  refine ⟨p3, p4, ys ++ [.ref T], zs, rfl, rfl, s4 _ _ upd_same, e4, small _ (by
    rw [List.length_append]
    show ys.length + 1 + zs.length ≤ 10000
    omega), fun p5 n5 => ⟨small 2 (by decide), fun R nR => ?_⟩⟩
  have s5 : Same H4 (upd H4 p5 (.lst (ys ++ [.ref T] ++ zs))) := same_upd n5
  have s6 : Same (upd H4 p5 (.lst (ys ++ [.ref T] ++ zs))) (upd (upd H4 p5 (.lst (ys ++ [.ref T] ++ zs))) R (.tup [.int n, .ref p5])) := same_upd nR
  have sE := (s4.trans s5).trans s6
  refine k _ _ (sHB.trans sE) ⟨R, p5, _, rfl, upd_same, s6 _ _ upd_same, ?_⟩
  show DpAll K _ _ ((A ++ [m] ++ B).map lnkD)
  rw [List.map_append, List.map_append]
  exact DpAll.app (DpAll.app (DpAll.to hy (sHB.trans sE)) (DpAll.one (Dp.lnk (seqT ((sA.trans sB).trans sE) hT)))) (DpAll.to hz (sHB.trans sE)))
theorem ret_cat2 {n : Int} {c : Addr} {ys : List V} {A : List Lnk} {m : Lnk} (h0 : Vl t0 σ H (.int n)) (h1 : ∀ H', Same H H' → Vl t1 σ H' (.ref c)) (hc : H c = some (.lst ys)) (h2 : ∀ H', Same H H' → Vt K te σ H' (lnkV m))
    (hy : DpAll K H ys (A.map lnkD)) (ly : ys.length ≤ 2000) (k : ∀ v' H', Same H H' → NetAt K H' v' ⟨n, A ++ [m]⟩ → D.rt v' H') :
    tRet (tTup (tCons t0 (tCons (tOp rCat t1 (tLst (tCons te tNil))) tNil))) D σ H := h0 _ (by
  have small : ∀ n : Nat, n ≤ 10000 → n ≤ sizeLine := fun n h => Nat.le_trans h (by decide)
  refine h1 H (Same.refl H) _ (h2 H (Same.refl H) _ fun T H2 s2 hT => ⟨small 1 (by decide), fun p2 n2 => ?_⟩)
  have sA : Same H2 (upd H2 p2 (.lst [.ref T])) := same_upd n2
  refine ⟨c, p2, ys, [.ref T], rfl, rfl, sA _ _ (s2 _ _ hc), upd_same, small _ (by
    show ys.length + 1 ≤ 10000
    omega), fun p3 n3 => ⟨small 2 (by decide), fun R nR => ?_⟩⟩
  have sB : Same (upd H2 p2 (.lst [.ref T])) (upd (upd H2 p2 (.lst [.ref T])) p3 (.lst (ys ++ [.ref T]))) := same_upd n3
  have sC : Same (upd (upd H2 p2 (.lst [.ref T])) p3 (.lst (ys ++ [.ref T]))) (upd (upd (upd H2 p2 (.lst [.ref T])) p3 (.lst (ys ++ [.ref T]))) R (.tup [.int n, .ref p3])) := same_upd nR
  have sE := (sA.trans sB).trans sC
  refine k _ _ (s2.trans sE) ⟨R, p3, _, rfl, upd_same, sC _ _ upd_same, ?_⟩
  show DpAll K _ _ ((A ++ [m]).map lnkD)
  rw [List.map_append]
  exact DpAll.app (DpAll.to hy (s2.trans sE)) (DpAll.one (Dp.lnk (seqT sE hT))))
end
abbrev sSpoilt : Stmt := topS 22
theorem scSpoilt : FnScope ["draws", "net", "size", "links", "word", "cell", "place", "a", "b", "there", "back"] ["draws", "net"] (defScope sSpoilt) := ⟨rfl, rfl, rfl, by decide +kernel, rfl, by decide +kernel, by decide +kernel⟩
def spSpoilt (K : PySem.W.Frag) : Sp := fun vs H Q _ => ∃ (d : Addr) (ds : List Int) (v : V) (N : Net), vs = [.ref d, v] ∧ SqL K H d (ds.map V.int) ∧ NetAt K H v N ∧ NetOk N ∧
  ∀ H' v' M, Same H H' → Dp K H' v' (netD M) → isNetB M = false → Q v' H'
section
variable {P : Program} {w : World} {K : PySem.W.Frag} {mg : Str → Option Value} {base : Heap}
theorem ok_spoilt {f : Addr} {fd : FuncData} (F : Fun K "_law_spoilt" "_law_spoilt" sSpoilt f fd) (cA : Kal P w K mg base 1 "_law_at" ["draws", "k", "many"] (spAt K)) (mi : mg "int" = none) (ml : mg "len" = none) : FnOk P w K mg base CX0 2 f fd ["draws", "net"] (spSpoilt K) := by
  refine F.ok scSpoilt (fun vs H Q E h => ?_) (fun cdv A outer s H vs Q E hr h => ?_)
  · obtain ⟨d, ds, v, N, rfl, _⟩ := h
    rfl
  · obtain ⟨d, ds, v, N, rfl, hS, hN, ok, q⟩ := h
    refine ⟨_, pss_cons (ps_asg (pv 1) (pg_tup rfl (pgs_cons (pg_name (i := 2) scSpoilt.nd rfl (.inl rfl)) (pgs_cons (pg_name (i := 3) scSpoilt.nd rfl (.inl rfl)) pgs_nil))))
      (pss_cons (ps_set (i := 4) scSpoilt.nd rfl (.inl rfl) (pe_k cA hr (by decide) (by rfl) (pa_cons (pv 0) (pa_cons pe_int (pa_cons pe_int pa_nil)))))
      (pss_cons (ps_set (i := 5) scSpoilt.nd rfl (.inl rfl) (pe_k cA hr (by decide) (by rfl) (pa_cons (pv 0) (pa_cons pe_int (pa_cons pe_int pa_nil)))))
      (pss_cons (ps_if (pt_cmpR op_eq (pv 4) pe_int (nomark _)) (pss_one (ps_ret (pe_tup (pa_cons pe_int (pa_cons (pe_lst pa_nil) pa_nil))))) pss_nil)
      (pss_cons (ps_if (pt_cmpR op_eq (pv 4) pe_int (nomark _)) (pss_one (ps_ret (pe_tup (pa_cons (pe_op op_add pe_int (pe_op op_mod (pe_callTy call_int1 (by rfl) mi (by decide +kernel) (pa_cons (pv 5) pa_nil)) pe_int)) (pa_cons (pe_lst pa_nil) pa_nil))))) pss_nil)
      (pss_cons (ps_if (PW.pt (pw_or (pt_cmpR op_eq (pe_callB call_len_seq (by rfl) ml PySem.boot_len (pa_cons (pv 3) pa_nil)) pe_int (nomark _)) (pw_or1 (pt_cmpR op_eq (pv 4) pe_int (nomark _)))))
        (pss_one (ps_ret (pe_tup (pa_cons (pv 2) (pa_cons (pe_op op_cat (pv 3) (pe_lst (pa_cons (pe_tup (pa_cons (pe_op op_sub (pv 2) pe_int) (pa_cons (pe_op op_add (pv 2) (pe_op op_mod (pe_callTy call_int1 (by rfl) mi (by decide +kernel) (pa_cons (pv 5) pa_nil)) pe_int)) (pa_cons pe_int (pa_cons pe_int pa_nil))))) pa_nil))) pa_nil))))) pss_nil)
      (pss_cons (ps_set (i := 6) scSpoilt.nd rfl (.inl rfl) (pe_op op_mod (pe_callTy call_int1 (by rfl) mi (by decide +kernel) (pa_cons (pv 5) pa_nil)) (pe_callB call_len_seq (by rfl) ml PySem.boot_len (pa_cons (pv 3) pa_nil))))
      (pss_cons (ps_asg (pe_ix ix_list (pv 3) (pv 6) (fun _ _ => rfl)) (pg_tup rfl (pgs_cons (pg_name (i := 7) scSpoilt.nd rfl (.inl rfl)) (pgs_cons (pg_name (i := 8) scSpoilt.nd rfl (.inl rfl)) (pgs_cons (pg_name (i := 9) scSpoilt.nd rfl (.inl rfl)) (pgs_cons (pg_name (i := 10) scSpoilt.nd rfl (.inl rfl)) pgs_nil))))))
      (pss_cons (ps_if (pt_cmpR op_eq (pv 4) pe_int (nomark _)) (pss_one (ps_ret (pe_tup (pa_cons (pv 2) (pa_cons (pe_op op_cat (pe_op op_cat (pe_slice sl_list (pv 3) po_none (po_some (pv 6))) (pe_lst (pa_cons (pe_tup (pa_cons (pv 8) (pa_cons (pv 7) (pa_cons (pv 9) (pa_cons (pv 10) pa_nil))))) pa_nil))) (pe_slice sl_list (pv 3) (po_some (pe_op op_add (pv 6) pe_int)) po_none)) pa_nil))))) pss_nil)
      (pss_cons (ps_if (pt_cmpR op_eq (pv 4) pe_int (nomark _)) (pss_one (ps_ret (pe_tup (pa_cons (pv 2) (pa_cons (pe_op op_cat (pe_op op_cat (pe_slice sl_list (pv 3) po_none (po_some (pv 6))) (pe_lst (pa_cons (pe_ix ix_list (pv 3) (pv 6) (fun _ _ => rfl)) pa_nil))) (pe_slice sl_list (pv 3) (po_some (pv 6)) po_none)) pa_nil))))) pss_nil)
      (pss_cons (ps_if (pt_cmpR op_eq (pv 4) pe_int (nomark _)) (pss_one (ps_ret (pe_tup (pa_cons (pv 2) (pa_cons (pe_op op_cat (pe_op op_cat (pe_slice sl_list (pv 3) po_none (po_some (pv 6))) (pe_lst (pa_cons (pe_tup (pa_cons (pv 7) (pa_cons (pv 8)
            (pa_cons (pe_ix ix_list (pe_lst (pa_cons pe_int (pa_cons pe_int (pa_cons (pe_un un_neg pe_int) pa_nil)))) (pe_op op_mod (pe_callTy call_int1 (by rfl) mi (by decide +kernel) (pa_cons (pv 5) pa_nil)) pe_int) (fun _ _ => rfl)) (pa_cons (pv 10) pa_nil))))) pa_nil))) (pe_slice sl_list (pv 3) (po_some (pe_op op_add (pv 6) pe_int)) po_none)) pa_nil))))) pss_nil)
      (pss_cons (ps_if (pt_cmpR op_eq (pv 4) pe_int (nomark _)) (pss_one (ps_ret (pe_tup (pa_cons (pv 2) (pa_cons (pe_op op_cat (pe_op op_cat (pe_slice sl_list (pv 3) po_none (po_some (pv 6))) (pe_lst (pa_cons (pe_tup (pa_cons (pv 7) (pa_cons (pv 8) (pa_cons (pv 9)
            (pa_cons (pe_ix ix_list (pe_lst (pa_cons pe_int (pa_cons pe_int (pa_cons (pe_un un_neg pe_int) pa_nil)))) (pe_op op_mod (pe_callTy call_int1 (by rfl) mi (by decide +kernel) (pa_cons (pv 5) pa_nil)) pe_int) (fun _ _ => rfl)) pa_nil))))) pa_nil))) (pe_slice sl_list (pv 3) (po_some (pe_op op_add (pv 6) pe_int)) po_none)) pa_nil))))) pss_nil)
      (pss_one (ps_ret (pe_tup (pa_cons (pv 2) (pa_cons (pe_op op_cat (pe_op op_cat (pe_slice sl_list (pv 3) po_none (po_some (pv 6))) (pe_lst (pa_cons (pe_tup (pa_cons (pe_op op_sub (pe_un un_neg pe_int) (pe_op op_mod (pe_callTy call_int1 (by rfl) mi (by decide +kernel) (pa_cons (pv 5) pa_nil)) pe_int)) (pa_cons (pv 8) (pa_cons (pv 9) (pa_cons (pv 10) pa_nil))))) pa_nil))) (pe_slice sl_list (pv 3) (po_some (pe_op op_add (pv 6) pe_int)) po_none)) pa_nil)))))))))))))))), ?_⟩
    obtain ⟨p, c, xs, rfl, hp, hc, hx⟩ := hN
    have n1 := ok.n1
    have lx := DpAll.len hx
    rw [List.length_map] at lx
    have l16 := ok.len
    have hC : SqL K H c xs := .of hc
    refine q_asgT2 (vl_var rfl) (.of hp) ?_
    refine q_asgI (P := fun r => 0 ≤ r ∧ r < 8) (vi_call (va_cons (vl_var rfl) (va_cons vl_c (va_cons vl_c va_nil))) fun Q E q => ⟨d, ds, 0, 8, rfl, hS, by decide, by decide, q⟩) (fun wd _ => ?_)
    refine q_asgI (P := fun r => 0 ≤ r ∧ r < 60000) (vi_call (va_cons (vl_var rfl) (va_cons vl_c (va_cons vl_c va_nil))) fun Q E q => ⟨d, ds, 1, 60000, rfl, hS, by decide, by decide, q⟩) (fun ce hce => ?_)
    refine q_when (b := decide (V.int wd = V.int 0)) (by exact an_test (vl_eq (vl_var rfl) vl_c rfl)) (fun _ => ?_) (fun _ => ?_)
    · refine ⟨Nat.zero_le _, fun L nL => ⟨by show 2 ≤ sizeLine; decide, fun R nR => ?_⟩⟩
      have sL : Same H (upd H L (.lst [])) := same_upd nL
      have sR : Same (upd H L (.lst [])) (upd (upd H L (.lst [])) R (.tup [.int 0, .ref L])) := same_upd nR
      exact q _ _ ⟨0, []⟩ (sL.trans sR) (Dp.net (.of upd_same) (.of (sR _ _ upd_same)) .nil) rfl
    · refine q_when (b := decide (V.int wd = V.int 1)) (by exact an_test (vl_eq (vl_var rfl) vl_c rfl)) (fun _ => ?_) (fun _ => ?_)
      · refine (vl_I0 (vl_c (v := .int 41)) (vl_I (vl_int1 (vl_var (v := .int ce) rfl)) (vl_c (v := .int 5)) (show (0 : Int) < 5 by decide))) _ ?_
        refine ⟨Nat.zero_le _, fun L nL => ⟨by show 2 ≤ sizeLine; decide, fun R nR => ?_⟩⟩
        have sL : Same H (upd H L (.lst [])) := same_upd nL
        have sR : Same (upd H L (.lst [])) (upd (upd H L (.lst [])) R (.tup [.int (41 + ce % 5), .ref L])) := same_upd nR
        refine q _ _ ⟨41 + ce % 5, []⟩ (sL.trans sR) (Dp.net (.of upd_same) (.of (sR _ _ upd_same)) .nil) ?_
        show ((decide (1 ≤ 41 + ce % 5) && decide (41 + ce % 5 ≤ 40)) && true) = false
        rw [decide_eq_false (show ¬ 41 + ce % 5 ≤ 40 by omega), Bool.and_false]
        rfl
      · refine q_when (b := decide (V.int (xs.length : Int) = V.int 0) || decide (V.int wd = V.int 2)) ?_ (fun _ => ?_) (fun hb => ?_)
        · exact an_or (an_test (vl_eq (vl_lenL (vl_var rfl) hC) vl_c rfl)) fun _ => an_test (vl_eq (vl_var rfl) vl_c rfl)
        · refine ret_cat2 (m := ⟨N.n - 1, N.n + ce % 2, some 1, some 1⟩) (A := N.ls) (vl_var rfl) (fun _ _ => vl_var rfl) hc (fun H' s' => vt_tup (va_cons (vl_I0 (vl_var rfl) vl_c) (va_cons (vl_I0 (vl_var rfl) (vl_I (vl_int1 (vl_var rfl)) vl_c (show (0 : Int) < 2 by decide))) (va_cons vl_c (va_cons vl_c va_nil)))) (by show 4 ≤ sizeLine; decide)) hx (by omega) fun v' H' s' hn' => q _ _ _ s' hn'.dp (isNet_bad ?_)
          have := chk_bad (n := N.n) (m := ⟨N.n - 1, N.n + ce % 2, some 1, some 1⟩) (fun p q => bad_place (by
            show ¬ (0 ≤ N.n - 1 ∧ N.n - 1 < N.n + ce % 2 ∧ N.n + ce % 2 < N.n)
            omega)) N.ls [] 0 0
          rw [List.append_nil] at this
          exact this
        · rw [Bool.or_eq_false_iff] at hb
          have hx0 : 0 < xs.length := by
            have := of_decide_eq_false hb.1
            cases e : xs.length with
            | zero =>
              rw [e] at this
              exact absurd rfl this
            | succ n => exact Nat.succ_pos n
          refine q_asg (v := .int (ce % (xs.length : Int))) (vl_I (vl_int1 (vl_var rfl)) (vl_lenL (vl_var rfl) hC) (by omega)) ?_
          obtain ⟨i, hi⟩ : ∃ i : Nat, ce % (xs.length : Int) = (i : Int) := ⟨(ce % (xs.length : Int)).toNat, by
            have := Int.emod_nonneg ce (show (xs.length : Int) ≠ 0 by omega)
            omega⟩
          rw [hi]
          have hil : i < xs.length := by
            have := Int.emod_lt_of_pos ce (show (0 : Int) < xs.length by omega)
            omega
          have hg : N.ls[i]? = some N.ls[i] := List.getElem?_eq_getElem (by omega)
          generalize N.ls[i] = l at hg
          have hlo := ok.ok l (List.mem_of_getElem? hg)
          have a0 := hlo.a0
          have ab := hlo.ab
          have bn := hlo.bn
          obtain ⟨v', ev, dv⟩ := DpAll.get (i := i) (d := lnkD l) hx (by
            rw [List.getElem?_map, hg]
            rfl)
          obtain ⟨tl, rfl, htl⟩ := Dp.lnk_inv dv
          refine q_asgLnk (K := K) (vl_ixL (vl_var rfl) (vl_var rfl) hC (atI_nat ev)) htl ?_
          have lt1 : (xs.take i).length ≤ 2000 := by
            rw [List.length_take]
            omega
          have ld1 : (xs.drop (i + 1)).length ≤ 2000 := by
            rw [List.length_drop]
            omega
          have ld2 : (xs.drop i).length ≤ 2000 := by
            rw [List.length_drop]
            omega
          have vTo : ∀ H', Same H H' → Vn (tSl (rSlL K) (tVar 3) tNoPart (tPart (tVar 6))) [some (.ref d), some (.ref p), some (.int N.n), some (.ref c), some (.int wd), some (.int ce), some (.int i), some (.int l.a), some (.int l.b), some (oV l.t), some (oV l.k)] H' (xs.take i) := fun H' s' => by
            rw [← cut_to (Nat.le_of_lt hil)]
            exact vn_slice (vl_var rfl) (fun _ q => q) (fun _ q => ⟨_, rfl, _, rfl, q⟩) (s'.seq hC)
          have vFr : ∀ H', Same H H' → Vn (tSl (rSlL K) (tVar 3) (tPart (tOp (rI0 fun i j => .int (i + j)) (tVar 6) (tC (.int 1)))) tNoPart) [some (.ref d), some (.ref p), some (.int N.n), some (.ref c), some (.int wd), some (.int ce), some (.int i), some (.int l.a), some (.int l.b), some (oV l.t), some (oV l.k)] H' (xs.drop (i + 1)) := fun H' s' => by
            rw [← cut_from (n := i + 1) hil]
            exact vn_slice (vl_var rfl) (fun _ q => ⟨_, rfl, _, _, rfl, rfl, _, rfl, q⟩) (fun _ q => q) (s'.seq hC)
          have vFi : ∀ H', Same H H' → Vn (tSl (rSlL K) (tVar 3) (tPart (tVar 6)) tNoPart) [some (.ref d), some (.ref p), some (.int N.n), some (.ref c), some (.int wd), some (.int ce), some (.int i), some (.int l.a), some (.int l.b), some (oV l.t), some (oV l.k)] H' (xs.drop i) := fun H' s' => by
            rw [← cut_from (n := i) (Nat.le_of_lt hil)]
            exact vn_slice (vl_var rfl) (fun _ q => ⟨_, rfl, _, rfl, q⟩) (fun _ q => q) (s'.seq hC)
          have dTo : DpAll K H (xs.take i) ((N.ls.take i).map lnkD) := by
            rw [List.map_take]
            exact DpAll.take i hx
          have dFr : DpAll K H (xs.drop (i + 1)) ((N.ls.drop (i + 1)).map lnkD) := by
            rw [List.map_drop]
            exact DpAll.drop (i + 1) hx
          have dFi : DpAll K H (xs.drop i) ((N.ls.drop i).map lnkD) := by
            rw [List.map_drop]
            exact DpAll.drop i hx
          have fin : ∀ m : Lnk, (∀ p q, lnkB N.n p q m = false) → ∀ v' H', Same H H' → NetAt K H' v' ⟨N.n, N.ls.take i ++ [m] ++ N.ls.drop (i + 1)⟩ → Q v' H' := fun m hm v' H' s' hn' => q _ _ _ s' hn'.dp (isNet_bad (chk_bad hm _ _ 0 0))
          have badP : ∀ x : Int, x ∈ [(0 : Int), 1000001, -7] → priceB (some x) = false := fun x hx => by
            simp only [List.mem_cons, List.not_mem_nil, or_false] at hx
            rcases hx with e | e | e <;> subst e <;> rfl
          refine q_when (b := decide (V.int wd = V.int 3)) (by exact an_test (vl_eq (vl_var rfl) vl_c rfl)) (fun _ => ?_) (fun _ => ?_)
          · exact ret_cat3 (m := ⟨l.b, l.a, l.t, l.k⟩) (vl_var rfl) vTo (fun H' s' => vt_tup (va_cons (vl_var rfl) (va_cons (vl_var rfl) (va_cons (vl_var rfl) (va_cons (vl_var rfl) va_nil)))) (by show 4 ≤ sizeLine; decide)) vFr dTo dFr lt1 ld1 (fin _ fun p q => bad_place (by
              show ¬ (0 ≤ l.b ∧ l.b < l.a ∧ l.a < N.n)
              omega))
          · refine q_when (b := decide (V.int wd = V.int 4)) (by exact an_test (vl_eq (vl_var rfl) vl_c rfl)) (fun _ => ?_) (fun _ => ?_)
            · refine ret_cat3 (m := l) (vl_var rfl) vTo (fun H' s' => vt_ix (vl_var rfl) (vl_var rfl) (s'.seq hC) (atI_nat ev) (seqT s' htl)) vFi dTo dFi lt1 ld2 fun v' H' s' hn' => q _ _ _ s' hn'.dp (isNet_bad ?_)
              show chk N.n 0 0 (N.ls.take i ++ [l] ++ N.ls.drop i) = false
              rw [List.append_assoc]
              refine chk_tail (fun p q => ?_) _ 0 0
              rw [List.drop_eq_getElem_cons (by omega), (List.getElem?_eq_some_iff.mp hg).2]
              show (lnkB N.n p q l && (lnkB N.n l.a l.b l && chk N.n l.a l.b (N.ls.drop (i + 1)))) = false
              rw [show lnkB N.n l.a l.b l = false by
                unfold lnkB
                rw [decide_eq_true (show l.a < l.a ∨ (l.a = l.a ∧ l.b ≤ l.b) from .inr ⟨rfl, Int.le_refl _⟩)]
                simp, Bool.false_and, Bool.and_false]
            · have r0 : 0 ≤ ce % 3 := Int.emod_nonneg _ (by decide)
              have r1 : ce % 3 < 3 := Int.emod_lt_of_pos _ (by decide)
              obtain ⟨z, gz, hz⟩ := at_int (ds := [0, 1000001, -7]) (k := ce % 3) r0 (by show ce % 3 < 3; omega)
              refine q_when (b := decide (V.int wd = V.int 5)) (by exact an_test (vl_eq (vl_var rfl) vl_c rfl)) (fun _ => ?_) (fun _ => ?_)
              · refine ret_cat3 (m := ⟨l.a, l.b, some z, l.k⟩) (vl_var rfl) vTo (fun H' s' Q q => ⟨.int l.a, rfl, .int l.b, rfl, 7, rfl, by show 3 ≤ sizeLine; decide, fun L nL => ?_⟩) vFr dTo dFr lt1 ld1 (fin _ fun p q => bad_price (by
                  show (priceB (some z) && _) = false
                  rw [badP z (List.mem_of_getElem? hz)]
                  rfl))
                refine (vl_I (vl_int1 (vl_var rfl)) vl_c (by decide)) _ ?_
                refine ⟨L, _, _, _, rfl, rfl, .inl (.inl upd_same), gz, oV l.k, rfl, by show 4 ≤ sizeLine; decide, fun T nT => ?_⟩
                exact q T _ ((same_upd nL).trans (same_upd nT)) (.of upd_same)
              · refine q_when (b := decide (V.int wd = V.int 6)) (by exact an_test (vl_eq (vl_var rfl) vl_c rfl)) (fun _ => ?_) (fun _ => ?_)
                · refine ret_cat3 (m := ⟨l.a, l.b, l.t, some z⟩) (vl_var rfl) vTo (fun H' s' Q q => ⟨.int l.a, rfl, .int l.b, rfl, oV l.t, rfl, 7, rfl, by show 3 ≤ sizeLine; decide, fun L nL => ?_⟩) vFr dTo dFr lt1 ld1 (fin _ fun p q => bad_price (by
                    show (_ && priceB (some z)) = false
                    rw [badP z (List.mem_of_getElem? hz), Bool.and_false]))
                  refine (vl_I (vl_int1 (vl_var rfl)) vl_c (by decide)) _ ?_
                  refine ⟨L, _, _, _, rfl, rfl, .inl (.inl upd_same), gz, by show 4 ≤ sizeLine; decide, fun T nT => ?_⟩
                  exact q T _ ((same_upd nL).trans (same_upd nT)) (.of upd_same)
                · exact ret_cat3 (m := ⟨-1 - ce % 2, l.b, l.t, l.k⟩) (vl_var rfl) vTo (fun H' s' => vt_tup (va_cons (vl_I0 (vl_neg vl_c) (vl_I (vl_int1 (vl_var rfl)) vl_c (show (0 : Int) < 2 by decide))) (va_cons (vl_var rfl) (va_cons (vl_var rfl) (va_cons (vl_var rfl) va_nil)))) (by show 4 ≤ sizeLine; decide)) vFr dTo dFr lt1 ld1 (fin _ fun p q => bad_place (by
                    show ¬ (0 ≤ -1 - ce % 2 ∧ _ ∧ _)
                    omega))
end
/-! ### what is due -/
section
variable {K : PySem.W.Frag} {σ : L2.St} {H : Hp} {te te2 : TE}
theorem vt_ref {T : Addr} {zs : List V} (h : Vl te σ H (.ref T)) (hT : SqT K H T zs) : Vt K te σ H zs := fun Q q => h _ (q T H (Same.refl H) hT)
/-- t[:2] of a link -/
theorem vt_cut2 {T : Addr} {l : Lnk} (h : Vl te σ H (.ref T)) (hT : SqT K H T (lnkV l)) : Vt K (tSl (rSlT K) te tNoPart (tPart (tC (.int 2)))) σ H [.int l.a, .int l.b] := fun Q q =>
  h _ ⟨2, rfl, T, lnkV l, rfl, hT, fun z => by
    have := z.2
    rw [show HT.sIx (lnkV l).length (lnkV l).length (some 2) = min 2 4 from HT.sIx_nat 4 4 2] at this
    exact absurd (show (2 : Nat) = 4 from this) (by decide), fun p np => by
    have e : cutV (lnkV l) none (some 2) = [.int l.a, .int l.b] := cut_to (xs := lnkV l) (n := 2) (by show 2 ≤ 4; decide)
    rw [e]
    exact q p _ (same_upd np) (.of upd_same)⟩
theorem ax_eqVt {p q r s : Int} (h1 : Vt K te σ H [.int p, .int q]) (h2 : ∀ H', Same H H' → Vt K te2 σ H' [.int r, .int s]) : Ax (tTest (tOp (rEqD K) te te2)) σ H (decide (p = r ∧ q = s)) := fun Q k =>
  h1 _ fun T H1 s1 e1 => h2 H1 s1 _ fun S H2 s2 e2 => by
    refine ⟨.tuple [.int p, .int q], .tuple [.int r, .int s], .tup (seqT s2 e1) (.cons (.int _) (.cons (.int _) .nil)), .tup e2 (.cons (.int _) (.cons (.int _) .nil)), by rfl, by rfl, _, rfl, ?_⟩
    rw [show PyData.eqv (.tuple [.int p, .int q]) (.tuple [.int r, .int s]) = decide (p = r ∧ q = s) by
      show (p == r && (q == s && true)) = _
      rw [Bool.and_true, Bool.eq_iff_iff]
      simp]
    exact k _ (s1.trans s2)
end
def pairD (x : Str) (d : PyData) : PyData := .tuple [.str x, d]
def dueD (N : Net) (a b : Int) (o : Option Int) : PyData :=
  match linkIx N a b with
  | .noPlace x => pairD "place" (.int x)
  | .noLink => pairD "none" (.int 0)
  | .here i => if priceB o = true then pairD "link" (match N.ls[i]? with
      | none => .none
      | some l => oD (if b < a then l.k else l.t)) else pairD "price" (.int 0)
abbrev sDue : Stmt := topS 23
abbrev sChanged : Stmt := topS 26
theorem scDue : FnScope ["net", "a", "b", "value", "place", "link"] ["net", "a", "b", "value"] (defScope sDue) := ⟨rfl, rfl, rfl, by decide +kernel, rfl, by decide +kernel, by decide +kernel⟩
theorem scChanged : FnScope ["net", "a", "b", "value", "links", "link"] ["net", "a", "b", "value"] (defScope sChanged) := ⟨rfl, rfl, rfl, by decide +kernel, rfl, by decide +kernel, by decide +kernel⟩
def spDue (K : PySem.W.Frag) : Sp := fun vs H Q _ => ∃ (v : V) (a b : Int) (o : Option Int) (N : Net), vs = [v, .int a, .int b, oV o] ∧ Dp K H v (netD N) ∧ ∀ H' v', Same H H' → Dp K H' v' (dueD N a b o) → Q v' H'
def chg (a b : Int) (o : Option Int) (l : Lnk) : Lnk := if l.a = a ∧ l.b = b then ⟨a, b, o, l.k⟩ else if l.a = b ∧ l.b = a then ⟨b, a, l.t, o⟩ else l
def spChanged (K : PySem.W.Frag) : Sp := fun vs H Q _ => ∃ (v : V) (a b : Int) (o : Option Int) (N : Net), vs = [v, .int a, .int b, oV o] ∧ Dp K H v (netD N) ∧ N.ls.length ≤ 1700 ∧ ∀ H' v', Same H H' → Dp K H' v' (netD ⟨N.n, N.ls.map (chg a b o)⟩) → Q v' H'
theorem ret_pair {K : PySem.W.Frag} {σ : L2.St} {H : Hp} {D : Ends} {te : TE} {x : Str} {v : V} {d : PyData} (h : Vl te σ H v) (hd : Dp K H v d) (k : ∀ p H', Same H H' → Dp K H' (.ref p) (pairD x d) → D.rt (.ref p) H') :
    tRet (tTup (tCons (tC (.str x)) (tCons te tNil))) D σ H := h _ ⟨by show 2 ≤ sizeLine; decide, fun p np => k p _ (same_upd np) (.tup (.of upd_same) (.cons (.str x) (.cons (Dp.to hd (same_upd np)) .nil)))⟩
section
variable {P : Program} {w : World} {K : PySem.W.Frag} {mg : Str → Option Value} {base : Heap}
theorem ok_due {f : Addr} {fd : FuncData} {k : Nat} (F : Fun K "_law_due" "_law_due" sDue f fd) (mm : mg "min" = none) (mx : mg "max" = none) (mi : mg "int" = none) : FnOk P w K mg base CX0 (k + 1) f fd ["net", "a", "b", "value"] (spDue K) := by
  refine F.ok scDue (fun vs H Q E h => ?_) (fun cdv A outer s H vs Q E hr h => ?_)
  · obtain ⟨v, a, b, o, N, rfl, _⟩ := h
    rfl
  · obtain ⟨v, a, b, o, N, rfl, hN, q⟩ := h
    refine ⟨_, pss_cons (ps_for PassesOwn.never rfl (pi_list (pe_lst (pa_cons (pv 1) (pa_cons (pv 2) pa_nil)))) (pg_name (i := 4) scDue.nd rfl (.inl rfl))
        (pss_one (ps_if (pt_not (pt_chain op_le op_lt pe_int (pv 4) (pe_ix ix_tup (pv 0) pe_int (fun _ _ => rfl)))) (pss_one (ps_ret (pe_tup (pa_cons pe_str (pa_cons (pv 4) pa_nil))))) pss_nil)))
      (pss_cons (ps_for PassesOwn.never rfl (pi_list (pe_ix ix_tup (pv 0) pe_int (fun _ _ => rfl))) (pg_name (i := 5) scDue.nd rfl (.inl rfl))
        (pss_one (ps_if (pt_cmpR (op_eqD hr.units) (pe_slice sl_tup (pv 5) po_none (po_some pe_int)) (pe_tup (pa_cons (pe_callB (call_min2 rfl) (by rfl) mm (by decide +kernel) (pa_cons (pv 1) (pa_cons (pv 2) pa_nil))) (pa_cons (pe_callB (call_max2 rfl) (by rfl) mx (by decide +kernel) (pa_cons (pv 1) (pa_cons (pv 2) pa_nil))) pa_nil))) (nomark _))
          (pss_cons (ps_if (PW.pt (pw_and (pt_cmpR op_notN (pv 3) pe_non (nomark _)) (pw_and1 (pt_not (pt_chain op_le op_le pe_int (pv 3) pe_int))))) (pss_one (ps_ret (pe_tup (pa_cons pe_str (pa_cons pe_int pa_nil))))) pss_nil)
          (pss_one (ps_ret (pe_tup (pa_cons pe_str (pa_cons (pe_ix ix_tup (pv 5) (pe_op op_add pe_int (pe_callTy call_int1 (by rfl) mi (by decide +kernel) (pa_cons (pe_cmpR op_gt (pv 1) (pv 2) (nomark _)) pa_nil))) (fun _ _ => rfl)) pa_nil)))))) pss_nil)))
      (pss_one (ps_ret (pe_tup (pa_cons pe_str (pa_cons pe_int pa_nil)))))), ?_⟩
    obtain ⟨p, c, xs, rfl, hp, hc, hx⟩ := Dp.net_inv hN
    refine ⟨.int a, rfl, .int b, rfl, by show 2 ≤ sizeLine; decide, fun T nT => ⟨T, rfl, ⟨_, .of upd_same⟩, for_list (xs := [.int a, .int b])
      (fun i σ H3 => ∃ y4, σ = [some (.ref p), some (.int a), some (.int b), some (oV o), y4, none] ∧ Same (upd H T (.lst [.int a, .int b])) H3 ∧ ∀ j x, j < i → [a, b][j]? = some x → 0 ≤ x ∧ x < N.n)
      ⟨none, rfl, Same.refl _, fun j x hj => absurd hj (Nat.not_lt_zero _)⟩ (fun i σ H3 _ hP => ?_) (fun i x σ H3 hi hP => ?_) (fun σ H3 hP => ?_)⟩⟩
    · obtain ⟨_, _, s3, _⟩ := hP
      exact .of (s3 _ _ upd_same)
    · obtain ⟨y4, rfl, s3, hin⟩ := hP
      have h3 : Same H H3 := (same_upd nT).trans s3
      obtain ⟨z, hz, rfl⟩ : ∃ z, [a, b][i]? = some z ∧ x = .int z := by
        have e : ([a, b].map V.int)[i]? = some x := hi
        rw [List.getElem?_map] at e
        cases ez : [a, b][i]? with
        | none =>
          rw [ez] at e
          cases e
        | some z =>
          rw [ez] at e
          exact ⟨z, rfl, (Option.some.inj e).symm⟩
      refine g_when (b := !(decide ((0 : Int) ≤ z) && decide (z < N.n))) ?_ (fun hb => ?_) (fun hb => ?_)
      · exact an_not (an_test (vl_chainI vl_c (vl_var rfl) (vl_ixT (vl_var rfl) vl_c (seqT h3 hp) (atI_nat (j := 0) rfl))))
      · have hz0 : ¬ (0 ≤ z ∧ z < N.n) := fun h => by
          rw [decide_eq_true h.1, decide_eq_true h.2] at hb
          cases hb
        have e : linkIx N a b = .noPlace z := by
          unfold linkIx
          match i, hz with
          | 0, hz =>
            cases hz
            rw [if_neg hz0]
          | 1, hz =>
            have h0 := hin 0 a (by decide) rfl
            cases hz
            rw [if_pos h0, if_neg hz0]
        unfold dueD at q
        rw [e] at q
        exact ret_pair (K := K) (vl_var rfl) (.int z) fun p H' s' d' => q H' _ (h3.trans s') d'
      · rw [Bool.not_eq_false', Bool.and_eq_true] at hb
        refine ⟨_, rfl, s3, fun j y hj hy => ?_⟩
        by_cases e : j = i
        · subst e
          rw [hz] at hy
          cases hy
          exact ⟨of_decide_eq_true hb.1, of_decide_eq_true hb.2⟩
        · exact hin j y (by omega) hy
    · obtain ⟨y4, rfl, s3, hin⟩ := hP
      have h3 : Same H H3 := (same_upd nT).trans s3
      have ha := hin 0 a (by show 0 < 2; decide) rfl
      have hb := hin 1 b (by show 1 < 2; decide) rfl
      have e1 : linkIx N a b = (match N.ls.findIdx? (atEnds a b) with
          | none => .noLink
          | some i => .here i) := by
        unfold linkIx
        exact (if_pos ha).trans (if_pos hb)
      unfold dueD at q
      rw [e1] at q
      refine q_forLk (j := 5) (Hb := H) (vl_ixT (vl_var rfl) vl_c (seqT h3 hp) (atI_nat (j := 1) rfl)) hc hx h3
        (fun i σ H4 => ∃ y5, σ = [some (.ref p), some (.int a), some (.int b), some (oV o), y4, y5] ∧ Same H H4 ∧ ∀ m ∈ N.ls.take i, atEnds a b m = false)
        ⟨none, rfl, h3, fun m hm => (nomatch hm)⟩ (fun i σ H4 hP => ?_) (fun i l t σ H4 hg ht hP => ?_) (fun σ H4 hP => ?_)
      · obtain ⟨_, _, s4, _⟩ := hP
        exact s4
      · obtain ⟨y5, rfl, s4, hno⟩ := hP
        refine g_whenx (b := atEnds a b l) ?_ (fun hb H7 s7 => ?_) (fun hb H7 s7 => ?_)
        · exact ax_eqVt (vt_cut2 (vl_var rfl) (seqT s4 ht)) fun H' s' => vt_tup (va_cons (vl_min2 (vl_var rfl) (vl_var rfl)) (va_cons (vl_max2 (vl_var rfl) (vl_var rfl)) va_nil)) (by show 2 ≤ sizeLine; decide)
        · have e2 := findIdx_take hg hno hb
          rw [e2] at q
          refine q_when (b := !priceB o) ?_ (fun hb => ?_) (fun hb => ?_)
          · cases o with
            | none => exact (an_and (k := false) (an_test ((vl_notN (vl_var rfl)).is rfl)) (fun e => nomatch e) (m := false)).is rfl
            | some z => exact (an_and (k := true) (an_test ((vl_notN (vl_var rfl)).is rfl)) fun _ => an_not (an_test (vl_chainI vl_c (vl_var rfl) vl_c))).is rfl
          · have hb : priceB o = false := by rw [Bool.not_eq_true'] at hb; exact hb
            have q' := q
            simp only [hb] at q'
            exact ret_pair (K := K) vl_c (.int 0) fun p H' s' d' => q' H' _ ((s4.trans s7).trans s') d'
          · have hb : priceB o = true := by rw [Bool.not_eq_false'] at hb; exact hb
            have q' := q
            simp only [hb, hg] at q'
            have htt := seqT (s4.trans s7) ht
            have vix : Vl (tOp (rIxT K) (tVar 5) (tOp (rI0 fun i j => .int (i + j)) (tC (.int 2)) (tCB (fun xs H Q => (∃ i, xs = [V.int i] ∧ Q (V.int i) H) ∨ ∃ k, xs = [V.bl k] ∧ Q (V.int (if k then 1 else 0)) H) (tCons (tOp (rI0 fun i j => .bl (decide (j < i))) (tVar 1) (tVar 2)) tNil))))
                [some (.ref p), some (.int a), some (.int b), some (oV o), y4, some (.ref t)] H7 (oV (if b < a then l.k else l.t)) := by
              refine vl_ixT (vl_var rfl) (vl_I0 vl_c (vl_int1b (vl_I0 (vl_var rfl) (vl_var rfl)))) htt ?_
              by_cases hc : b < a
              · rw [if_pos hc, decide_eq_true hc]
                exact atI_nat (j := 3) rfl
              · rw [if_neg hc, decide_eq_false hc]
                exact atI_nat (j := 2) rfl
            exact ret_pair (K := K) vix (Dp.o _) fun p H' s' d' => q' H' _ ((s4.trans s7).trans s') d'
        · refine ⟨_, rfl, s4.trans s7, fun m hm => ?_⟩
          rw [take_snoc hg] at hm
          rcases List.mem_append.mp hm with h' | h'
          · exact hno m h'
          · rw [List.mem_singleton.mp h']
            exact hb
      · obtain ⟨y5, rfl, s4, hno⟩ := hP
        rw [List.take_length] at hno
        have e2 : N.ls.findIdx? (atEnds a b) = none := List.findIdx?_eq_none_iff.mpr hno
        rw [e2] at q
        exact ret_pair (K := K) vl_c (.int 0) fun p H' s' d' => q H' _ (s4.trans s') d'
theorem ok_changed {f : Addr} {fd : FuncData} {k : Nat} (F : Fun K "_law_changed" "_law_changed" sChanged f fd) : FnOk P w K mg base CX0 (k + 1) f fd ["net", "a", "b", "value"] (spChanged K) := by
  refine F.ok scChanged (fun vs H Q E h => ?_) (fun cdv A outer s H vs Q E hr h => ?_)
  · obtain ⟨v, a, b, o, N, rfl, _⟩ := h
    rfl
  · obtain ⟨v, a, b, o, N, rfl, hN, hlen, q⟩ := h
    refine ⟨_, pss_cons (ps_set (i := 4) scChanged.nd rfl (.inl rfl) (pe_lst pa_nil))
      (pss_cons (ps_for PassesOwn.never rfl (pi_list (pe_ix ix_tup (pv 0) pe_int (fun _ _ => rfl))) (pg_name (i := 5) scChanged.nd rfl (.inl rfl))
        (Evl.pss_cut (ps_if (pt_cmpR (op_eqD hr.units) (pe_slice sl_tup (pv 5) po_none (po_some pe_int)) (pe_tup (pa_cons (pv 1) (pa_cons (pv 2) pa_nil))) (nomark _))
          (pss_one (ps_set (i := 5) scChanged.nd rfl (.inl rfl) (pe_tup (pa_cons (pv 1) (pa_cons (pv 2) (pa_cons (pv 3) (pa_cons (pe_ix ix_tup (pv 5) pe_int (fun _ _ => rfl)) pa_nil)))))))
          (pss_one (ps_if (pt_cmpR (op_eqD hr.units) (pe_slice sl_tup (pv 5) po_none (po_some pe_int)) (pe_tup (pa_cons (pv 2) (pa_cons (pv 1) pa_nil))) (nomark _))
            (pss_one (ps_set (i := 5) scChanged.nd rfl (.inl rfl) (pe_tup (pa_cons (pv 2) (pa_cons (pv 1) (pa_cons (pe_ix ix_tup (pv 5) pe_int (fun _ _ => rfl)) (pa_cons (pv 3) pa_nil))))))) pss_nil)))
        (pss_one (ps_expr (pe_bm PySem.F.plainAttrs_list PySem.F.slot_list_append PySem.F.type_list_append mt_append (pv 4) (pa_cons (pv 5) pa_nil))))))
      (pss_one (ps_ret (pe_tup (pa_cons (pe_ix ix_tup (pv 0) pe_int (fun _ _ => rfl)) (pa_cons (pv 4) pa_nil)))))), ?_⟩
    obtain ⟨p, c, xs, rfl, hp, hc, hx⟩ := Dp.net_inv hN
    refine q_lnew fun O nO => ?_
    refine q_forLk (j := 5) (Hb := H) (vl_ixT (vl_var rfl) vl_c (seqT (same_upd nO) hp) (atI_nat (j := 1) rfl)) hc hx (same_upd nO)
      (fun i σ H3 => ∃ y5 ys, σ = [some (.ref p), some (.int a), some (.int b), some (oV o), some (.ref O), y5] ∧ H3 O = some (.lst ys) ∧ Same H (but H3 O) ∧ DpAll K (but H3 O) ys (((N.ls.take i).map (chg a b o)).map lnkD))
      ⟨none, [], rfl, upd_same, same_but (same_upd nO) nO, .nil⟩ (fun i σ H3 hP => ?_) (fun i l t σ H3 hg ht hP => ?_) (fun σ H3 hP => ?_)
    · obtain ⟨_, _, _, _, s3, _⟩ := hP
      exact s3.trans but_same
    · obtain ⟨y5, ys, rfl, hO, s3, hy⟩ := hP
      have h3 : Same H H3 := s3.trans but_same
      have hi := (List.getElem?_eq_some_iff.mp hg).1
      refine q_cut (M := fun σ' H' => ∃ T, σ' = [some (.ref p), some (.int a), some (.int b), some (oV o), some (.ref O), some (.ref T)] ∧ Same H3 H' ∧ SqT K (but H' O) T (lnkV (chg a b o l))) ?_ ?_
      · refine g_ifx (b := decide (l.a = a ∧ l.b = b)) ?_ (fun hb H4 s4 => ?_) (fun hb H4 s4 => ?_)
        · exact ax_eqVt (vt_cut2 (vl_var rfl) (seqT h3 ht)) fun H' s' => vt_tup (va_cons (vl_var rfl) (va_cons (vl_var rfl) va_nil)) (by show 2 ≤ sizeLine; decide)
        · have hb := of_decide_eq_true hb
          refine g_asgTup (va_cons (vl_var rfl) (va_cons (vl_var rfl) (va_cons (vl_var rfl) (va_cons (vl_ixT (vl_var rfl) vl_c (seqT (h3.trans s4) ht) (atI_nat (j := 3) rfl)) va_nil)))) (by show 4 ≤ sizeLine; decide) fun T nT => ?_
          have hne : T ≠ O := (ne_of_none (s4 _ _ hO) nT).symm
          refine ⟨T, rfl, s4.trans (same_upd nT), .of ?_⟩
          rw [but_ne hne, upd_same]
          unfold chg
          rw [if_pos hb]
          rfl
        · have hb := of_decide_eq_false hb
          refine g_ifx (b := decide (l.a = b ∧ l.b = a)) ?_ (fun hb2 H5 s5 => ?_) (fun hb2 H5 s5 => ?_)
          · exact ax_eqVt (vt_cut2 (vl_var rfl) (seqT (h3.trans s4) ht)) fun H' s' => vt_tup (va_cons (vl_var rfl) (va_cons (vl_var rfl) va_nil)) (by show 2 ≤ sizeLine; decide)
          · have hb2 := of_decide_eq_true hb2
            refine g_asgTup (va_cons (vl_var rfl) (va_cons (vl_var rfl) (va_cons (vl_ixT (vl_var rfl) vl_c (seqT ((h3.trans s4).trans s5) ht) (atI_nat (j := 2) rfl)) (va_cons (vl_var rfl) va_nil)))) (by show 4 ≤ sizeLine; decide) fun T nT => ?_
            have hne : T ≠ O := (ne_of_none (s5 _ _ (s4 _ _ hO)) nT).symm
            refine ⟨T, rfl, (s4.trans s5).trans (same_upd nT), .of ?_⟩
            rw [but_ne hne, upd_same]
            unfold chg
            rw [if_neg hb, if_pos hb2]
            rfl
          · have hb2 := of_decide_eq_false hb2
            refine ⟨t, rfl, s4.trans s5, seqT (s3.trans (but_mono (s4.trans s5))) ?_⟩
            unfold chg
            rw [if_neg hb, if_neg hb2]
            exact ht
      · rintro σ' H' ⟨T, rfl, s', hT⟩
        refine g_app (vl_var rfl) (s' _ _ hO) (vl_var rfl) ?_ ?_
        · rw [DpAll.len hy, List.length_map, List.length_map, List.length_take]
          exact Nat.lt_of_le_of_lt (m := 10000) (by omega) (by decide)
        · refine ⟨_, _, rfl, upd_same, ?_, ?_⟩
          · rw [but_upd]
            exact s3.trans (but_mono s')
          · rw [but_upd, take_snoc hg, List.map_append, List.map_append]
            exact DpAll.app (DpAll.to hy (but_mono s')) (DpAll.one (Dp.lnk hT))
    · obtain ⟨y5, ys, rfl, hO, s3, hy⟩ := hP
      rw [List.take_length] at hy
      have h3 : Same H H3 := s3.trans but_same
      refine (vl_ixT (K := K) (vl_var rfl) vl_c (seqT h3 hp) (atI_nat (j := 0) rfl)) _ ?_
      refine ⟨.ref O, rfl, by show 2 ≤ sizeLine; decide, fun R nR => ?_⟩
      have sR : Same H3 (upd H3 R (.tup [.int N.n, .ref O])) := same_upd nR
      exact q _ _ (h3.trans sR) (Dp.net (N := ⟨N.n, N.ls.map (chg a b o)⟩) (.of upd_same) (.of (sR _ _ hO)) (DpAll.to hy (but_same.trans sR)))
end
/-! ### errors that are caught -/
theorem same_xd {H : Hp} {d : Addr} {v : V} (n : H d = none) : Same H (upd H d (.xd [("at", v)])) := same_upd n
theorem vl_byLow {C a d : Addr} {te : TE} {σ : L2.St} {H : Hp} {v : V} (h : Vl te σ H (.ref a)) (hd : H d = some (.xd [("at", v)])) : Vl (tByLow C a (.ref C) (some d) te) σ H v := fun Q q => h _ ⟨rfl, rfl, d, v, rfl, hd, q⟩
def toldD (N : Net) (a b : Int) (o : Option Int) (new : Bool) : PyData :=
  match linkIx N a b with
  | .noPlace x => pairD "place" (.int x)
  | .noLink => pairD "none" (.int 0)
  | .here i => match N.ls[i]? with
    | none => .none
    | some l => if new = true then (if priceB o = true then pairD "net" (netD (setAt N i (setWay a o l))) else pairD "price" (.int 0)) else pairD "link" (oD (wayOf a l))
abbrev sTold : Stmt := topS 24
abbrev sLNear : Stmt := topS 25
theorem scTold : FnScope ["net", "a", "b", "value", "is_new", "e"] ["net", "a", "b", "value", "is_new"] (defScope sTold) := ⟨rfl, rfl, rfl, by decide +kernel, rfl, by decide +kernel, by decide +kernel⟩
theorem scLNear : FnScope ["net", "a", "e"] ["net", "a"] (defScope sLNear) := ⟨rfl, rfl, rfl, by decide +kernel, rfl, by decide +kernel, by decide +kernel⟩
def spTold (K : PySem.W.Frag) : Sp := fun vs H Q _ => ∃ (v : V) (a b : Int) (o : Option Int) (new : Bool) (N : Net), vs = [v, .int a, .int b, oV o, .bl new] ∧ Dp K H v (netD N) ∧ N.ls.length ≤ 1700 ∧ ∀ H' v', Same H H' → Dp K H' v' (toldD N a b o new) → Q v' H'
def spLNear (K : PySem.W.Frag) : Sp := fun vs H Q _ => ∃ (v : V) (a : Int) (N : Net), vs = [v, .int a] ∧ Dp K H v (netD N) ∧ N.ls.length ≤ 1700 ∧
  (¬ (0 ≤ a ∧ a < N.n) → ∀ H', Same H H' → Q (.int a) H') ∧ (0 ≤ a ∧ a < N.n → ∀ H' p, Same H H' → H p = none → H' p = some (.lst ((nearOf a N.ls).map V.int)) → Q (.ref p) H')
/-- an error of the class at one place is none of the class at the other -/
structure Apart (K : PySem.W.Frag) (C C' : Addr) : Prop where
  no : PySem.W.exmOne K (.ref C) (.ref C') = some false
section
variable {P : Program} {w : World} {K : PySem.W.Frag} {mg : Str → Option Value} {base : Heap} {CP CL CB fI : Addr}
theorem ok_lnear {f : Addr} {fd : FuncData} (F : Fun K "_law_near" "_law_near" sLNear f fd) (hP : PySem.LowX.LowTxt K mg "NoPlace" CP fI) (cN : KalX P w K mg base 3 "neighbours" ["net", "a"] (spNear K CP)) : FnOk P w K mg base CX0 4 f fd ["net", "a"] (spLNear K) := by
  refine F.ok scLNear (fun vs H Q E h => ?_) (fun cdv A outer s H vs Q E hr h => ?_)
  · obtain ⟨v, a, N, rfl, _⟩ := h
    rfl
  · obtain ⟨v, a, N, rfl, hN, hlen, q1, q2⟩ := h
    refine ⟨_, pss_one (ps_try_cl (tb := fun W => tRet (tCallS (spNear K CP) (WE W) (tCons (tVar 0) (tCons (tVar 1) tNil)))) (Wout := fun _ _ _ _ => False) rfl rfl takes0
      (fun W pn xe tk _ => pss_one (ps_ret (pe_ks cN hr (by decide) (by rfl) tk (pa_cons (pv 0) (pa_cons (pv 1) pa_nil)))))
      (.named (i := 2) (ts := fun a cls d => tRet (tByLow CP a cls d (tVar 2))) scLNear.nd rfl rfl ⟨rfl, by decide, .inl hP.gC⟩ (fun a oe cls d pn hz hf => pss_one (ps_ret (pe_byLow hP hz hf (pv 2)))) .nil)), ?_⟩
    refine ⟨v, rfl, .int a, rfl, v, a, N, rfl, hN, hlen, fun hb => fun H' d s' hd => ?_, fun hb H' p s' np hp => q2 hb H' p s' np hp⟩
    refine ⟨true, hP.te, fun _ a0 _ => ?_, fun e => nomatch e⟩
    exact (vl_byLow (vl_var rfl) hd) _ (q1 hb H' s')
theorem ok_told {f : Addr} {fd : FuncData} (F : Fun K "_law_told" "_law_told" sTold f fd) (hP : PySem.LowX.LowTxt K mg "NoPlace" CP fI) (hL : PySem.LowX.LowTxt K mg "NoLink" CL fI) (hB : PySem.LowX.LowTxt K mg "BadPrice" CB fI)
    (LP : Apart K CL CP) (BP : Apart K CB CP) (BL : Apart K CB CL) (cW : KalX P w K mg base 4 "with_price" ["net", "a", "b", "value"] (spWith K CP CL CB)) (cR : KalX P w K mg base 4 "price" ["net", "a", "b"] (spPr K CP CL)) : FnOk P w K mg base CX0 5 f fd ["net", "a", "b", "value", "is_new"] (spTold K) := by
  refine F.ok scTold (fun vs H Q E h => ?_) (fun cdv A outer s H vs Q E hr h => ?_)
  · obtain ⟨v, a, b, o, new, N, rfl, _⟩ := h
    rfl
  · obtain ⟨v, a, b, o, new, N, rfl, hN, hlen, q⟩ := h
    refine ⟨_, pss_one (ps_try_cl (tb := fun W => tSeq (tIfS (tB (tVar 4)) (tRet (tTup (tCons (tC (.str "net")) (tCons (tCallS (spWith K CP CL CB) (WE W) (tCons (tVar 0) (tCons (tVar 1) (tCons (tVar 2) (tCons (tVar 3) tNil))))) tNil)))) tNext)
          (tRet (tTup (tCons (tC (.str "link")) (tCons (tCallS (spPr K CP CL) (WE W) (tCons (tVar 0) (tCons (tVar 1) (tCons (tVar 2) tNil)))) tNil))))) (Wout := fun _ _ _ _ => False) rfl rfl takes0
      (fun W pn xe tk _ => pss_cons (ps_if (pt_val (pv 4)) (pss_one (ps_ret (pe_tup (pa_cons pe_str (pa_cons (pe_ks cW hr (by decide) (by rfl) tk (pa_cons (pv 0) (pa_cons (pv 1) (pa_cons (pv 2) (pa_cons (pv 3) pa_nil))))) pa_nil))))) pss_nil)
        (pss_one (ps_ret (pe_tup (pa_cons pe_str (pa_cons (pe_ks cR hr (by decide) (by rfl) tk (pa_cons (pv 0) (pa_cons (pv 1) (pa_cons (pv 2) pa_nil)))) pa_nil))))))
      (.named (i := 5) (ts := fun a cls d => tRet (tTup (tCons (tC (.str "place")) (tCons (tByLow CP a cls d (tVar 5)) tNil)))) scTold.nd rfl rfl ⟨rfl, by decide, .inl hP.gC⟩ (fun a oe cls d pn hz hf => pss_one (ps_ret (pe_tup (pa_cons pe_str (pa_cons (pe_byLow hP hz hf (pv 5)) pa_nil)))))
      (.named (i := 5) (ts := fun a cls d => tRet (tTup (tCons (tC (.str "none")) (tCons (tByLow CL a cls d (tVar 5)) tNil)))) scTold.nd rfl rfl ⟨rfl, by decide, .inl hL.gC⟩ (fun a oe cls d pn hz hf => pss_one (ps_ret (pe_tup (pa_cons pe_str (pa_cons (pe_byLow hL hz hf (pv 5)) pa_nil)))))
      (.named (i := 5) (ts := fun a cls d => tRet (tTup (tCons (tC (.str "price")) (tCons (tByLow CB a cls d (tVar 5)) tNil)))) scTold.nd rfl rfl ⟨rfl, by decide, .inl hB.gC⟩ (fun a oe cls d pn hz hf => pss_one (ps_ret (pe_tup (pa_cons pe_str (pa_cons (pe_byLow hB hz hf (pv 5)) pa_nil))))) .nil)))), ?_⟩
    -- the three ways out
    have outP : ∀ (x : Int) (E2 : XK), toldD N a b o new = pairD "place" (.int x) → E2 = WE (wClauses K (fun _ _ _ _ => False) { nx := fun _ H' => Q .non H', rt := Q } [(.ref CP, some 5, fun a cls d => tRet (tTup (tCons (tC (.str "place")) (tCons (tByLow CP a cls d (tVar 5)) tNil)))), (.ref CL, some 5, fun a cls d => tRet (tTup (tCons (tC (.str "none")) (tCons (tByLow CL a cls d (tVar 5)) tNil)))), (.ref CB, some 5, fun a cls d => tRet (tTup (tCons (tC (.str "price")) (tCons (tByLow CB a cls d (tVar 5)) tNil))))]) [some v, some (.int a), some (.int b), some (oV o), some (.bl new), none] → RaiseTo E2 H CP x := by
      intro x E2 e eE H' d s' hd
      rw [eE]
      refine ⟨true, hP.te, fun _ a0 _ => ?_, fun z => nomatch z⟩
      exact ret_pair (K := K) (vl_byLow (vl_var rfl) hd) (.int x) fun p H2 s2 d2 => q H2 _ (s'.trans s2) (by rw [e]; exact d2)
    have outL : ∀ (E2 : XK), toldD N a b o new = pairD "none" (.int 0) → E2 = WE (wClauses K (fun _ _ _ _ => False) { nx := fun _ H' => Q .non H', rt := Q } [(.ref CP, some 5, fun a cls d => tRet (tTup (tCons (tC (.str "place")) (tCons (tByLow CP a cls d (tVar 5)) tNil)))), (.ref CL, some 5, fun a cls d => tRet (tTup (tCons (tC (.str "none")) (tCons (tByLow CL a cls d (tVar 5)) tNil)))), (.ref CB, some 5, fun a cls d => tRet (tTup (tCons (tC (.str "price")) (tCons (tByLow CB a cls d (tVar 5)) tNil))))]) [some v, some (.int a), some (.int b), some (oV o), some (.bl new), none] → RaiseTo E2 H CL 0 := by
      intro E2 e eE H' d s' hd
      rw [eE]
      refine ⟨false, LP.no, (fun z => nomatch z), fun _ => ⟨true, hL.te, fun _ a0 _ => ?_, fun z => nomatch z⟩⟩
      exact ret_pair (K := K) (vl_byLow (vl_var rfl) hd) (.int 0) fun p H2 s2 d2 => q H2 _ (s'.trans s2) (by rw [e]; exact d2)
    have outB : ∀ (E2 : XK), toldD N a b o new = pairD "price" (.int 0) → E2 = WE (wClauses K (fun _ _ _ _ => False) { nx := fun _ H' => Q .non H', rt := Q } [(.ref CP, some 5, fun a cls d => tRet (tTup (tCons (tC (.str "place")) (tCons (tByLow CP a cls d (tVar 5)) tNil)))), (.ref CL, some 5, fun a cls d => tRet (tTup (tCons (tC (.str "none")) (tCons (tByLow CL a cls d (tVar 5)) tNil)))), (.ref CB, some 5, fun a cls d => tRet (tTup (tCons (tC (.str "price")) (tCons (tByLow CB a cls d (tVar 5)) tNil))))]) [some v, some (.int a), some (.int b), some (oV o), some (.bl new), none] → RaiseTo E2 H CB 0 := by
      intro E2 e eE H' d s' hd
      rw [eE]
      refine ⟨false, BP.no, (fun z => nomatch z), fun _ => ⟨false, BL.no, (fun z => nomatch z), fun _ => ⟨true, hB.te, fun _ a0 _ => ?_, fun z => nomatch z⟩⟩⟩
      exact ret_pair (K := K) (vl_byLow (vl_var rfl) hd) (.int 0) fun p H2 s2 d2 => q H2 _ (s'.trans s2) (by rw [e]; exact d2)
    cases new with
    | true =>
      refine q_when (b := true) ?_ (fun _ => ?_) (fun e => nomatch e)
      · exact an_B (vl_var rfl)
      · refine ⟨v, rfl, .int a, rfl, .int b, rfl, oV o, rfl, v, a, b, o, N, rfl, hN, hlen, ?_⟩
        cases e : linkIx N a b with
        | noPlace x => exact outP x _ (by unfold toldD; rw [e]) rfl
        | noLink => exact outL _ (by unfold toldD; rw [e]) rfl
        | here i =>
          obtain ⟨l, hl, _⟩ := here_lt e
          refine ⟨fun hb => outB _ (by
            unfold toldD
            rw [e]
            simp [hl, hb]) rfl, fun hb l2 hl2 H' v' s' hn' => ?_⟩
          cases hl.symm.trans hl2
          refine ⟨by show 2 ≤ sizeLine; decide, fun p np => q _ _ (s'.trans (same_upd np)) ?_⟩
          have et : toldD N a b o true = pairD "net" (netD (setAt N i (setWay a o l))) := by
            unfold toldD
            rw [e]
            simp [hl, hb]
          rw [et]
          exact .tup (.of upd_same) (.cons (.str "net") (.cons (Dp.to hn'.dp (same_upd np)) .nil))
    | false =>
      refine q_when (b := false) ?_ (fun e => nomatch e) (fun _ => ?_)
      · exact an_B (vl_var rfl)
      · refine ⟨v, rfl, .int a, rfl, .int b, rfl, v, a, b, N, rfl, hN, ?_⟩
        cases e : linkIx N a b with
        | noPlace x => exact outP x _ (by unfold toldD; rw [e]) rfl
        | noLink => exact outL _ (by unfold toldD; rw [e]) rfl
        | here i =>
          intro l hl H' s'
          refine ⟨by show 2 ≤ sizeLine; decide, fun p np => q _ _ (s'.trans (same_upd np)) ?_⟩
          have et : toldD N a b o false = pairD "link" (oD (wayOf a l)) := by
            unfold toldD
            rw [e]
            simp [hl]
          rw [et]
          exact .tup (.of upd_same) (.cons (.str "link") (.cons (Dp.o _) .nil))
end
/-! ### what holds of every net -/
theorem chk_ok {n : Int} : ∀ (ls : List Lnk) (p q : Int), (∀ l ∈ ls, LnkOk n l) → ls.Pairwise LnkLt → (∀ l ∈ ls, ¬ (l.a < p ∨ (l.a = p ∧ l.b ≤ q))) → chk n p q ls = true
  | [], _, _, _, _, _ => rfl
  | l :: ls, p, q, ok, lt, far => by
    have hl := ok l List.mem_cons_self
    have hlt := List.pairwise_cons.mp lt
    show (lnkB n p q l && chk n l.a l.b ls) = true
    rw [chk_ok ls l.a l.b (fun m hm => ok m (List.mem_cons_of_mem _ hm)) hlt.2 (fun m hm => by
      have := hlt.1 m hm
      unfold LnkLt at this
      omega), Bool.and_true]
    unfold lnkB
    rw [decide_eq_true hl.a0, decide_eq_true hl.ab, decide_eq_true hl.bn, decide_eq_false (far l List.mem_cons_self), priceB_ok hl.t, priceB_ok hl.k]
    rfl
theorem isNet_ok {N : Net} (ok : NetOk N) : isNetB N = true := by
  unfold isNetB
  rw [decide_eq_true ok.n1, decide_eq_true ok.n40, chk_ok N.ls 0 0 ok.ok ok.lt (fun l hl => by
    have := (ok.ok l hl).a0
    have := (ok.ok l hl).ab
    omega)]
  rfl
theorem way_eq {N : Net} (ok : NetOk N) {a b : Int} {l : Lnk} (hl : l ∈ N.ls) (he : atEnds a b l = true) : wayOf a l = (if b < a then l.k else l.t) := by
  have h := of_decide_eq_true he
  have ab := (ok.ok l hl).ab
  unfold wayOf
  by_cases hc : b < a
  · rw [if_pos hc] at h
    rw [if_pos hc, if_neg (by omega)]
  · rw [if_neg hc] at h
    rw [if_neg hc, if_pos (by omega)]
theorem told_false {N : Net} (ok : NetOk N) (a b : Int) (o : Option Int) : toldD N a b o false = dueD N a b none := by
  unfold toldD dueD
  cases e : linkIx N a b with
  | noPlace x => rfl
  | noLink => rfl
  | here i =>
    obtain ⟨l, hl, he⟩ := here_lt e
    simp only [hl]
    rw [way_eq ok (List.mem_of_getElem? hl) he]
    rfl
theorem chg_off {N : Net} (ok : NetOk N) {a b : Int} {o : Option Int} {m : Lnk} (hm : m ∈ N.ls) (h : atEnds a b m = false) : chg a b o m = m := by
  have h := of_decide_eq_false h
  have ab := (ok.ok m hm).ab
  unfold chg
  by_cases hc : b < a
  · rw [if_pos hc, if_neg (by omega : ¬ b > a)] at h
    rw [if_neg (by omega), if_neg (by omega)]
  · rw [if_neg hc] at h
    by_cases hd : b > a
    · rw [if_pos hd] at h
      rw [if_neg (by omega), if_neg (by omega)]
    · rw [if_neg (by omega), if_neg (by omega)]
theorem chg_on {N : Net} (ok : NetOk N) {a b : Int} {o : Option Int} {l : Lnk} (hl : l ∈ N.ls) (h : atEnds a b l = true) : chg a b o l = setWay a o l := by
  have h := of_decide_eq_true h
  have ab := (ok.ok l hl).ab
  unfold chg setWay
  by_cases hc : b < a
  · rw [if_pos hc, if_neg (by omega : ¬ b > a)] at h
    rw [if_neg (by omega), if_pos (by omega), if_neg (by omega)]
    rw [h.1, h.2]
  · rw [if_neg hc] at h
    by_cases hd : b > a
    · rw [if_pos hd] at h
      rw [if_pos (by omega), if_pos (by omega), h.1, h.2]
    · rw [if_neg hd] at h
      omega
theorem ends_one {a b : Int} {l m : Lnk} (h1 : atEnds a b l = true) (h2 : atEnds a b m = true) : l.a = m.a ∧ l.b = m.b := by
  have h1 := of_decide_eq_true h1
  have h2 := of_decide_eq_true h2
  omega
theorem split_at {α : Type} {xs : List α} {i : Nat} {x : α} (h : xs[i]? = some x) : xs = xs.take i ++ x :: xs.drop (i + 1) := by
  have hi := (List.getElem?_eq_some_iff.mp h).1
  have e := List.take_append_drop i xs
  rw [List.drop_eq_getElem_cons hi, (List.getElem?_eq_some_iff.mp h).2] at e
  exact e.symm
theorem changed_eq {N : Net} (ok : NetOk N) {a b : Int} {o : Option Int} {i : Nat} {l : Lnk} (hi : linkIx N a b = .here i) (hl : N.ls[i]? = some l) : (⟨N.n, N.ls.map (chg a b o)⟩ : Net) = setAt N i (setWay a o l) := by
  obtain ⟨l2, hl2, he⟩ := here_lt hi
  cases hl.symm.trans hl2
  have es := split_at hl
  have lt := ok.lt
  rw [es] at lt
  have lt := List.pairwise_append.mp lt
  have lt2 := List.pairwise_cons.mp lt.2.1
  have off : ∀ m ∈ N.ls, (LnkLt m l ∨ LnkLt l m) → chg a b o m = m := fun m hm hlt => chg_off ok hm (by
    cases e : atEnds a b m with
    | false => rfl
    | true =>
      have := ends_one he e
      unfold LnkLt at hlt
      omega)
  unfold setAt
  congr 1
  have e1 : (N.ls.take i).map (chg a b o) = N.ls.take i := by
    have : (N.ls.take i).map (chg a b o) = (N.ls.take i).map id := List.map_congr_left fun m hm => off m (List.mem_of_mem_take hm) (.inl (lt.2.2 m hm l List.mem_cons_self))
    rw [this, List.map_id]
  have e2 : (N.ls.drop (i + 1)).map (chg a b o) = N.ls.drop (i + 1) := by
    have : (N.ls.drop (i + 1)).map (chg a b o) = (N.ls.drop (i + 1)).map id := List.map_congr_left fun m hm => off m (List.mem_of_mem_drop hm) (.inr (lt2.1 m hm))
    rw [this, List.map_id]
  calc N.ls.map (chg a b o) = (N.ls.take i ++ l :: N.ls.drop (i + 1)).map (chg a b o) := by rw [← es]
    _ = N.ls.take i ++ [setWay a o l] ++ N.ls.drop (i + 1) := by
      rw [List.map_append, List.map_cons, e1, e2, chg_on ok (List.mem_of_getElem? hl) he, List.append_assoc]
      rfl
/-! ### neighbours, ascending -/
theorem near_lt {N : Net} (ok : NetOk N) (a : Int) : (nearOf a N.ls).Pairwise (· < ·) := by
  unfold nearOf
  rw [List.pairwise_filterMap]
  refine List.Pairwise.imp_of_mem (fun {l m} hl hm hlt x hx y hy => ?_) ok.lt
  have h1 := (ok.ok l hl).ab
  have h2 := (ok.ok m hm).ab
  unfold LnkLt at hlt
  unfold nearF at hx hy
  split at hx
  · split at hy
    · cases hx
      cases hy
      omega
    · split at hy
      · cases hx
        cases hy
        omega
      · cases hy
  · split at hx
    · split at hy
      · cases hx
        cases hy
        omega
      · split at hy
        · cases hx
          cases hy
          omega
        · cases hy
    · cases hx
theorem near_in {N : Net} (ok : NetOk N) (a : Int) : ∀ x ∈ nearOf a N.ls, 0 ≤ x ∧ x < N.n := by
  intro x hx
  obtain ⟨l, hl, e⟩ := List.mem_filterMap.mp hx
  have h := ok.ok l hl
  have := h.a0
  have := h.ab
  have := h.bn
  unfold nearF at e
  split at e
  · cases e
    omega
  · split at e
    · cases e
      omega
    · cases e
theorem asc_len : ∀ (xs : List Int) (lo hi : Int), xs.Pairwise (· < ·) → (∀ x ∈ xs, lo ≤ x ∧ x < hi) → (xs.length : Int) ≤ max 0 (hi - lo)
  | [], lo, hi, _, _ => by
    show (0 : Int) ≤ _
    omega
  | x :: xs, lo, hi, hp, hb => by
    have hp' := List.pairwise_cons.mp hp
    have hx := hb x List.mem_cons_self
    have ih := asc_len xs (x + 1) hi hp'.2 (fun y hy => ⟨hp'.1 y hy, (hb y (List.mem_cons_of_mem _ hy)).2⟩)
    rw [List.length_cons]
    omega
theorem near_len {N : Net} (ok : NetOk N) (a : Int) : (nearOf a N.ls).length ≤ 40 := by
  have h := asc_len _ 0 N.n (near_lt ok a) (near_in ok a)
  have := ok.n40
  have := ok.n1
  omega
theorem near_sorted {N : Net} (ok : NetOk N) {a : Int} {ns : List Int} (hp : ns.Perm (nearOf a N.ls)) (hs : ns.Pairwise (· ≤ ·)) : ns = nearOf a N.ls :=
  List.Perm.eq_of_pairwise (fun x y _ _ h1 h2 => Int.le_antisymm h1 h2) hs ((near_lt ok a).imp fun h => Int.le_of_lt h) hp
theorem nearF_sum {a : Int} {l : Lnk} : nearF a l = if (l.a = a ∨ l.b = a) then some (l.a + l.b - a) else none := by
  unfold nearF
  by_cases h1 : l.a = a
  · rw [if_pos h1, if_pos (.inl h1)]
    congr 1
    omega
  · rw [if_neg h1]
    by_cases h2 : l.b = a
    · rw [if_pos h2, if_pos (.inr h2)]
      congr 1
      omega
    · rw [if_neg h2, if_neg (by omega)]
/-! ### the law of nets and prices -/
theorem lay_net (N : Net) : (netD N).canLay0 = true ∧ (netD N).depth ≤ 3 := by
  have h := lay_lnks N.ls
  constructor
  · show (true && (PyData.canLayAll0 (N.ls.map lnkD) && true)) = true
    rw [h.1]
    rfl
  · show max 0 (max (PyData.depthAll (N.ls.map lnkD) + 1) 0) + 1 ≤ 3
    have := h.2
    omega
theorem shaped_pair {x : Str} {d : PyData} (hx : PyData.canLay0 (.str x) = true) (h : d.canLay0 = true) (h2 : d.depth ≤ 3) : SeqAt.shaped (pairD x d) = true := by
  show ((PyData.canLay0 (.str x) && (d.canLay0 && true)) && decide (max 0 (max d.depth 0) + 1 ≤ 64)) = true
  rw [hx, h, decide_eq_true (by omega)]
  rfl
theorem lay_o0 (o : Option Int) : (oD o).canLay0 = true ∧ (oD o).depth ≤ 3 := by
  cases o <;> exact ⟨rfl, Nat.zero_le _⟩
theorem shaped_due (N : Net) (a b : Int) (o : Option Int) : SeqAt.shaped (dueD N a b o) = true := by
  unfold dueD
  split
  · exact shaped_pair (by decide +kernel) rfl (Nat.zero_le _)
  · exact shaped_pair (by decide +kernel) rfl (Nat.zero_le _)
  · split
    · rename_i i e hb
      obtain ⟨l, hl, _⟩ := here_lt e
      rw [hl]
      exact shaped_pair (by decide +kernel) (lay_o0 _).1 (lay_o0 _).2
    · exact shaped_pair (by decide +kernel) rfl (Nat.zero_le _)
theorem shaped_told (N : Net) (a b : Int) (o : Option Int) : SeqAt.shaped (toldD N a b o true) = true := by
  unfold toldD
  split
  · exact shaped_pair (by decide +kernel) rfl (Nat.zero_le _)
  · exact shaped_pair (by decide +kernel) rfl (Nat.zero_le _)
  · rename_i i e
    obtain ⟨l, hl, _⟩ := here_lt e
    rw [hl]
    simp only [if_true]
    split
    · exact shaped_pair (by decide +kernel) (lay_net _).1 (lay_net _).2
    · exact shaped_pair (by decide +kernel) rfl (Nat.zero_le _)
theorem refl_of {d : PyData} (h : SeqAt.shaped d = true) : PyData.eqv d d = true := SeqAt.eqv_refl _ (Bool.and_eq_true_iff.mp h).1
/-- d != e where both are the same data -/
theorem ax_ne {K : PySem.W.Frag} {σ : L2.St} {H : Hp} {te te2 : TE} {d : PyData} (hd : SeqAt.shaped d = true) (h1 : ∀ Q : VK, (∀ v H', Same H H' → Dp K H' v d → Q v H') → te σ H Q) (h2 : ∀ H', Same H H' → ∀ Q : VK, (∀ v H2, Same H' H2 → Dp K H2 v d → Q v H2) → te2 σ H' Q) :
    Ax (tTest (tOp (rNeD K) te te2)) σ H false := fun Q k => h1 _ fun v H1 s1 d1 => h2 H1 s1 _ fun u H2 s2 d2 => ⟨d, d, Dp.to d1 s2, d2, hd, hd, _, rfl, by
  rw [refl_of hd]
  exact k H2 (s1.trans s2)⟩
theorem due_cases {N : Net} (ok : NetOk N) (a b : Int) (o : Option Int) : (∃ x d0, dueD N a b o = pairD x d0 ∧ x ≠ "link" ∧ toldD N a b o true = dueD N a b o) ∨
    ∃ d0, dueD N a b o = pairD "link" d0 ∧ toldD N a b o true = pairD "net" (netD ⟨N.n, N.ls.map (chg a b o)⟩) := by
  unfold dueD toldD
  cases e : linkIx N a b with
  | noPlace x => exact .inl ⟨_, _, rfl, by decide, rfl⟩
  | noLink => exact .inl ⟨_, _, rfl, by decide, rfl⟩
  | here i =>
    obtain ⟨l, hl, _⟩ := here_lt e
    simp only [hl]
    cases hb : priceB o with
    | false => exact .inl ⟨"price", .int 0, by simp, by decide, by simp⟩
    | true =>
      refine .inr ⟨oD (if b < a then l.k else l.t), by simp, ?_⟩
      rw [changed_eq ok e hl]
      simp
theorem at_o {os : List (Option Int)} {k : Int} (h0 : 0 ≤ k) (h1 : k < (os.length : Int)) : ∃ o, atI (os.map oV) k = some (oV o) := by
  have hj : k.toNat < os.length := by omega
  have g : (os.map oV)[k.toNat]? = some (oV os[k.toNat]) := by
    rw [List.getElem?_map, List.getElem?_eq_getElem hj]
    rfl
  have g2 := atI_nat g
  rw [show ((k.toNat : Nat) : Int) = k by omega] at g2
  exact ⟨_, g2⟩
theorem lay_ints : ∀ ns : List Int, PyData.canLayAll0 (ns.map PyData.int) = true ∧ PyData.depthAll (ns.map PyData.int) = 0
  | [] => ⟨rfl, rfl⟩
  | n :: ns => by
    have h := lay_ints ns
    constructor
    · show (true && PyData.canLayAll0 (ns.map PyData.int)) = true
      rw [h.1]
      rfl
    · show max 0 (PyData.depthAll (ns.map PyData.int)) = 0
      rw [h.2]
      rfl
theorem shaped_ints (ns : List Int) : SeqAt.shaped (.list (ns.map PyData.int)) = true := by
  have h := lay_ints ns
  show (PyData.canLayAll0 (ns.map PyData.int) && decide (PyData.depthAll (ns.map PyData.int) + 1 ≤ 64)) = true
  rw [h.1, h.2]
  rfl
abbrev sLaw : Stmt := topS 27
theorem scLaw : FnScope ["script", "draws", "net", "kept", "value", "turn", "a", "b", "due", "near", "told", "link"] ["script"] (defScope sLaw) := ⟨rfl, rfl, rfl, by decide +kernel, rfl, by decide +kernel, by decide +kernel⟩
def spLaw (K : PySem.W.Frag) : Sp := fun vs H Q _ => ∃ (a : Addr) (ns : List Int), vs = [.ref a] ∧ SqL K H a (ns.map V.int) ∧ ns.length ≤ 63 ∧ ∀ H', Q (.bl true) H'
section
variable {P : Program} {w : World} {K : PySem.W.Frag} {mg : Str → Option Value} {base : Heap}
theorem ok_law {f : Addr} {fd : FuncData} (F : Fun K "law" "law" sLaw f fd) (cD : Kal P w K mg base 1 "_law_draws" ["script"] (spDraws K)) (cA : Kal P w K mg base 1 "_law_at" ["draws", "k", "many"] (spAt K)) (cM : Kal P w K mg base 1 "_law_mix" ["draws", "k", "many"] (spAt K))
    (cN : Kal P w K mg base 3 "_law_net" ["draws", "k", "most"] (spNet K)) (cI : Kal P w K mg base 2 "is_net" ["net"] (spIsNet K)) (cS : Kal P w K mg base 2 "_law_spoilt" ["draws", "net"] (spSpoilt K)) (cT : Kal P w K mg base 5 "_law_told" ["net", "a", "b", "value", "is_new"] (spTold K))
    (cU : Kal P w K mg base 1 "_law_due" ["net", "a", "b", "value"] (spDue K)) (cC : Kal P w K mg base 1 "_law_changed" ["net", "a", "b", "value"] (spChanged K)) (cE : Kal P w K mg base 4 "_law_near" ["net", "a"] (spLNear K))
    (mi : mg "int" = none) (mL : mg "list" = none) (mr : mg "range" = none) (ml : mg "len" = none) (mo : mg "sorted" = none) (ms : mg "isinstance" = none) : FnOk P w K mg base CX0 6 f fd ["script"] (spLaw K) := by
  refine F.ok scLaw (fun vs H Q E h => ?_) (fun cdv A outer s H vs Q E hr h => ?_)
  · obtain ⟨a, ns, rfl, _⟩ := h
    rfl
  · obtain ⟨a, ns, rfl, hS, hlen, q⟩ := h
    refine ⟨_, pss_cons (ps_set (i := 1) scLaw.nd rfl (.inl rfl) (pe_k cD hr (by decide) (by rfl) (pa_cons (pv 0) pa_nil)))
      (pss_cons (ps_set (i := 2) scLaw.nd rfl (.inl rfl) (pe_k cN hr (by decide) (by rfl) (pa_cons (pv 1) (pa_cons pe_int (pa_cons (pe_ix ix_list (pe_lst (pa_cons pe_int (pa_cons pe_int pa_nil))) (pe_callTy call_int1 (by rfl) mi (by decide +kernel) (pa_cons (pe_cmpR op_eq (pe_k cA hr (by decide) (by rfl) (pa_cons (pv 1) (pa_cons pe_int (pa_cons pe_int pa_nil)))) pe_int (nomark _)) pa_nil)) (fun _ _ => rfl)) pa_nil)))))
      (pss_cons (ps_set (i := 3) scLaw.nd rfl (.inl rfl) (pe_tup (pa_cons (pe_ix ix_tup (pv 2) pe_int (fun _ _ => rfl)) (pa_cons (pe_callTy call_list_of (by rfl) mL (by decide +kernel) (pa_cons (pe_ix ix_tup (pv 2) pe_int (fun _ _ => rfl)) pa_nil)) pa_nil))))
      (pss_cons (ps_if (PW.pt (pw_or (pt_cmpR op_notBl (pe_k cI hr (by decide) (by rfl) (pa_cons (pv 2) pa_nil)) pe_bl (nomark _)) (pw_or1 (pt_cmpR op_notBl (pe_k cI hr (by decide) (by rfl) (pa_cons (pe_k cS hr (by decide) (by rfl) (pa_cons (pv 1) (pa_cons (pv 2) pa_nil))) pa_nil)) pe_bl (nomark _))))) (pss_one (ps_ret pe_bl)) pss_nil)
      (pss_cons (ps_set (i := 4) scLaw.nd rfl (.inl rfl) (pe_ix ix_list (pe_lst (pa_cons pe_non (pa_cons pe_int (pa_cons pe_int (pa_cons (pe_op op_add pe_int (pe_k cA hr (by decide) (by rfl) (pa_cons (pv 1) (pa_cons pe_int (pa_cons pe_int pa_nil))))) (pa_cons pe_int (pa_cons (pe_op op_add pe_int (pe_k cA hr (by decide) (by rfl) (pa_cons (pv 1) (pa_cons pe_int (pa_cons pe_int pa_nil))))) pa_nil))))))) (pe_k cA hr (by decide) (by rfl) (pa_cons (pv 1) (pa_cons pe_int (pa_cons pe_int pa_nil)))) (fun _ _ => rfl)))
      (pss_cons (ps_for PassesOwn.never rfl (pi_range1 (by rfl) mr (pa_cons pe_int pa_nil)) (pg_name (i := 5) scLaw.nd rfl (.inl rfl))
        (pss_cons (ps_set (i := 6) scLaw.nd rfl (.inr rfl) (pe_op op_sub (pe_k cM hr (by decide) (by rfl) (pa_cons (pv 1) (pa_cons (pe_op op_add pe_int (pe_op op_mul pe_int (pv 5))) (pa_cons (pe_op op_add (pe_ix ix_tup (pv 2) pe_int (fun _ _ => rfl)) pe_int) pa_nil)))) pe_int))
        (pss_cons (ps_set (i := 7) scLaw.nd rfl (.inl rfl) (pe_op op_sub (pe_k cM hr (by decide) (by rfl) (pa_cons (pv 1) (pa_cons (pe_op op_add pe_int (pe_op op_mul pe_int (pv 5))) (pa_cons (pe_op op_add (pe_ix ix_tup (pv 2) pe_int (fun _ _ => rfl)) pe_int) pa_nil)))) pe_int))
        (Evl.pss_cut (ps_if (PW.pt (pw_and (pt_cmpR op_gt (pv 5) pe_int (nomark _)) (pw_and1 (pt_cmpR op_gt (pe_callB call_len_seq (by rfl) ml PySem.boot_len (pa_cons (pe_ix ix_tup (pv 2) pe_int (fun _ _ => rfl)) pa_nil)) pe_int (nomark _)))))
          (pss_cons (ps_asg (pe_slice sl_tup (pe_ix ix_list (pe_ix ix_tup (pv 2) pe_int (fun _ _ => rfl)) (pe_k cM hr (by decide) (by rfl) (pa_cons (pv 1) (pa_cons (pv 5) (pa_cons (pe_callB call_len_seq (by rfl) ml PySem.boot_len (pa_cons (pe_ix ix_tup (pv 2) pe_int (fun _ _ => rfl)) pa_nil)) pa_nil)))) (fun _ _ => rfl)) po_none (po_some pe_int))
            (pg_tup rfl (pgs_cons (pg_name (i := 6) scLaw.nd rfl (.inr rfl)) (pgs_cons (pg_name (i := 7) scLaw.nd rfl (.inl rfl)) pgs_nil))))
          (pss_one (ps_if (pt_cmpR op_eq (pe_k cM hr (by decide) (by rfl) (pa_cons (pv 1) (pa_cons (pe_op op_add (pv 5) pe_int) (pa_cons pe_int pa_nil)))) pe_int (nomark _))
            (pss_one (ps_asg (pe_tup (pa_cons (pv 7) (pa_cons (pv 6) pa_nil))) (pg_tup rfl (pgs_cons (pg_name (i := 6) scLaw.nd rfl (.inr rfl)) (pgs_cons (pg_name (i := 7) scLaw.nd rfl (.inl rfl)) pgs_nil))))) pss_nil))) pss_nil)
        (pss_cons (ps_if (pt_cmpR (op_neD hr.units) (pe_k cT hr (by decide) (by rfl) (pa_cons (pv 2) (pa_cons (pv 6) (pa_cons (pv 7) (pa_cons pe_int (pa_cons pe_bl pa_nil)))))) (pe_k cU hr (by decide) (by rfl) (pa_cons (pv 3) (pa_cons (pv 6) (pa_cons (pv 7) (pa_cons pe_non pa_nil))))) (nomark _)) (pss_one (ps_ret pe_bl)) pss_nil)
        (pss_cons (ps_set (i := 8) scLaw.nd rfl (.inl rfl) (pe_k cU hr (by decide) (by rfl) (pa_cons (pv 3) (pa_cons (pv 6) (pa_cons (pv 7) (pa_cons (pv 4) pa_nil))))))
        (Evl.pss_cut (ps_if (pt_cmpR op_eq (pe_ix ix_tup (pv 8) pe_int (fun _ _ => rfl)) pe_str (nomark _)) (pss_one (ps_set (i := 8) scLaw.nd rfl (.inl rfl) (pe_tup (pa_cons pe_str (pa_cons (pe_k cC hr (by decide) (by rfl) (pa_cons (pv 3) (pa_cons (pv 6) (pa_cons (pv 7) (pa_cons (pv 4) pa_nil))))) pa_nil))))) pss_nil)
        (pss_cons (ps_if (pt_cmpR (op_neD hr.units) (pe_k cT hr (by decide) (by rfl) (pa_cons (pv 2) (pa_cons (pv 6) (pa_cons (pv 7) (pa_cons (pv 4) (pa_cons pe_bl pa_nil)))))) (pv 8) (nomark _)) (pss_one (ps_ret pe_bl)) pss_nil)
        (pss_cons (ps_set (i := 9) scLaw.nd rfl (.inl rfl) (pe_callB cr_sorted (by rfl) mo (by decide +kernel) (pa_cons
          (pe_lc (own := [("link", 11)]) (g := gName 11) (tt := tTest (tOp (rIn K false) (tVar 6) (tSl (rSlT K) (tVar 11) tNoPart (tPart (tC (.int 2))))))
            (te := tOp (rI0 fun i j => .int (i - j)) (tOp (rI0 fun i j => .int (i + j)) (tOp (rIxT K) (tVar 11) (tC (.int 0))) (tOp (rIxT K) (tVar 11) (tC (.int 1)))) (tVar 6)) (by rfl) scLaw.nd (pi_list (pe_ix ix_tup (pv 3) pe_int (fun _ _ => rfl))) (blkOk_by (own := [("link", 11)]) (N := ["script", "draws", "net", "kept", "value", "turn", "a", "b", "due", "near", "told", "link"]) (sc := defScope sLaw) (by decide +kernel))
            (fun _ _ _ _ _ => pg_name (i := 11) scLaw.nd rfl (Or.inl rfl)) (fun _ _ _ _ _ => pts_one (pt_cmpR op_in_seq (pv 6) (pe_slice sl_tup (pv 11) po_none (po_some pe_int)) (by rfl)))
            (fun _ _ _ _ _ => pe_op op_sub (pe_op op_add (pe_ix ix_tup (pv 11) pe_int (fun _ _ => rfl)) (pe_ix ix_tup (pv 11) pe_int (fun _ _ => rfl))) (pv 6))) pa_nil)))
        (Evl.pss_cut (ps_if (pt_not (pt_chain op_le op_lt pe_int (pv 6) (pe_ix ix_tup (pv 3) pe_int (fun _ _ => rfl)))) (pss_one (ps_set (i := 9) scLaw.nd rfl (.inl rfl) (pv 6))) pss_nil)
        (pss_cons (ps_set (i := 10) scLaw.nd rfl (.inl rfl) (pe_k cE hr (by decide) (by rfl) (pa_cons (pv 2) (pa_cons (pv 6) pa_nil))))
        (pss_cons (ps_if (PW.pt (pw_or (pt_cmpR (op_neD hr.units) (pv 10) (pv 9) (nomark _)) (pw_or1 (pt_cmpR (op_neD hr.units) (pv 2) (pv 3) (nomark _))))) (pss_one (ps_ret pe_bl)) pss_nil)
        (pss_one (ps_if (pt_val (pe_callB call_isi (by rfl) ms (by decide +kernel) (pa_cons (pv 10) (pa_cons (pe_bltn (v := .ty "list") (by rfl) mL (by decide +kernel) rfl) pa_nil))))
          (pss_cons (ps_expr (pe_bm PySem.F.plainAttrs_list PySem.F.slot_list_append PySem.F.type_list_append mt_append (pv 10) (pa_cons pe_int pa_nil)))
          (pss_one (ps_if (pt_cmpR (op_neD hr.units) (pe_k cE hr (by decide) (by rfl) (pa_cons (pv 2) (pa_cons (pv 6) pa_nil))) (pv 9) (nomark _)) (pss_one (ps_ret pe_bl)) pss_nil))) pss_nil))))))))))))))
      (pss_one (ps_ret pe_bl))))))), ?_⟩
    -- draws
    refine q_asgE ⟨.ref a, rfl, a, ns, rfl, hS, hlen, fun H1 d ds s1 nd hd hok => ?_⟩
    have hD1 : SqL K H1 d (ds.map V.int) := .of hd
    -- net
    refine q_asgE ⟨.ref d, rfl, by show 2 ≤ sizeLine; decide, fun p0 np0 => ?_⟩
    have sp0 : Same H1 (upd H1 p0 (.lst [.int 9, .int 40])) := same_upd np0
    refine ⟨.ref d, rfl, d, ds, 2, 12, rfl, sp0.seq hD1, by decide, by decide, fun r0 hr0 => ?_⟩
    have hm : ∃ m, (m = 9 ∨ m = 40) ∧ atI [V.int 9, V.int 40] (if decide (V.int r0 = V.int 7) = true then 1 else 0) = some (.int m) := by
      cases decide (V.int r0 = V.int 7) with
      | false => exact ⟨9, .inl rfl, atI_nat (j := 0) rfl⟩
      | true => exact ⟨40, .inr rfl, atI_nat (j := 1) rfl⟩
    obtain ⟨m, hm, gm⟩ := hm
    refine ⟨rfl, .inr ⟨_, rfl, p0, _, _, _, rfl, rfl, .inl (.inl upd_same), gm, ?_⟩⟩
    refine ⟨d, ds, 6, m, rfl, sp0.seq hD1, by decide, by omega, by omega, fun H2 v N s2 hN okN hn => ?_⟩
    obtain ⟨p, c, xs, rfl, hp, hc, hx⟩ := hN
    have n1 := okN.n1
    have n40 := okN.n40
    have l16 := okN.len
    -- kept
    refine q_asgE ((vl_ixT (K := K) (vl_var rfl) vl_c (.of hp) (atI_nat (j := 0) rfl)) _ ?_)
    refine (vl_ixT (K := K) (vl_var rfl) vl_c (.of hp) (atI_nat (j := 1) rfl)) _ ?_
    refine ⟨c, xs, rfl, .inl (.of hc), fun l nl => ⟨by show 2 ≤ sizeLine; decide, fun t nt => ?_⟩⟩
    have s3 : Same H2 (upd H2 l (.lst xs)) := same_upd nl
    have s4 : Same (upd H2 l (.lst xs)) (upd (upd H2 l (.lst xs)) t (.tup [.int N.n, .ref l])) := same_upd nt
    have hK4 : NetAt K (upd (upd H2 l (.lst xs)) t (.tup [.int N.n, .ref l])) (.ref t) N := ⟨t, l, xs, rfl, upd_same, s4 _ _ upd_same, DpAll.to hx (s3.trans s4)⟩
    have hN4 : NetAt K (upd (upd H2 l (.lst xs)) t (.tup [.int N.n, .ref l])) (.ref p) N := NetAt.to ⟨p, c, xs, rfl, hp, hc, hx⟩ (s3.trans s4)
    have hD4 := ((sp0.trans s2).trans (s3.trans s4)).seq hD1
    generalize upd (upd H2 l (.lst xs)) t (.tup [.int N.n, .ref l]) = H4 at s4 hK4 hN4 hD4 ⊢
    -- is_net
    refine q_whenx (b := false) (ax_or (k := false) (m := false) (fun Q k => ?_) (fun _ H5 s5 Q k => ?_)) (fun e => nomatch e) (fun _ H5 s5 => ?_)
    · refine ⟨.ref p, rfl, .ref p, N, rfl, hN4.dp, fun H' s' => ⟨_, true, rfl, rfl, _, rfl, ?_⟩⟩
      rw [isNet_ok okN]
      exact k H' s'
    · refine ⟨.ref d, rfl, .ref p, rfl, d, ds, .ref p, N, rfl, s5.seq hD4, hN4.to s5, okN, fun H6 v6 M s6 d6 bad => ⟨v6, M, rfl, d6, fun H' s' => ⟨_, false, rfl, rfl, _, rfl, ?_⟩⟩⟩
      rw [bad]
      exact k H' (s6.trans s')
    have hN5 := hN4.to s5
    have hK5 := hK4.to s5
    have hD5 := s5.seq hD4
    -- value
    refine q_asgE ⟨.ref d, rfl, d, ds, 3, 65536, rfl, hD5, by decide, by decide, fun r1 hr1 => ⟨1, r1, rfl, rfl, .ref d, rfl, d, ds, 3, 9, rfl, hD5, by decide, by decide, fun r2 hr2 => ⟨1000001, r2, rfl, rfl, by show 6 ≤ sizeLine; decide, fun p6 np6 => ?_⟩⟩⟩
    have s6 : Same H5 (upd H5 p6 (.lst [.non, .int 1, .int 1000000, .int (1 + r1), .int 0, .int (1000001 + r2)])) := same_upd np6
    refine ⟨.ref d, rfl, d, ds, 4, 6, rfl, s6.seq hD5, by decide, by decide, fun r3 hr3 => ?_⟩
    obtain ⟨o, go⟩ := at_o (os := [none, some 1, some 1000000, some (1 + r1), some 0, some (1000001 + r2)]) (k := r3) hr3.1 hr3.2
    refine ⟨p6, _, r3, oV o, rfl, rfl, .inl (.inl upd_same), go, ?_⟩
    have hN6 := hN5.to s6
    have hK6 := hK5.to s6
    have hD6 := s6.seq hD5
    generalize upd H5 p6 (.lst [.non, .int 1, .int 1000000, .int (1 + r1), .int 0, .int (1000001 + r2)]) = Hb at hN6 hK6 hD6 ⊢
    clear s6 hN5 hK5 hD5 s5
    -- the turns
    refine q_forR (n := 8) (va_cons vl_c va_nil) ⟨by decide, by decide⟩
      (fun i σ H3 => ∃ y5 y6 y7 y8 y9 y10, σ = [some (.ref a), some (.ref d), some (.ref p), some (.ref t), some (oV o), y5, y6, y7, y8, y9, y10, none] ∧ Same Hb H3)
      ⟨_, _, _, _, _, _, rfl, Same.refl _⟩ (fun i σ H3 hi hP => ?_) (fun σ H3 hP => ?_)
    · obtain ⟨y5, y6, y7, y8, y9, y10, rfl, sb⟩ := hP
      have hN3 := hN6.to sb
      have hK3 := hK6.to sb
      have hD3 := sb.seq hD6
      obtain ⟨p', c', xs', ep, hp3, hc3, hx3⟩ := id hN3
      cases ep
      refine q_asgI (P := fun _ => True) (vi_I0 (vi_call (P := fun r => 0 ≤ r ∧ r < N.n + 2) (va_cons (vl_var rfl) (va_cons (vl_I0 vl_c (vl_I vl_c (vl_var rfl) (.inl ⟨by decide, by decide⟩))) (va_cons (vl_I0 (vl_ixT (vl_var rfl) vl_c (.of hp3) (atI_nat (j := 0) rfl)) vl_c) va_nil))) fun Q E q => ⟨d, ds, _, N.n + 2, rfl, hD3, by omega, by omega, q⟩) (vi_of vl_c) (fun _ _ _ _ => trivial)) (fun a1 _ => ?_)
      refine q_asgI (P := fun _ => True) (vi_I0 (vi_call (P := fun r => 0 ≤ r ∧ r < N.n + 2) (va_cons (vl_var rfl) (va_cons (vl_I0 vl_c (vl_I vl_c (vl_var rfl) (.inl ⟨by decide, by decide⟩))) (va_cons (vl_I0 (vl_ixT (vl_var rfl) vl_c (.of hp3) (atI_nat (j := 0) rfl)) vl_c) va_nil))) fun Q E q => ⟨d, ds, _, N.n + 2, rfl, hD3, by omega, by omega, q⟩) (vi_of vl_c) (fun _ _ _ _ => trivial)) (fun b1 _ => ?_)
      refine q_cut (M := fun σ' H' => ∃ a2 b2 : Int, σ' = [some (.ref a), some (.ref d), some (.ref p), some (.ref t), some (oV o), some (.int i), some (.int a2), some (.int b2), y8, y9, y10, none] ∧ Same Hb H') ?_ ?_
      · have vlen : Vl (tCB (fun xs H Q => ∃ p ys, xs = [V.ref p] ∧ (SqL K H p ys ∨ SqT K H p ys) ∧ Q (V.int ys.length) H) (tCons (tOp (rIxT K) (tVar 2) (tC (.int 1))) tNil)) [some (.ref a), some (.ref d), some (.ref p), some (.ref t), some (oV o), some (.int i), some (.int a1), some (.int b1), y8, y9, y10, none] H3 (.int xs'.length) := vl_lenL (vl_ixT (vl_var rfl) vl_c (.of hp3) (atI_nat (j := 1) rfl)) (.of hc3)
        refine g_when (b := decide ((2 : Int) < (i : Int)) && decide ((0 : Int) < (xs'.length : Int))) ?_ (fun hb => ?_) (fun _ => ⟨a1, b1, rfl, sb⟩)
        · exact an_and (an_test (vl_I0 (vl_var rfl) vl_c)) fun _ => an_test (vl_I0 vlen vl_c)
        · rw [Bool.and_eq_true] at hb
          have hx0 := of_decide_eq_true hb.2
          have lx := DpAll.len hx3
          rw [List.length_map] at lx
          refine (vl_ixT (K := K) (vl_var rfl) vl_c (.of hp3) (atI_nat (j := 1) rfl)) _ ?_
          refine (vi_call (P := fun r => 0 ≤ r ∧ r < (xs'.length : Int)) (va_cons (vl_var rfl) (va_cons (vl_var rfl) (va_cons vlen va_nil))) fun Q E q => ⟨d, ds, (i : Int), (xs'.length : Int), rfl, hD3, by omega, hx0, q⟩) _ fun r hr => ?_
          have hg : N.ls[r.toNat]? = some N.ls[r.toNat] := List.getElem?_eq_getElem (by omega)
          generalize N.ls[r.toNat] = lk at hg
          obtain ⟨v', ev, dv⟩ := DpAll.get (i := r.toNat) (d := lnkD lk) hx3 (by
            rw [List.getElem?_map, hg]
            rfl)
          obtain ⟨tl, rfl, htl⟩ := Dp.lnk_inv dv
          have ev2 := atI_nat ev
          rw [show ((r.toNat : Nat) : Int) = r by omega] at ev2
          refine ⟨c', xs', r, .ref tl, rfl, rfl, .of hc3, ev2, 2, rfl, tl, lnkV lk, rfl, htl, fun z => ?_, fun q2 nq2 => ?_⟩
          · have := z.2
            rw [show HT.sIx (lnkV lk).length (lnkV lk).length (some 2) = min 2 4 from HT.sIx_nat 4 4 2] at this
            exact absurd (show (2 : Nat) = 4 from this) (by decide)
          · rw [show cutV (lnkV lk) none (some 2) = [.int lk.a, .int lk.b] from cut_to (xs := lnkV lk) (n := 2) (by show 2 ≤ 4; decide)]
            have sq : Same H3 (upd H3 q2 (.tup [.int lk.a, .int lk.b])) := same_upd nq2
            refine ⟨q2, _, rfl, .of upd_same, rfl, _, _, rfl, _, _, rfl, rfl, ?_⟩
            refine ⟨.ref d, rfl, .int i, rfl, i, 1, rfl, rfl, d, ds, (i : Int) + 1, 2, rfl, sq.seq hD3, by omega, by decide, fun r2 hr2 => ⟨rfl, _, rfl, ite2 (fun _ => ?_) (fun _ => ?_)⟩⟩
            · refine ⟨.int lk.b, rfl, .int lk.a, rfl, by show 2 ≤ sizeLine; decide, fun q3 nq3 => ?_⟩
              refine ⟨q3, _, rfl, .of upd_same, rfl, _, _, rfl, _, _, rfl, rfl, ?_⟩
              exact ⟨lk.b, lk.a, rfl, (sb.trans sq).trans (same_upd nq3)⟩
            · exact ⟨lk.a, lk.b, rfl, sb.trans sq⟩
      · rintro σ' H7 ⟨a2, b2, rfl, sb7⟩
        clear hx3 hc3 hp3 hD3 hK3 hN3 sb
        have hN7 := hN6.to sb7
        have hK7 := hK6.to sb7
        -- told against due, as it is
        refine q_whenx (b := false) (ax_ne (d := dueD N a2 b2 none) (shaped_due _ _ _ _) (fun Q k => ?_) (fun H' s' Q k => ?_)) (fun e => nomatch e) (fun _ H8 s8 => ?_)
        · refine ⟨.ref p, rfl, .int a2, rfl, .int b2, rfl, .ref p, a2, b2, some 0, false, N, rfl, hN7.dp, by omega, fun H' v' s' d' => ?_⟩
          rw [told_false okN] at d'
          exact k v' H' s' d'
        · exact ⟨.ref t, rfl, .int a2, rfl, .int b2, rfl, .ref t, a2, b2, none, N, rfl, (hK7.to s').dp, fun H2 v' s2 d' => k v' H2 s2 d'⟩
        -- due
        have sb8 := sb7.trans s8
        refine q_asgE ⟨.ref t, rfl, .int a2, rfl, .int b2, rfl, oV o, rfl, .ref t, a2, b2, o, N, rfl, (hK6.to sb8).dp, fun H9 vd s9 dd => ?_⟩
        have sb9 := sb8.trans s9
        refine q_cut (M := fun σ' H' => ∃ ve : V, σ' = [some (.ref a), some (.ref d), some (.ref p), some (.ref t), some (oV o), some (.int i), some (.int a2), some (.int b2), some ve, y9, y10, none] ∧ Same Hb H' ∧ Dp K H' ve (toldD N a2 b2 o true)) ?_ ?_
        · rcases due_cases okN a2 b2 o with ⟨x, d0, e, hxn, et⟩ | ⟨d0, e, et⟩
          · rw [e] at dd
            obtain ⟨td, ys, rfl, htd, hys⟩ := Dp.tup_inv dd
            cases hys with
            | cons h1 r1 =>
              cases h1
              refine g_when (b := decide (V.str x = V.str "link")) ?_ (fun hb => ?_) (fun _ => ⟨.ref td, rfl, sb9, ?_⟩)
              · exact an_test (vl_eq (vl_ixT (vl_var rfl) vl_c htd (atI_nat (j := 0) rfl)) vl_c rfl)
              · exact absurd (V.str.inj (of_decide_eq_true hb)) hxn
              · rw [et, e]
                exact .tup htd (.cons (.str x) r1)
          · rw [e] at dd
            obtain ⟨td, ys, rfl, htd, hys⟩ := Dp.tup_inv dd
            cases hys with
            | cons h1 r1 =>
              cases h1
              refine g_when (b := decide (V.str "link" = V.str "link")) ?_ (fun hb => ?_) (fun hb => absurd rfl (of_decide_eq_false hb))
              · exact an_test (vl_eq (vl_ixT (vl_var rfl) vl_c htd (atI_nat (j := 0) rfl)) vl_c rfl)
              · refine ⟨.ref t, rfl, .int a2, rfl, .int b2, rfl, oV o, rfl, .ref t, a2, b2, o, N, rfl, (hK6.to sb9).dp, by omega, fun H10 v10 s10 d10 => ⟨by show 2 ≤ sizeLine; decide, fun R nR => ?_⟩⟩
                refine ⟨.ref R, rfl, (sb9.trans s10).trans (same_upd nR), ?_⟩
                rw [et]
                exact .tup (.of upd_same) (.cons (.str "net") (.cons (Dp.to d10 (same_upd nR)) .nil))
        · rintro σ' H10 ⟨ve, rfl, sb10, de⟩
          refine q_whenx (b := false) (ax_ne (d := toldD N a2 b2 o true) (shaped_told _ _ _ _) (fun Q k => ?_) (fun H' s' Q k => ?_)) (fun e => nomatch e) (fun _ H11 s11 => ?_)
          · exact ⟨.ref p, rfl, .int a2, rfl, .int b2, rfl, oV o, rfl, .ref p, a2, b2, o, true, N, rfl, (hN6.to sb10).dp, by omega, fun H' v' s' d' => k v' H' s' d'⟩
          · exact (vl_var rfl) _ (k _ _ (Same.refl _) (Dp.to de s'))
          have sb11 := sb10.trans s11
          obtain ⟨t', c', xs', ep, hp3, hc3, hx3⟩ := id (hK6.to sb11)
          cases ep
          have lx := DpAll.len hx3
          rw [List.length_map] at lx
          -- near
          refine q_asgE ((vl_ixT (K := K) (vl_var rfl) vl_c (.of hp3) (atI_nat (j := 1) rfl)) _ ⟨c', rfl, ⟨xs', .of hc3⟩, fun D nD => ?_⟩)
          have sD : ∀ u, Same H11 (upd H11 D u) := fun u => same_upd nD
          refine lc_list (K := K) (a := c') (xs := xs')
            (fun j H' => H' D = some (.lst ((nearOf a2 (N.ls.take j)).map V.int)) ∧ Same H11 H')
            ⟨upd_same, sD _⟩ (fun j H' _ hP => .of (hP.2 _ _ hc3)) (fun j x H' hj hP => ?_) (fun H' hP => ?_)
          · obtain ⟨hDj, s'⟩ := hP
            have hjl := (List.getElem?_eq_some_iff.mp hj).1
            have hg : N.ls[j]? = some N.ls[j] := List.getElem?_eq_getElem (by omega)
            generalize N.ls[j] = lk at hg
            obtain ⟨v', ev, dv⟩ := DpAll.get (i := j) (d := lnkD lk) hx3 (by
              rw [List.getElem?_map, hg]
              rfl)
            cases hj.symm.trans ev
            obtain ⟨tl, rfl, htl⟩ := Dp.lnk_inv dv
            have en : nearOf a2 (N.ls.take (j + 1)) = nearOf a2 (N.ls.take j) ++ (nearF a2 lk).toList := by
              unfold nearOf
              rw [take_snoc hg, List.filterMap_append]
              cases e : nearF a2 lk <;> simp [e]
            refine ⟨rfl, .int a2, rfl, .ref tl, rfl, 2, rfl, tl, lnkV lk, rfl, seqT s' htl, fun z => ?_, fun q2 nq2 => ?_⟩
            · have := z.2
              rw [show HT.sIx (lnkV lk).length (lnkV lk).length (some 2) = min 2 4 from HT.sIx_nat 4 4 2] at this
              exact absurd (show (2 : Nat) = 4 from this) (by decide)
            · rw [show cutV (lnkV lk) none (some 2) = [.int lk.a, .int lk.b] from cut_to (xs := lnkV lk) (n := 2) (by show 2 ≤ 4; decide)]
              have sq : Same H' (upd H' q2 (.tup [.int lk.a, .int lk.b])) := same_upd nq2
              have nDq : D ≠ q2 := ne_of_none hDj nq2
              have ein : inV (.int a2) [V.int lk.a, V.int lk.b] = decide (lk.a = a2 ∨ lk.b = a2) := by
                show (eqV (.int lk.a) (.int a2) || (eqV (.int lk.b) (.int a2) || false)) = _
                show ((lk.a == a2) || ((lk.b == a2) || false)) = _
                rw [Bool.or_false, Bool.eq_iff_iff]
                simp
              refine ⟨q2, _, rfl, .inr (.of upd_same), rfl, rfl, _, rfl, ?_⟩
              rw [if_neg Bool.false_ne_true, ein]
              refine ite2 (fun hb => ?_) (fun hb => ?_)
              · have hb := of_decide_eq_true hb
                have ef : nearF a2 lk = some (lk.a + lk.b - a2) := nearF_sum.trans (if_pos hb)
                refine (vl_I0 (vl_I0 (vl_ixT (K := K) (vl_var rfl) vl_c (seqT (s'.trans sq) htl) (atI_nat (j := 0) rfl)) (vl_ixT (K := K) (vl_var rfl) vl_c (seqT (s'.trans sq) htl) (atI_nat (j := 1) rfl))) (vl_var rfl)) _ ?_
                refine ⟨_, sq _ _ hDj, ?_, ?_, same_upd' (s'.trans sq) nD⟩
                · rw [List.length_map]
                  refine Nat.lt_of_le_of_lt (List.length_filterMap_le _ _) (Nat.lt_of_le_of_lt (m := 10000) ?_ (by decide))
                  rw [List.length_take]
                  omega
                · rw [upd_same, en, ef, List.map_append]
                  rfl
              · have ef : nearF a2 lk = none := nearF_sum.trans (if_neg (fun z => hb (decide_eq_true z)))
                refine ⟨?_, s'.trans sq⟩
                rw [sq _ _ hDj, en, ef]
                simp
          · obtain ⟨hDj, s'⟩ := hP
            rw [lx, List.take_length] at hDj
            refine ⟨D, _, rfl, .of hDj, Nat.lt_of_le_of_lt (near_len okN a2) (by decide), fun ns' p9 hpm hrs np9 => ?_⟩
            have ens := near_sorted okN hpm hrs
            subst ens
            have s12 : Same H' (upd H' p9 (.lst ((nearOf a2 N.ls).map V.int))) := same_upd np9
            have sb12 := (sb11.trans s').trans s12
            refine q_cut (M := fun σ' H' => ∃ vn : V, σ' = [some (.ref a), some (.ref d), some (.ref p), some (.ref t), some (oV o), some (.int i), some (.int a2), some (.int b2), some ve, some vn, y10, none] ∧ Same Hb H' ∧ ((0 ≤ a2 ∧ a2 < N.n) ∧ (∃ q, vn = .ref q ∧ H' q = some (.lst ((nearOf a2 N.ls).map V.int))) ∨ ¬ (0 ≤ a2 ∧ a2 < N.n) ∧ vn = .int a2)) ?_ ?_
            · refine g_when (b := !(decide ((0 : Int) ≤ a2) && decide (a2 < N.n))) ?_ (fun hb => ?_) (fun hb => ?_)
              · exact an_not (an_test (vl_chainI vl_c (vl_var rfl) (vl_ixT (vl_var rfl) vl_c (.of ((s'.trans s12) _ _ hp3)) (atI_nat (j := 0) rfl))))
              · refine g_asg (vl_var rfl) ⟨.int a2, rfl, sb12, .inr ⟨fun h => ?_, rfl⟩⟩
                rw [decide_eq_true h.1, decide_eq_true h.2] at hb
                cases hb
              · rw [Bool.not_eq_false', Bool.and_eq_true] at hb
                exact ⟨.ref p9, rfl, sb12, .inl ⟨⟨of_decide_eq_true hb.1, of_decide_eq_true hb.2⟩, p9, rfl, upd_same⟩⟩
            · rintro σ' H13 ⟨vn, rfl, sb13, hcase⟩
              have hN13 := hN6.to sb13
              rcases hcase with ⟨hin, qn, rfl, hqn⟩ | ⟨hout, rfl⟩
              · -- a place of the net: two lists
                have nl40 := near_len okN a2
                have shp : SeqAt.shaped (.list ((nearOf a2 N.ls).map PyData.int)) = true := shaped_ints _
                refine q_asgE ⟨.ref p, rfl, .int a2, rfl, .ref p, a2, N, rfl, hN13.dp, by omega, fun h => absurd hin h, fun _ H14 T s14 nT hT => ?_⟩
                have sb14 := sb13.trans s14
                refine q_whenx (b := false) (ax_or (k := false) (m := false) (ax_ne shp (fun Q k => (vl_var rfl) _ (k _ _ (Same.refl _) (Dp.ints (.of hT)))) (fun H' s' Q k => (vl_var rfl) _ (k _ _ (Same.refl _) (Dp.ints (.of (s' _ _ (s14 _ _ hqn))))))) (fun _ H' s' => ax_ne (shaped_net N) (fun Q k => (vl_var rfl) _ (k _ _ (Same.refl _) (hN6.to (sb14.trans s')).dp)) (fun H2 s2 Q k => (vl_var rfl) _ (k _ _ (Same.refl _) (hK6.to ((sb14.trans s').trans s2)).dp)))) (fun e => nomatch e) (fun _ H15 s15 => ?_)
                refine g_when (b := true) ?_ (fun _ => ?_) (fun e => nomatch e)
                · exact an_B fun Q k => ⟨_, rfl, _, .ty "list", .type "list", .type "list", true, rfl, .ty _, .base (.lst (s15 _ _ hT)), kit_ty (by decide +kernel), k⟩
                · have sb15 := sb14.trans s15
                  have nqT : qn ≠ T := ne_of_none hqn nT
                  have hTb : Hb T = none := Same.free sb13 nT
                  refine q_app (vl_var rfl) (s15 _ _ hT) vl_c ?_ ?_
                  · rw [List.length_map]
                    exact Nat.lt_of_le_of_lt (m := 10000) (by omega) (by decide)
                  · have sb16 : Same Hb (upd H15 T (.lst ((nearOf a2 N.ls).map V.int ++ [.int 1]))) := same_upd' sb15 hTb
                    have hq16 : upd H15 T (.lst ((nearOf a2 N.ls).map V.int ++ [.int 1])) qn = some (.lst ((nearOf a2 N.ls).map V.int)) := by
                      rw [upd_ne nqT]
                      exact s15 _ _ (s14 _ _ hqn)
                    refine g_whenx (b := false) (ax_ne shp (fun Q k => ?_) (fun H' s' Q k => (vl_var rfl) _ (k _ _ (Same.refl _) (Dp.ints (.of (s' _ _ hq16)))))) (fun e => nomatch e) (fun _ H17 s17 => ⟨_, _, _, _, _, _, rfl, sb16.trans s17⟩)
                    exact ⟨.ref p, rfl, .int a2, rfl, .ref p, a2, N, rfl, (hN6.to sb16).dp, by omega, fun h => absurd hin h, fun _ H' p' s' np' hp' => k _ _ s' (Dp.ints (.of hp'))⟩
              · -- none: two ints
                have shp : SeqAt.shaped (.int a2) = true := rfl
                refine q_asgE ⟨.ref p, rfl, .int a2, rfl, .ref p, a2, N, rfl, hN13.dp, by omega, fun _ H14 s14 => ?_, fun h => absurd h hout⟩
                have sb14 := sb13.trans s14
                refine q_whenx (b := false) (ax_or (k := false) (m := false) (ax_ne shp (fun Q k => (vl_var rfl) _ (k _ _ (Same.refl _) (.int a2))) (fun H' s' Q k => (vl_var rfl) _ (k _ _ (Same.refl _) (.int a2)))) (fun _ H' s' => ax_ne (shaped_net N) (fun Q k => (vl_var rfl) _ (k _ _ (Same.refl _) (hN6.to (sb14.trans s')).dp)) (fun H2 s2 Q k => (vl_var rfl) _ (k _ _ (Same.refl _) (hK6.to ((sb14.trans s').trans s2)).dp)))) (fun e => nomatch e) (fun _ H15 s15 => ?_)
                refine g_when (b := false) ?_ (fun e => nomatch e) (fun _ => ⟨_, _, _, _, _, _, rfl, sb14.trans s15⟩)
                exact an_B fun Q k => ⟨_, rfl, _, .ty "list", .type "int", .type "list", false, rfl, .ty _, .base (.int _), kit_ty (by decide +kernel), k⟩
    · exact g_ret vl_c (q H3)
end
/-! ### what the top has written; the law's own head -/
theorem df_mk {K : PySem.W.Frag} {h : Heap} {mg : Str → Option Value} {x : Str} {st : Stmt} {ps : List Str} {f : Addr} {oc : Value} {od an : Option Addr} {osl : Array (Option Value)} {kV doc pm cdv ct : Value} (X : K.In h) (G : h.Ns mainGlobals mg)
    (a : PySem.W.nsIn K mainGlobals x = some (some (.ref f))) (l : K.lookup f = some ⟨oc, od, .func (PySem.W.fnOf x x (defArgs st) (defBody st) (defScope st) .none kV doc pm an cdv ct), osl⟩) (c : PySem.W.codeIn K cdv x = true) (k : PySem.W.keepIn K (.ref f) = true)
    (hb : ∀ (kV doc pm : Value) (an : Option Addr) (cdv ct : Value) (us : List Value), us.length = ps.length → bindArgs (PySem.W.fnOf x x (defArgs st) (defBody st) (defScope st) .none kV doc pm an cdv ct) ⟨us, []⟩ = pure (ps.zip us)) : Df K mg x st ps :=
  ⟨f, _, fun_mk l c k, PySem.W.mg_of X G a, (fun_mk l c k).binds hb⟩
theorem exm_two {K : PySem.W.Frag} {S : Addr} {c : Value} {b : Bool} (h1 : PySem.W.subIn K (.ref S) (.type "BaseException") = some true) (h2 : PySem.W.isClsIn K S = true) (h3 : PySem.W.typeIn K (.ref S) = some (.type "type")) (h4 : PySem.W.subIn K c (.ref S) = some b) : PySem.W.exmOne K c (.ref S) = some b := by
  have e1 : (PySem.W.subIn K (.ref S) (.type "BaseException") == some true) = true := by rw [h1] <;> rfl
  have e2 : ((PySem.W.clsIn K S).isSome && PySem.W.typeIn K (.ref S) == some (.type "type")) = true := by
    have h2' : (PySem.W.clsIn K S).isSome = true := h2
    rw [h2', h3] <;> rfl
  show (if (PySem.W.subIn K (.ref S) (.type "BaseException") == some true) = true then (if ((PySem.W.clsIn K S).isSome && PySem.W.typeIn K (.ref S) == some (.type "type")) = true then PySem.W.subIn K c (.ref S) else none) else none) = some b
  rw [if_pos e1, if_pos e2]
  exact h4
/-- what is asked of an error's class -/
structure ErrAt (K : PySem.W.Frag) (x : Str) (C CO fI : Addr) : Prop where
  a : PySem.W.nsIn K mainGlobals x = some (some (.ref C))
  xL : ∃ nm q N bs sn sub ab col dd m0 m1 m2 m3 m5, K.lookup C = some (excClassObj nm q C N bs [.ref CO, .type "ValueError", .type "Exception", .type "BaseException", .type "object"] true sn sub ab col dd m0 m1 m2 m3 m5 "ValueError.__new__")
  sa : PySem.W.findIn K (.ref C) "__setattr__" = some (some (.builtin "object.__setattr__"))
  ga : PySem.W.findIn K (.ref C) "__getattribute__" = some (some (.builtin "BaseException.__getattribute__"))
  gg : PySem.W.findIn K (.ref C) "__getattr__" = some none
  nb : PySem.W.findIn K (.ref C) "at" = some none
  ii : PySem.W.findIn K (.ref C) "__init__" = some (some (.ref fI))
  kC : PySem.W.keepIn K (.ref C) = true
  eC : PySem.W.subIn K (.ref C) (.type "BaseException") = some true
  tC : PySem.W.typeIn K (.ref C) = some (.type "type")
  hC : PySem.W.hasDictIn K C = true
  iC : PySem.W.isClsIn K C = true
  sC : PySem.W.subIn K (.ref C) (.ref C) = some true
structure InitAt (K : PySem.W.Frag) (fI : Addr) : Prop where
  t : PySem.W.typeIn K (.ref fI) = some (.type "function")
  l : ∃ oc od dc pm an cd ct sl, K.lookup fI = some ⟨oc, od, .func (PySem.W.fnOf "__init__" "OverpassesError.__init__" (PySem.LowX.iA ⟨4, 17, 4, 21⟩ ⟨4, 23, 4, 25⟩) (PySem.LowX.iB ⟨5, 8, 5, 12⟩ ⟨5, 8, 5, 15⟩ ⟨5, 18, 5, 20⟩ ⟨5, 8, 5, 20⟩) PySem.LowX.iS .none .none dc pm an cd ct), sl⟩ ∧ PySem.W.codeIn K cd "OverpassesError.__init__" = true
theorem low_mk {K : PySem.W.Frag} {h : Heap} {mg : Str → Option Value} {x : Str} {C CO fI : Addr} (X : K.In h) (G : h.Ns mainGlobals mg) (E : ErrAt K x C CO fI) (I : InitAt K fI) : PySem.LowX.LowTxt K mg x C fI := by
  obtain ⟨nm, q, N, bs, sn, sub, ab, col, dd, m0, m1, m2, m3, m5, xL⟩ := E.xL
  obtain ⟨oc, od, dc, pm, an, cd, ct, sl, l1, c1⟩ := I.l
  exact { gC := PySem.W.mg_of X G E.a, cls := ⟨nm, q, N, bs, _, sn, sub, ab, col, dd, m0, m1, m2, m3, m5, xL, rfl⟩, sa := E.sa, ga := E.ga, gg := E.gg, noN := E.nb, iC := E.ii, tC := I.t, kC := E.kC, exC := E.eC, tyC := E.tC, hdC := E.hC, te := exm_two E.eC E.iC E.tC E.sC, fn := ⟨_, _, _, _, _, _, _, _, _, _, _, _, _, _, l1, c1⟩ }
theorem all_mk {l : PySem.W.OpenLaw} {w : World} {K : PySem.W.Frag} {h : Heap} {mg : Str → Option Value} {fa f0 f1 f2 f3 f4 f5 f6 f7 f8 f9 f10 f11 f12 f13 f14 f15 f16 f17 : Addr} (X : K.In h) (G : h.Ns mainGlobals mg) (hfa : mg "law" = some (.ref fa))
    {od0 an0 od1 an1 od2 an2 od3 an3 od4 an4 od5 an5 od6 an6 od7 an7 od8 an8 od9 an9 od10 an10 od11 an11 od12 an12 od13 an13 od14 an14 od15 an15 od16 an16 od17 an17 : Option Addr} {sl0 sl1 sl2 sl3 sl4 sl5 sl6 sl7 sl8 sl9 sl10 sl11 sl12 sl13 sl14 sl15 sl16 sl17 : Array (Option Value)} {oc0 kV0 dc0 pm0 cd0 ct0 oc1 kV1 dc1 pm1 cd1 ct1 oc2 kV2 dc2 pm2 cd2 ct2 oc3 kV3 dc3 pm3 cd3 ct3 oc4 kV4 dc4 pm4 cd4 ct4 oc5 kV5 dc5 pm5 cd5 ct5 oc6 kV6 dc6 pm6 cd6 ct6 oc7 kV7 dc7 pm7 cd7 ct7 oc8 kV8 dc8 pm8 cd8 ct8 oc9 kV9 dc9 pm9 cd9 ct9 oc10 kV10 dc10 pm10 cd10 ct10 oc11 kV11 dc11 pm11 cd11 ct11 oc12 kV12 dc12 pm12 cd12 ct12 oc13 kV13 dc13 pm13 cd13 ct13 oc14 kV14 dc14 pm14 cd14 ct14 oc15 kV15 dc15 pm15 cd15 ct15 oc16 kV16 dc16 pm16 cd16 ct16 oc17 kV17 dc17 pm17 cd17 ct17 : Value}
    (a0 : PySem.W.nsIn K mainGlobals "_law_draws" = some (some (.ref f0))) (l0 : K.lookup f0 = some ⟨oc0, od0, .func (PySem.W.fnOf "_law_draws" "_law_draws" (defArgs sDraws) (defBody sDraws) (defScope sDraws) .none kV0 dc0 pm0 an0 cd0 ct0), sl0⟩) (c0 : PySem.W.codeIn K cd0 "_law_draws" = true) (k0 : PySem.W.keepIn K (.ref f0) = true)
    (a1 : PySem.W.nsIn K mainGlobals "_law_at" = some (some (.ref f1))) (l1 : K.lookup f1 = some ⟨oc1, od1, .func (PySem.W.fnOf "_law_at" "_law_at" (defArgs sAt) (defBody sAt) (defScope sAt) .none kV1 dc1 pm1 an1 cd1 ct1), sl1⟩) (c1 : PySem.W.codeIn K cd1 "_law_at" = true) (k1 : PySem.W.keepIn K (.ref f1) = true)
    (a2 : PySem.W.nsIn K mainGlobals "_law_mix" = some (some (.ref f2))) (l2 : K.lookup f2 = some ⟨oc2, od2, .func (PySem.W.fnOf "_law_mix" "_law_mix" (defArgs sMix) (defBody sMix) (defScope sMix) .none kV2 dc2 pm2 an2 cd2 ct2), sl2⟩) (c2 : PySem.W.codeIn K cd2 "_law_mix" = true) (k2 : PySem.W.keepIn K (.ref f2) = true)
    (a3 : PySem.W.nsIn K mainGlobals "_law_price" = some (some (.ref f3))) (l3 : K.lookup f3 = some ⟨oc3, od3, .func (PySem.W.fnOf "_law_price" "_law_price" (defArgs sPrice) (defBody sPrice) (defScope sPrice) .none kV3 dc3 pm3 an3 cd3 ct3), sl3⟩) (c3 : PySem.W.codeIn K cd3 "_law_price" = true) (k3 : PySem.W.keepIn K (.ref f3) = true)
    (a4 : PySem.W.nsIn K mainGlobals "_law_net" = some (some (.ref f4))) (l4 : K.lookup f4 = some ⟨oc4, od4, .func (PySem.W.fnOf "_law_net" "_law_net" (defArgs sNet) (defBody sNet) (defScope sNet) .none kV4 dc4 pm4 an4 cd4 ct4), sl4⟩) (c4 : PySem.W.codeIn K cd4 "_law_net" = true) (k4 : PySem.W.keepIn K (.ref f4) = true)
    (a5 : PySem.W.nsIn K mainGlobals "is_price" = some (some (.ref f5))) (l5 : K.lookup f5 = some ⟨oc5, od5, .func (PySem.W.fnOf "is_price" "is_price" (defArgs sIsPrice) (defBody sIsPrice) (defScope sIsPrice) .none kV5 dc5 pm5 an5 cd5 ct5), sl5⟩) (c5 : PySem.W.codeIn K cd5 "is_price" = true) (k5 : PySem.W.keepIn K (.ref f5) = true)
    (a6 : PySem.W.nsIn K mainGlobals "is_net" = some (some (.ref f6))) (l6 : K.lookup f6 = some ⟨oc6, od6, .func (PySem.W.fnOf "is_net" "is_net" (defArgs sIsNet) (defBody sIsNet) (defScope sIsNet) .none kV6 dc6 pm6 an6 cd6 ct6), sl6⟩) (c6 : PySem.W.codeIn K cd6 "is_net" = true) (k6 : PySem.W.keepIn K (.ref f6) = true)
    (a7 : PySem.W.nsIn K mainGlobals "price" = some (some (.ref f7))) (l7 : K.lookup f7 = some ⟨oc7, od7, .func (PySem.W.fnOf "price" "price" (defArgs sPr) (defBody sPr) (defScope sPr) .none kV7 dc7 pm7 an7 cd7 ct7), sl7⟩) (c7 : PySem.W.codeIn K cd7 "price" = true) (k7 : PySem.W.keepIn K (.ref f7) = true)
    (a8 : PySem.W.nsIn K mainGlobals "neighbours" = some (some (.ref f8))) (l8 : K.lookup f8 = some ⟨oc8, od8, .func (PySem.W.fnOf "neighbours" "neighbours" (defArgs sNear) (defBody sNear) (defScope sNear) .none kV8 dc8 pm8 an8 cd8 ct8), sl8⟩) (c8 : PySem.W.codeIn K cd8 "neighbours" = true) (k8 : PySem.W.keepIn K (.ref f8) = true)
    (a9 : PySem.W.nsIn K mainGlobals "with_price" = some (some (.ref f9))) (l9 : K.lookup f9 = some ⟨oc9, od9, .func (PySem.W.fnOf "with_price" "with_price" (defArgs sWith) (defBody sWith) (defScope sWith) .none kV9 dc9 pm9 an9 cd9 ct9), sl9⟩) (c9 : PySem.W.codeIn K cd9 "with_price" = true) (k9 : PySem.W.keepIn K (.ref f9) = true)
    (a10 : PySem.W.nsIn K mainGlobals "_link_index" = some (some (.ref f10))) (l10 : K.lookup f10 = some ⟨oc10, od10, .func (PySem.W.fnOf "_link_index" "_link_index" (defArgs sLinkIx) (defBody sLinkIx) (defScope sLinkIx) .none kV10 dc10 pm10 an10 cd10 ct10), sl10⟩) (c10 : PySem.W.codeIn K cd10 "_link_index" = true) (k10 : PySem.W.keepIn K (.ref f10) = true)
    (a11 : PySem.W.nsIn K mainGlobals "check_places" = some (some (.ref f11))) (l11 : K.lookup f11 = some ⟨oc11, od11, .func (PySem.W.fnOf "check_places" "check_places" (defArgs sChkPl) (defBody sChkPl) (defScope sChkPl) .none kV11 dc11 pm11 an11 cd11 ct11), sl11⟩) (c11 : PySem.W.codeIn K cd11 "check_places" = true) (k11 : PySem.W.keepIn K (.ref f11) = true)
    (a12 : PySem.W.nsIn K mainGlobals "_law_spoilt" = some (some (.ref f12))) (l12 : K.lookup f12 = some ⟨oc12, od12, .func (PySem.W.fnOf "_law_spoilt" "_law_spoilt" (defArgs sSpoilt) (defBody sSpoilt) (defScope sSpoilt) .none kV12 dc12 pm12 an12 cd12 ct12), sl12⟩) (c12 : PySem.W.codeIn K cd12 "_law_spoilt" = true) (k12 : PySem.W.keepIn K (.ref f12) = true)
    (a13 : PySem.W.nsIn K mainGlobals "_law_due" = some (some (.ref f13))) (l13 : K.lookup f13 = some ⟨oc13, od13, .func (PySem.W.fnOf "_law_due" "_law_due" (defArgs sDue) (defBody sDue) (defScope sDue) .none kV13 dc13 pm13 an13 cd13 ct13), sl13⟩) (c13 : PySem.W.codeIn K cd13 "_law_due" = true) (k13 : PySem.W.keepIn K (.ref f13) = true)
    (a14 : PySem.W.nsIn K mainGlobals "_law_told" = some (some (.ref f14))) (l14 : K.lookup f14 = some ⟨oc14, od14, .func (PySem.W.fnOf "_law_told" "_law_told" (defArgs sTold) (defBody sTold) (defScope sTold) .none kV14 dc14 pm14 an14 cd14 ct14), sl14⟩) (c14 : PySem.W.codeIn K cd14 "_law_told" = true) (k14 : PySem.W.keepIn K (.ref f14) = true)
    (a15 : PySem.W.nsIn K mainGlobals "_law_near" = some (some (.ref f15))) (l15 : K.lookup f15 = some ⟨oc15, od15, .func (PySem.W.fnOf "_law_near" "_law_near" (defArgs sLNear) (defBody sLNear) (defScope sLNear) .none kV15 dc15 pm15 an15 cd15 ct15), sl15⟩) (c15 : PySem.W.codeIn K cd15 "_law_near" = true) (k15 : PySem.W.keepIn K (.ref f15) = true)
    (a16 : PySem.W.nsIn K mainGlobals "_law_changed" = some (some (.ref f16))) (l16 : K.lookup f16 = some ⟨oc16, od16, .func (PySem.W.fnOf "_law_changed" "_law_changed" (defArgs sChanged) (defBody sChanged) (defScope sChanged) .none kV16 dc16 pm16 an16 cd16 ct16), sl16⟩) (c16 : PySem.W.codeIn K cd16 "_law_changed" = true) (k16 : PySem.W.keepIn K (.ref f16) = true)
    (a17 : PySem.W.nsIn K mainGlobals "law" = some (some (.ref f17))) (l17 : K.lookup f17 = some ⟨oc17, od17, .func (PySem.W.fnOf "law" "law" (defArgs sLaw) (defBody sLaw) (defScope sLaw) .none kV17 dc17 pm17 an17 cd17 ct17), sl17⟩) (c17 : PySem.W.codeIn K cd17 "law" = true) (k17 : PySem.W.keepIn K (.ref f17) = true)
    {CO fI : Addr} {C0 C1 C2 : Addr} {ocI : Value} {odI anI : Option Addr} {slI : Array (Option Value)} {dcI pmI cdI ctI : Value}
    (tI : PySem.W.typeIn K (.ref fI) = some (.type "function")) (lI : K.lookup fI = some ⟨ocI, odI, .func (PySem.W.fnOf "__init__" "OverpassesError.__init__" (PySem.LowX.iA ⟨4, 17, 4, 21⟩ ⟨4, 23, 4, 25⟩) (PySem.LowX.iB ⟨5, 8, 5, 12⟩ ⟨5, 8, 5, 15⟩ ⟨5, 18, 5, 20⟩ ⟨5, 8, 5, 20⟩) PySem.LowX.iS .none .none dcI pmI anI cdI ctI), slI⟩) (cI : PySem.W.codeIn K cdI "OverpassesError.__init__" = true)
    {nm100 : Str} {q100 : Str} {N100 : Addr} {bs100 : List Value} {sn100 : List Str} {sub100 : List Value} {ab100 : Bool} {col100 : Option Bool} {dd100 : Option Addr} {m0100 : Option Value} {m1100 : Option Value} {m2100 : Option Value} {m3100 : Option Value} {m5100 : Option Value}
    (ea0 : PySem.W.nsIn K mainGlobals "NoPlace" = some (some (.ref C0))) (ex0 : K.lookup C0 = some (excClassObj nm100 q100 C0 N100 bs100 [.ref CO, .type "ValueError", .type "Exception", .type "BaseException", .type "object"] true sn100 sub100 ab100 col100 dd100 m0100 m1100 m2100 m3100 m5100 "ValueError.__new__"))
    (es0 : PySem.W.findIn K (.ref C0) "__setattr__" = some (some (.builtin "object.__setattr__"))) (eg0 : PySem.W.findIn K (.ref C0) "__getattribute__" = some (some (.builtin "BaseException.__getattribute__"))) (eh0 : PySem.W.findIn K (.ref C0) "__getattr__" = some none) (en0 : PySem.W.findIn K (.ref C0) "at" = some none) (ei0 : PySem.W.findIn K (.ref C0) "__init__" = some (some (.ref fI)))
    (ek0 : PySem.W.keepIn K (.ref C0) = true) (eb0 : PySem.W.subIn K (.ref C0) (.type "BaseException") = some true) (et0 : PySem.W.typeIn K (.ref C0) = some (.type "type")) (ed0 : PySem.W.hasDictIn K C0 = true) (ec0 : PySem.W.isClsIn K C0 = true) (ef0 : PySem.W.subIn K (.ref C0) (.ref C0) = some true)
    {nm101 : Str} {q101 : Str} {N101 : Addr} {bs101 : List Value} {sn101 : List Str} {sub101 : List Value} {ab101 : Bool} {col101 : Option Bool} {dd101 : Option Addr} {m0101 : Option Value} {m1101 : Option Value} {m2101 : Option Value} {m3101 : Option Value} {m5101 : Option Value}
    (ea1 : PySem.W.nsIn K mainGlobals "NoLink" = some (some (.ref C1))) (ex1 : K.lookup C1 = some (excClassObj nm101 q101 C1 N101 bs101 [.ref CO, .type "ValueError", .type "Exception", .type "BaseException", .type "object"] true sn101 sub101 ab101 col101 dd101 m0101 m1101 m2101 m3101 m5101 "ValueError.__new__"))
    (es1 : PySem.W.findIn K (.ref C1) "__setattr__" = some (some (.builtin "object.__setattr__"))) (eg1 : PySem.W.findIn K (.ref C1) "__getattribute__" = some (some (.builtin "BaseException.__getattribute__"))) (eh1 : PySem.W.findIn K (.ref C1) "__getattr__" = some none) (en1 : PySem.W.findIn K (.ref C1) "at" = some none) (ei1 : PySem.W.findIn K (.ref C1) "__init__" = some (some (.ref fI)))
    (ek1 : PySem.W.keepIn K (.ref C1) = true) (eb1 : PySem.W.subIn K (.ref C1) (.type "BaseException") = some true) (et1 : PySem.W.typeIn K (.ref C1) = some (.type "type")) (ed1 : PySem.W.hasDictIn K C1 = true) (ec1 : PySem.W.isClsIn K C1 = true) (ef1 : PySem.W.subIn K (.ref C1) (.ref C1) = some true)
    {nm102 : Str} {q102 : Str} {N102 : Addr} {bs102 : List Value} {sn102 : List Str} {sub102 : List Value} {ab102 : Bool} {col102 : Option Bool} {dd102 : Option Addr} {m0102 : Option Value} {m1102 : Option Value} {m2102 : Option Value} {m3102 : Option Value} {m5102 : Option Value}
    (ea2 : PySem.W.nsIn K mainGlobals "BadPrice" = some (some (.ref C2))) (ex2 : K.lookup C2 = some (excClassObj nm102 q102 C2 N102 bs102 [.ref CO, .type "ValueError", .type "Exception", .type "BaseException", .type "object"] true sn102 sub102 ab102 col102 dd102 m0102 m1102 m2102 m3102 m5102 "ValueError.__new__"))
    (es2 : PySem.W.findIn K (.ref C2) "__setattr__" = some (some (.builtin "object.__setattr__"))) (eg2 : PySem.W.findIn K (.ref C2) "__getattribute__" = some (some (.builtin "BaseException.__getattribute__"))) (eh2 : PySem.W.findIn K (.ref C2) "__getattr__" = some none) (en2 : PySem.W.findIn K (.ref C2) "at" = some none) (ei2 : PySem.W.findIn K (.ref C2) "__init__" = some (some (.ref fI)))
    (ek2 : PySem.W.keepIn K (.ref C2) = true) (eb2 : PySem.W.subIn K (.ref C2) (.type "BaseException") = some true) (et2 : PySem.W.typeIn K (.ref C2) = some (.type "type")) (ed2 : PySem.W.hasDictIn K C2 = true) (ec2 : PySem.W.isClsIn K C2 = true) (ef2 : PySem.W.subIn K (.ref C2) (.ref C2) = some true)
    (ap1_0 : PySem.W.subIn K (.ref C1) (.ref C0) = some false)
    (ap2_0 : PySem.W.subIn K (.ref C2) (.ref C0) = some false)
    (ap2_1 : PySem.W.subIn K (.ref C2) (.ref C1) = some false)
    {tk0 : Tok} (q0 : PySem.W.nsIn K mainGlobals "HIGHEST_PRICE" = some (some (.int 1000000 tk0)))
    {tk1 : Tok} (q1 : PySem.W.nsIn K mainGlobals "MOST_PLACES" = some (some (.int 40 tk1)))
    (z0 : PySem.W.nsIn K mainGlobals "range" = some none) (z1 : PySem.W.nsIn K mainGlobals "min" = some none) (z2 : PySem.W.nsIn K mainGlobals "max" = some none) (z3 : PySem.W.nsIn K mainGlobals "len" = some none) (z4 : PySem.W.nsIn K mainGlobals "abs" = some none) (z5 : PySem.W.nsIn K mainGlobals "int" = some none) (z6 : PySem.W.nsIn K mainGlobals "list" = some none) (z7 : PySem.W.nsIn K mainGlobals "sorted" = some none) (z8 : PySem.W.nsIn K mainGlobals "isinstance" = some none) (z9 : PySem.W.nsIn K mainGlobals "enumerate" = some none) :
    ∃ fd : FuncData, (∀ (s : Shared) (v : Value), BindsTo s fd ⟨[v], []⟩ [("script", v)]) ∧ ∀ base : Heap, K.In base → base.Ns mainGlobals mg → FnOk l.prog w K mg base CX0 6 fa fd ["script"] (spLaw K) := by
  have e := hfa.symm.trans (PySem.W.mg_of X G a17)
  cases e
  have D__law_draws : Df K mg "_law_draws" sDraws ["script"] := df_mk X G a0 l0 c0 k0 (fun _ _ _ _ _ _ us hl => match us, hl with | [_], _ => rfl)
  have D__law_at : Df K mg "_law_at" sAt ["draws", "k", "many"] := df_mk X G a1 l1 c1 k1 (fun _ _ _ _ _ _ us hl => match us, hl with | [_, _, _], _ => rfl)
  have D__law_mix : Df K mg "_law_mix" sMix ["draws", "k", "many"] := df_mk X G a2 l2 c2 k2 (fun _ _ _ _ _ _ us hl => match us, hl with | [_, _, _], _ => rfl)
  have D__law_price : Df K mg "_law_price" sPrice ["draws", "k"] := df_mk X G a3 l3 c3 k3 (fun _ _ _ _ _ _ us hl => match us, hl with | [_, _], _ => rfl)
  have D__law_net : Df K mg "_law_net" sNet ["draws", "k", "most"] := df_mk X G a4 l4 c4 k4 (fun _ _ _ _ _ _ us hl => match us, hl with | [_, _, _], _ => rfl)
  have D_is_price : Df K mg "is_price" sIsPrice ["value"] := df_mk X G a5 l5 c5 k5 (fun _ _ _ _ _ _ us hl => match us, hl with | [_], _ => rfl)
  have D_is_net : Df K mg "is_net" sIsNet ["net"] := df_mk X G a6 l6 c6 k6 (fun _ _ _ _ _ _ us hl => match us, hl with | [_], _ => rfl)
  have D_price : Df K mg "price" sPr ["net", "a", "b"] := df_mk X G a7 l7 c7 k7 (fun _ _ _ _ _ _ us hl => match us, hl with | [_, _, _], _ => rfl)
  have D_neighbours : Df K mg "neighbours" sNear ["net", "a"] := df_mk X G a8 l8 c8 k8 (fun _ _ _ _ _ _ us hl => match us, hl with | [_, _], _ => rfl)
  have D_with_price : Df K mg "with_price" sWith ["net", "a", "b", "value"] := df_mk X G a9 l9 c9 k9 (fun _ _ _ _ _ _ us hl => match us, hl with | [_, _, _, _], _ => rfl)
  have D__link_index : Df K mg "_link_index" sLinkIx ["net", "a", "b"] := df_mk X G a10 l10 c10 k10 (fun _ _ _ _ _ _ us hl => match us, hl with | [_, _, _], _ => rfl)
  have D_check_places : Df K mg "check_places" sChkPl ["n", "places"] := df_mk X G a11 l11 c11 k11 (fun _ _ _ _ _ _ us hl => match us, hl with | [_, _], _ => rfl)
  have D__law_spoilt : Df K mg "_law_spoilt" sSpoilt ["draws", "net"] := df_mk X G a12 l12 c12 k12 (fun _ _ _ _ _ _ us hl => match us, hl with | [_, _], _ => rfl)
  have D__law_due : Df K mg "_law_due" sDue ["net", "a", "b", "value"] := df_mk X G a13 l13 c13 k13 (fun _ _ _ _ _ _ us hl => match us, hl with | [_, _, _, _], _ => rfl)
  have D__law_told : Df K mg "_law_told" sTold ["net", "a", "b", "value", "is_new"] := df_mk X G a14 l14 c14 k14 (fun _ _ _ _ _ _ us hl => match us, hl with | [_, _, _, _, _], _ => rfl)
  have D__law_near : Df K mg "_law_near" sLNear ["net", "a"] := df_mk X G a15 l15 c15 k15 (fun _ _ _ _ _ _ us hl => match us, hl with | [_, _], _ => rfl)
  have D__law_changed : Df K mg "_law_changed" sChanged ["net", "a", "b", "value"] := df_mk X G a16 l16 c16 k16 (fun _ _ _ _ _ _ us hl => match us, hl with | [_, _, _, _], _ => rfl)
  have b_range := PySem.W.mg_none_of X G z0
  have b_min := PySem.W.mg_none_of X G z1
  have b_max := PySem.W.mg_none_of X G z2
  have b_len := PySem.W.mg_none_of X G z3
  have b_abs := PySem.W.mg_none_of X G z4
  have b_int := PySem.W.mg_none_of X G z5
  have b_list := PySem.W.mg_none_of X G z6
  have b_sorted := PySem.W.mg_none_of X G z7
  have b_isinstance := PySem.W.mg_none_of X G z8
  have b_enumerate := PySem.W.mg_none_of X G z9
  have g_HIGHEST_PRICE := PySem.W.mg_of X G q0
  have g_MOST_PLACES := PySem.W.mg_of X G q1
  have E_NoPlace : PySem.LowX.LowTxt K mg "NoPlace" C0 fI := low_mk X G ⟨ea0, ⟨_, _, _, _, _, _, _, _, _, _, _, _, _, _, ex0⟩, es0, eg0, eh0, en0, ei0, ek0, eb0, et0, ed0, ec0, ef0⟩ ⟨tI, _, _, _, _, _, _, _, _, lI, cI⟩
  have E_NoLink : PySem.LowX.LowTxt K mg "NoLink" C1 fI := low_mk X G ⟨ea1, ⟨_, _, _, _, _, _, _, _, _, _, _, _, _, _, ex1⟩, es1, eg1, eh1, en1, ei1, ek1, eb1, et1, ed1, ec1, ef1⟩ ⟨tI, _, _, _, _, _, _, _, _, lI, cI⟩
  have E_BadPrice : PySem.LowX.LowTxt K mg "BadPrice" C2 fI := low_mk X G ⟨ea2, ⟨_, _, _, _, _, _, _, _, _, _, _, _, _, _, ex2⟩, es2, eg2, eh2, en2, ei2, ek2, eb2, et2, ed2, ec2, ef2⟩ ⟨tI, _, _, _, _, _, _, _, _, lI, cI⟩
  have A_NoLink_NoPlace : Apart K C1 C0 := ⟨exm_two eb0 ec0 et0 ap1_0⟩
  have A_BadPrice_NoPlace : Apart K C2 C0 := ⟨exm_two eb0 ec0 et0 ap2_0⟩
  have A_BadPrice_NoLink : Apart K C2 C1 := ⟨exm_two eb1 ec1 et1 ap2_1⟩
  have F_law := fun_mk (st := sLaw) l17 c17 k17
  refine ⟨PySem.W.fnOf "law" "law" (defArgs sLaw) (defBody sLaw) (defScope sLaw) .none kV17 dc17 pm17 an17 cd17 ct17, fun s v => .of_eq rfl, fun base _ _ => ?_⟩
  have cD := kal_of D__law_draws (fun f fd F => ok_draws (P := l.prog) (w := w) (base := base) (k := 0) F b_range b_min b_len b_abs b_int)
  have cA := kal_of D__law_at (fun f fd F => ok_at (P := l.prog) (w := w) (base := base) (k := 0) F b_len b_int)
  have cM := kal_of D__law_mix (fun f fd F => ok_mix (P := l.prog) (w := w) (base := base) (k := 0) F b_len b_int)
  have cPr := kal_of D__law_price (fun f fd F => ok_price F cM b_int)
  have cN := kal_of D__law_net (fun f fd F => ok_net F cM cPr b_range)
  have cI0 := kal_of D_is_price (fun f fd F => ok_isPrice (P := l.prog) (w := w) (base := base) (k := 0) F g_HIGHEST_PRICE)
  have cI := kal_of D_is_net (fun f fd F => ok_isNet F g_MOST_PLACES cI0)
  have cCp := kalx_of D_check_places (fun f fd F => ok_chkPl (P := l.prog) (w := w) (base := base) F E_NoPlace)
  have cL := kalx_of D__link_index (fun f fd F => ok_linkIx F cCp E_NoLink b_min b_max b_enumerate)
  have cR := kalx_of D_price (fun f fd F => ok_pr F cL)
  have cB := kalx_of D_neighbours (fun f fd F => ok_near F cCp)
  have cW := kalx_of D_with_price (fun f fd F => ok_with F cL cI0 E_BadPrice)
  have cS := kal_of D__law_spoilt (fun f fd F => ok_spoilt F cA b_int b_len)
  have cU := kal_of D__law_due (fun f fd F => ok_due (P := l.prog) (w := w) (base := base) (k := 0) F b_min b_max b_int)
  have cC := kal_of D__law_changed (fun f fd F => ok_changed (P := l.prog) (w := w) (base := base) (k := 0) F)
  have cE := kal_of D__law_near (fun f fd F => ok_lnear F E_NoPlace cB)
  have cT := kal_of D__law_told (fun f fd F => ok_told F E_NoPlace E_NoLink E_BadPrice A_NoLink_NoPlace A_BadPrice_NoPlace A_BadPrice_NoLink cW cR)
  exact ok_law F_law cD cA cM cN cI cS cT cU cC cE b_int b_list b_range b_len b_sorted b_isinstance
end Ovc
open PySem PySem.W PyProof.Rows
set_option maxHeartbeats 0 in
theorem PySem.Challenge.cw_overpasses_k00_nets_and_prices_holds : PySem.Challenge.rw_overpasses_k00_nets_and_prices.Holds := by
  w_on; o_law; k_head; (case hw => w_witness2)
  k_fill
  refine L2.walk_of (l := PySem.Challenge.rw_overpasses_k00_nets_and_prices) (n := 63) (k := 6) (x := "script") (CX := fun _ => L2.CX0) (sp := fun w => Ovc.spLaw _) rfl (by decide) rfl ⟨rfl, by decide, by decide⟩ (fun w h Y => PySem.W.kIn_of Y) ?F (fun _ _ a ns hl _ hS => ⟨a, ns, rfl, hS, hl, fun _ => rfl⟩) (fun _ _ _ _ _ h => h)
  case F =>
    intro w mg fa h KX G hmg
    refine' Ovc.all_mk KX G hmg ?a0 ?l0 ?c0 ?k0 ?a1 ?l1 ?c1 ?k1 ?a2 ?l2 ?c2 ?k2 ?a3 ?l3 ?c3 ?k3 ?a4 ?l4 ?c4 ?k4 ?a5 ?l5 ?c5 ?k5 ?a6 ?l6 ?c6 ?k6 ?a7 ?l7 ?c7 ?k7 ?a8 ?l8 ?c8 ?k8 ?a9 ?l9 ?c9 ?k9 ?a10 ?l10 ?c10 ?k10 ?a11 ?l11 ?c11 ?k11 ?a12 ?l12 ?c12 ?k12 ?a13 ?l13 ?c13 ?k13 ?a14 ?l14 ?c14 ?k14 ?a15 ?l15 ?c15 ?k15 ?a16 ?l16 ?c16 ?k16 ?a17 ?l17 ?c17 ?k17 ?tI ?lI ?cI ?ea0 ?ex0 ?es0 ?eg0 ?eh0 ?en0 ?ei0 ?ek0 ?eb0 ?et0 ?ed0 ?ec0 ?ef0 ?ea1 ?ex1 ?es1 ?eg1 ?eh1 ?en1 ?ei1 ?ek1 ?eb1 ?et1 ?ed1 ?ec1 ?ef1 ?ea2 ?ex2 ?es2 ?eg2 ?eh2 ?en2 ?ei2 ?ek2 ?eb2 ?et2 ?ed2 ?ec2 ?ef2 ?ap1_0 ?ap2_0 ?ap2_1 ?q0 ?q1 ?z0 ?z1 ?z2 ?z3 ?z4 ?z5 ?z6 ?z7 ?z8 ?z9
    (case a0 => k_is)
    (case l0 => k_is)
    (case c0 => k_is)
    (case k0 => k_is)
    (case a1 => k_is)
    (case l1 => k_is)
    (case c1 => k_is)
    (case k1 => k_is)
    (case a2 => k_is)
    (case l2 => k_is)
    (case c2 => k_is)
    (case k2 => k_is)
    (case a3 => k_is)
    (case l3 => k_is)
    (case c3 => k_is)
    (case k3 => k_is)
    (case a4 => k_is)
    (case l4 => k_is)
    (case c4 => k_is)
    (case k4 => k_is)
    (case a5 => k_is)
    (case l5 => k_is)
    (case c5 => k_is)
    (case k5 => k_is)
    (case a6 => k_is)
    (case l6 => k_is)
    (case c6 => k_is)
    (case k6 => k_is)
    (case a7 => k_is)
    (case l7 => k_is)
    (case c7 => k_is)
    (case k7 => k_is)
    (case a8 => k_is)
    (case l8 => k_is)
    (case c8 => k_is)
    (case k8 => k_is)
    (case a9 => k_is)
    (case l9 => k_is)
    (case c9 => k_is)
    (case k9 => k_is)
    (case a10 => k_is)
    (case l10 => k_is)
    (case c10 => k_is)
    (case k10 => k_is)
    (case a11 => k_is)
    (case l11 => k_is)
    (case c11 => k_is)
    (case k11 => k_is)
    (case a12 => k_is)
    (case l12 => k_is)
    (case c12 => k_is)
    (case k12 => k_is)
    (case a13 => k_is)
    (case l13 => k_is)
    (case c13 => k_is)
    (case k13 => k_is)
    (case a14 => k_is)
    (case l14 => k_is)
    (case c14 => k_is)
    (case k14 => k_is)
    (case a15 => k_is)
    (case l15 => k_is)
    (case c15 => k_is)
    (case k15 => k_is)
    (case a16 => k_is)
    (case l16 => k_is)
    (case c16 => k_is)
    (case k16 => k_is)
    (case a17 => k_is)
    (case l17 => k_is)
    (case c17 => k_is)
    (case k17 => k_is)
    (case ea0 => k_is)
    (case ex0 => k_is)
    (case es0 => k_is)
    (case eg0 => k_is)
    (case eh0 => k_is)
    (case en0 => k_is)
    (case ei0 => k_is)
    (case ek0 => k_is)
    (case eb0 => k_is)
    (case et0 => k_is)
    (case ed0 => k_is)
    (case ec0 => k_is)
    (case ef0 => first | rfl | k_is)
    (case ea1 => k_is)
    (case ex1 => k_is)
    (case es1 => k_is)
    (case eg1 => k_is)
    (case eh1 => k_is)
    (case en1 => k_is)
    (case ei1 => k_is)
    (case ek1 => k_is)
    (case eb1 => k_is)
    (case et1 => k_is)
    (case ed1 => k_is)
    (case ec1 => k_is)
    (case ef1 => first | rfl | k_is)
    (case ea2 => k_is)
    (case ex2 => k_is)
    (case es2 => k_is)
    (case eg2 => k_is)
    (case eh2 => k_is)
    (case en2 => k_is)
    (case ei2 => k_is)
    (case ek2 => k_is)
    (case eb2 => k_is)
    (case et2 => k_is)
    (case ed2 => k_is)
    (case ec2 => k_is)
    (case ef2 => first | rfl | k_is)
    (case ap1_0 => first | rfl | k_is)
    (case ap2_0 => first | rfl | k_is)
    (case ap2_1 => first | rfl | k_is)
    (case q0 => k_is)
    (case q1 => k_is)
    (case z0 => k_is)
    (case z1 => k_is)
    (case z2 => k_is)
    (case z3 => k_is)
    (case z4 => k_is)
    (case z5 => k_is)
    (case z6 => k_is)
    (case z7 => k_is)
    (case z8 => k_is)
    (case z9 => k_is)
    (case tI => k_is)
    (case lI => k_is)
    (case cI => k_is)
