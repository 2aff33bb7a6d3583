import PyProof.Rows.All
import Wide.All
import OpenK.AllK
import Wide.FinOn
import PySem.Challenge.RW_overpasses_k03_orders_and_ranks
import HandS.Base
import HandS.Call
import HandS.List
import HandS.Comp
import HandS.Dict
import HandS.Ends
import HandS.Iter
import HandS.Text
import HandS.Words
import HandS.Evl
import HandS.IsInst
import HandS.Style
import HandS.Exc
import HandS.TryOnly
import HandS.TryMany
import HandS.ExcOwn
import HandS.WordsExc
import HandS.TupLe
import HandS.Conv
import HandS.Walk
import HandS.WordsDict
import HandS.More
import HandS.Remove
import KE.DataMinMax
import KE.LtData
import PyProof.Rows.RowBridgeK
set_option Elab.async false
set_option linter.all false
set_option maxRecDepth 100000
set_option maxHeartbeats 2000000
namespace Ovc
open PySem PySem.Spec PyProof.Rows L2
def topS (i : Nat) : Stmt := PySem.Challenge.pw_overpasses_k03_orders_and_ranks.main.body.getD i (.Pass ⟨0, 0, 0, 0⟩)
/-! ### heaps -/
theorem same_upd {H : Hp} {p : Addr} {o : HO} (h : H p = none) : Same H (upd H p o) := fun b x e => by
  rw [upd_ne (ne_of_none e h)]
  exact e
theorem same_upd' {G H : Hp} {p : Addr} {o : HO} (s : Same G H) (h : G p = none) : Same G (upd H p o) := fun b x e => by
  rw [upd_ne (ne_of_none e h)]
  exact s b x e
/-- all of H but what stands at o -/
def but (H : Hp) (o : Addr) : Hp := fun b => if b = o then none else H b
theorem but_at {H : Hp} {o : Addr} : but H o o = none := if_pos rfl
theorem but_ne {H : Hp} {o b : Addr} (h : b ≠ o) : but H o b = H b := if_neg h
theorem but_same {H : Hp} {o : Addr} : Same (but H o) H := fun b x e => by
  by_cases h : b = o
  · rw [h, but_at] at e
    cases e
  · rw [but_ne h] at e
    exact e
theorem same_but {G H : Hp} {o : Addr} (s : Same G H) (n : G o = none) : Same G (but H o) := fun b x e => by
  rw [but_ne (ne_of_none e n)]
  exact s b x e
theorem but_mono {H H' : Hp} {o : Addr} (s : Same H H') : Same (but H o) (but H' o) := fun b x e => by
  by_cases h : b = o
  · rw [h, but_at] at e
    cases e
  · rw [but_ne h] at e ⊢
    exact s b x e
theorem but_upd {H : Hp} {o : Addr} {u : HO} : but (upd H o u) o = but H o := by
  funext b
  by_cases h : b = o
  · rw [h, but_at, but_at]
  · rw [but_ne h, but_ne h, upd_ne h]
/-- a store at o, seen from what stands beside it -/
theorem but_upd_same {H : Hp} {o : Addr} {u : HO} : Same (but H o) (upd H o u) := fun b x e => by
  by_cases h : b = o
  · rw [h, but_at] at e
    cases e
  · rw [but_ne h] at e
    rw [upd_ne h]
    exact e
theorem seqT {K : PySem.W.Frag} {H H' : Hp} {a : Addr} {xs : List V} (e : Same H H') (h : SqT K H a xs) : SqT K H' a xs := by
  rcases h with (h | ⟨o, h⟩) | h
  · exact .inl (.inl (e _ _ h))
  · exact .inl (.inr ⟨o, e _ _ h⟩)
  · exact .inr h
mutual
theorem dpS {K : PySem.W.Frag} {H H' : Hp} (s : Same H H') : ∀ (d : PyData) (v : V), Dp K H v d → Dp K H' v d
  | .none, _, h => by
    cases h
    exact .non
  | .bool b, _, h => by
    cases h
    exact .bl b
  | .int i, _, h => by
    cases h
    exact .int i
  | .str x, _, h => by
    cases h
    exact .str x
  | .list ds, _, h => by
    cases h with
    | lst hs ha => exact .lst (s.seq hs) (dpSAll s ds _ ha)
  | .tuple ds, _, h => by
    cases h with
    | tup hs ha => exact .tup (seqT s hs) (dpSAll s ds _ ha)
  | .dict _, _, h => by cases h
theorem dpSAll {K : PySem.W.Frag} {H H' : Hp} (s : Same H H') : ∀ (ds : List PyData) (vs : List V), DpAll K H vs ds → DpAll K H' vs ds
  | [], _, h => by
    cases h
    exact .nil
  | d :: ds, _, h => by
    cases h with
    | cons h1 h2 => exact .cons (dpS s d _ h1) (dpSAll s ds _ h2)
end
theorem Dp.to {K : PySem.W.Frag} {H H' : Hp} {v : V} {d : PyData} (h : Dp K H v d) (s : Same H H') : Dp K H' v d := dpS s d v h
theorem DpAll.to {K : PySem.W.Frag} {H H' : Hp} {vs : List V} {ds : List PyData} (h : DpAll K H vs ds) (s : Same H H') : DpAll K H' vs ds := dpSAll s ds vs h
theorem DpAll.len {K : PySem.W.Frag} {H : Hp} : ∀ {vs : List V} {ds : List PyData}, DpAll K H vs ds → vs.length = ds.length
  | _, _, .nil => rfl
  | _, _, .cons _ t => by
    rw [List.length_cons, List.length_cons, DpAll.len t]
theorem DpAll.get {K : PySem.W.Frag} {H : Hp} : ∀ {vs : List V} {ds : List PyData} {i : Nat} {d : PyData}, DpAll K H vs ds → ds[i]? = some d → ∃ v, vs[i]? = some v ∧ Dp K H v d
  | _, _, i, d, .nil, e => by simp at e
  | _, _, 0, d, .cons h _, e => by
    have e' := Option.some.inj e
    subst e'
    exact ⟨_, rfl, h⟩
  | _, _, i + 1, d, .cons _ t, e => DpAll.get (i := i) t e
theorem DpAll.app {K : PySem.W.Frag} {H : Hp} : ∀ {vs ws : List V} {ds es : List PyData}, DpAll K H vs ds → DpAll K H ws es → DpAll K H (vs ++ ws) (ds ++ es)
  | _, _, _, _, .nil, t => t
  | _, _, _, _, .cons h r, t => .cons h (DpAll.app r t)
theorem DpAll.take {K : PySem.W.Frag} {H : Hp} : ∀ {vs : List V} {ds : List PyData} (n : Nat), DpAll K H vs ds → DpAll K H (vs.take n) (ds.take n)
  | _, _, 0, _ => .nil
  | _, _, _ + 1, .nil => .nil
  | _, _, n + 1, .cons h t => .cons h (DpAll.take n t)
theorem DpAll.drop {K : PySem.W.Frag} {H : Hp} : ∀ {vs : List V} {ds : List PyData} (n : Nat), DpAll K H vs ds → DpAll K H (vs.drop n) (ds.drop n)
  | _, _, 0, h => h
  | _, _, _ + 1, .nil => .nil
  | _, _, n + 1, .cons _ t => DpAll.drop n t
theorem DpAll.one {K : PySem.W.Frag} {H : Hp} {v : V} {d : PyData} (h : Dp K H v d) : DpAll K H [v] [d] := .cons h .nil
theorem Dp.int_inv {K : PySem.W.Frag} {H : Hp} {v : V} {i : Int} (h : Dp K H v (.int i)) : v = .int i := by
  cases h
  rfl
theorem DpAll.ints {K : PySem.W.Frag} {H : Hp} : ∀ ns : List Int, DpAll K H (ns.map V.int) (ns.map PyData.int)
  | [] => .nil
  | n :: ns => .cons (.int n) (DpAll.ints ns)
theorem DpAll.ints_inv {K : PySem.W.Frag} {H : Hp} : ∀ {ns : List Int} {vs : List V}, DpAll K H vs (ns.map PyData.int) → vs = ns.map V.int
  | [], _, h => by
    cases h
    rfl
  | n :: ns, _, h => by
    cases h with
    | cons h1 h2 =>
      rw [Dp.int_inv h1, DpAll.ints_inv h2]
      rfl
theorem Dp.lst_inv {K : PySem.W.Frag} {H : Hp} {v : V} {ds : List PyData} (h : Dp K H v (.list ds)) : ∃ a xs, v = .ref a ∧ SqL K H a xs ∧ DpAll K H xs ds := by
  cases h with
  | lst hs ha => exact ⟨_, _, rfl, hs, ha⟩
theorem Dp.tup_inv {K : PySem.W.Frag} {H : Hp} {v : V} {ds : List PyData} (h : Dp K H v (.tuple ds)) : ∃ a xs, v = .ref a ∧ SqT K H a xs ∧ DpAll K H xs ds := by
  cases h with
  | tup hs ha => exact ⟨_, _, rfl, hs, ha⟩
/-! ### an int or None -/
def oV : Option Int → V
  | none => .non
  | some i => .int i
def oD : Option Int → PyData
  | none => .none
  | some i => .int i
theorem Dp.o {K : PySem.W.Frag} {H : Hp} : ∀ o : Option Int, Dp K H (oV o) (oD o)
  | none => .non
  | some i => .int i
theorem Dp.o_inv {K : PySem.W.Frag} {H : Hp} {v : V} : ∀ {o : Option Int}, Dp K H v (oD o) → v = oV o
  | none, h => by
    cases h
    rfl
  | some i, h => by
    cases h
    rfl
theorem oV_non {o : Option Int} : decide (oV o = .non) = o.isNone := by
  cases o <;> rfl
theorem eqv_o : ∀ a b : Option Int, PyData.eqv (oD a) (oD b) = decide (a = b)
  | none, none => by rfl
  | none, some _ => by rfl
  | some _, none => by rfl
  | some a, some b => by
    show (a == b) = _
    by_cases h : a = b
    · subst h
      rw [decide_eq_true rfl]
      exact beq_self_eq_true a
    · rw [decide_eq_false (fun e => h (Option.some.inj e))]
      exact beq_eq_false_iff_ne.mpr h
theorem shaped_o (a : Option Int) : SeqAt.shaped (oD a) = true := by
  cases a <;> rfl
/-! ### links and nets -/
structure Lnk where
  a : Int
  b : Int
  t : Option Int
  k : Option Int
structure Net where
  n : Int
  ls : List Lnk
def lnkV (l : Lnk) : List V := [.int l.a, .int l.b, oV l.t, oV l.k]
def lnkD (l : Lnk) : PyData := .tuple [.int l.a, .int l.b, oD l.t, oD l.k]
def netD (N : Net) : PyData := .tuple [.int N.n, .list (N.ls.map lnkD)]
theorem Dp.lnk_inv {K : PySem.W.Frag} {H : Hp} {v : V} {l : Lnk} (h : Dp K H v (lnkD l)) : ∃ a, v = .ref a ∧ SqT K H a (lnkV l) := by
  obtain ⟨a, xs, rfl, hs, ha⟩ := Dp.tup_inv h
  cases ha with
  | cons h1 r1 =>
    cases r1 with
    | cons h2 r2 =>
      cases r2 with
      | cons h3 r3 =>
        cases r3 with
        | cons h4 r4 =>
          cases r4
          rw [Dp.int_inv h1, Dp.int_inv h2, Dp.o_inv h3, Dp.o_inv h4] at hs
          exact ⟨a, rfl, hs⟩
theorem Dp.lnk {K : PySem.W.Frag} {H : Hp} {a : Addr} {l : Lnk} (h : SqT K H a (lnkV l)) : Dp K H (.ref a) (lnkD l) :=
  .tup h (.cons (.int _) (.cons (.int _) (.cons (Dp.o _) (.cons (Dp.o _) .nil))))
theorem Dp.net_inv {K : PySem.W.Frag} {H : Hp} {v : V} {N : Net} (h : Dp K H v (netD N)) : ∃ p q xs, v = .ref p ∧ SqT K H p [.int N.n, .ref q] ∧ SqL K H q xs ∧ DpAll K H xs (N.ls.map lnkD) := by
  obtain ⟨a, xs, rfl, hs, ha⟩ := Dp.tup_inv h
  cases ha with
  | cons h1 r1 =>
    cases r1 with
    | cons h2 r2 =>
      cases r2
      obtain ⟨q, ys, rfl, hl, hy⟩ := Dp.lst_inv h2
      rw [Dp.int_inv h1] at hs
      exact ⟨a, q, ys, rfl, hs, hl, hy⟩
theorem Dp.net {K : PySem.W.Frag} {H : Hp} {p q : Addr} {xs : List V} {N : Net} (h : SqT K H p [.int N.n, .ref q]) (hq : SqL K H q xs) (hx : DpAll K H xs (N.ls.map lnkD)) : Dp K H (.ref p) (netD N) :=
  .tup h (.cons (.int _) (.cons (.lst hq hx) .nil))
/-! ### pure expressions: what they evaluate to, the heap as it is -/
def Vl (te : TE) (σ : L2.St) (H : Hp) (v : V) : Prop := ∀ Q : VK, Q v H → te σ H Q
def An (t : TT) (σ : L2.St) (H : Hp) (b : Bool) : Prop := ∀ Q : Bool → Hp → Prop, Q b H → t σ H Q
def Va (ta : TA) (σ : L2.St) (H : Hp) (vs : List V) : Prop := ∀ Q : List V → Hp → Prop, Q vs H → ta σ H Q
section
variable {K : PySem.W.Frag} {σ : L2.St} {H : Hp} {i : Nat} {v x y z : V} {ta tb te tv : TE} {b : Bool} {a : Addr} {t u c : TT} {tr : TA} {D : Ends} {tz tw : TS}
theorem va_nil : Va tNil σ H [] := fun _ q => q
theorem va_cons {vs : List V} (h : Vl ta σ H x) (hr : Va tr σ H vs) : Va (tCons ta tr) σ H (x :: vs) := fun Q q => h _ (hr _ q)
theorem vl_var (h : σ[i]? = some (some v)) : Vl (tVar i) σ H v := fun _ q => ⟨v, h, q⟩
theorem vl_c : Vl (tC v) σ H v := fun _ q => q
theorem vl_op {r : R2} (ha : Vl ta σ H x) (hb : Vl tb σ H y) (hr : ∀ Q : VK, Q z H → r x y H Q) : Vl (tOp r ta tb) σ H z := fun Q q => ha _ (hb _ (hr _ q))
theorem vl_I0 {g : Int → Int → V} {p q : Int} (ha : Vl ta σ H (.int p)) (hb : Vl tb σ H (.int q)) : Vl (tOp (rI0 g) ta tb) σ H (g p q) := vl_op ha hb fun _ k => ⟨p, q, rfl, rfl, k⟩
theorem vl_I {C : Int → Int → Prop} {g : Int → Int → V} {p q : Int} (ha : Vl ta σ H (.int p)) (hb : Vl tb σ H (.int q)) (hc : C p q) : Vl (tOp (rI C g) ta tb) σ H (g p q) := vl_op ha hb fun _ k => ⟨p, q, rfl, rfl, hc, k⟩
theorem vl_un {r : V → Hp → VK → Prop} (ha : Vl ta σ H x) (hr : ∀ Q : VK, Q z H → r x H Q) : Vl (tUn r ta) σ H z := fun Q q => ha _ (hr _ q)
theorem vl_neg {p : Int} (ha : Vl ta σ H (.int p)) : Vl (tUn (rU fun i => .int (-i)) ta) σ H (.int (-p)) := vl_un ha fun _ k => ⟨p, rfl, k⟩
theorem vl_cb {r : List V → Hp → VK → Prop} {vs : List V} (h : Va tr σ H vs) (hr : ∀ Q : VK, Q z H → r vs H Q) : Vl (tCB r tr) σ H z := fun Q q => h _ (hr _ q)
theorem vl_int1 {p : Int} (ha : Vl ta σ H (.int p)) : Vl (tCB (fun xs H Q => (∃ i, xs = [V.int i] ∧ Q (V.int i) H) ∨ ∃ k, xs = [V.bl k] ∧ Q (V.int (if k then 1 else 0)) H) (tCons ta tNil)) σ H (.int p) :=
  vl_cb (va_cons ha va_nil) fun _ k => .inl ⟨p, rfl, k⟩
theorem vl_int1b {k : Bool} (ha : Vl ta σ H (.bl k)) : Vl (tCB (fun xs H Q => (∃ i, xs = [V.int i] ∧ Q (V.int i) H) ∨ ∃ k, xs = [V.bl k] ∧ Q (V.int (if k then 1 else 0)) H) (tCons ta tNil)) σ H (.int (if k then 1 else 0)) :=
  vl_cb (va_cons ha va_nil) fun _ q => .inr ⟨k, rfl, q⟩
theorem vl_abs {p : Int} (ha : Vl ta σ H (.int p)) : Vl (tCB (fun xs H Q => ∃ i, xs = [V.int i] ∧ Q (V.int (if i < 0 then -i else i)) H) (tCons ta tNil)) σ H (.int (if p < 0 then -p else p)) :=
  vl_cb (va_cons ha va_nil) fun _ k => ⟨p, rfl, k⟩
theorem vl_min2 {p q : Int} (ha : Vl ta σ H (.int p)) (hb : Vl tb σ H (.int q)) : Vl (tCB (fun xs H Q => ∃ i j, xs = [V.int i, V.int j] ∧ Q (V.int (if j < i then j else i)) H) (tCons ta (tCons tb tNil))) σ H (.int (if q < p then q else p)) :=
  vl_cb (va_cons ha (va_cons hb va_nil)) fun _ k => ⟨p, q, rfl, k⟩
theorem vl_max2 {p q : Int} (ha : Vl ta σ H (.int p)) (hb : Vl tb σ H (.int q)) : Vl (tCB (fun xs H Q => ∃ i j, xs = [V.int i, V.int j] ∧ Q (V.int (if j > i then j else i)) H) (tCons ta (tCons tb tNil))) σ H (.int (if q > p then q else p)) :=
  vl_cb (va_cons ha (va_cons hb va_nil)) fun _ k => ⟨p, q, rfl, k⟩
theorem vl_lenL {xs : List V} (ha : Vl ta σ H (.ref a)) (h : SqL K H a xs) : Vl (tCB (fun xs H Q => ∃ p ys, xs = [V.ref p] ∧ (SqL K H p ys ∨ SqT K H p ys) ∧ Q (V.int ys.length) H) (tCons ta tNil)) σ H (.int xs.length) :=
  vl_cb (va_cons ha va_nil) fun _ k => ⟨a, xs, rfl, .inl h, k⟩
theorem vl_ixL {xs : List V} {p : Int} (ha : Vl ta σ H (.ref a)) (hb : Vl tb σ H (.int p)) (h : SqL K H a xs) (hg : atI xs p = some z) : Vl (tOp (rIxL K) ta tb) σ H z :=
  vl_op ha hb fun _ k => ⟨a, xs, p, z, rfl, rfl, h, hg, k⟩
theorem vl_ixT {xs : List V} {p : Int} (ha : Vl ta σ H (.ref a)) (hb : Vl tb σ H (.int p)) (h : SqT K H a xs) (hg : atI xs p = some z) : Vl (tOp (rIxT K) ta tb) σ H z :=
  vl_op ha hb fun _ k => ⟨a, xs, p, z, rfl, rfl, h, hg, k⟩
theorem vl_eq (ha : Vl ta σ H x) (hb : Vl tb σ H y) (hs : scal x y = true) : Vl (tOp rEq ta tb) σ H (.bl (decide (x = y))) := vl_op ha hb fun _ k => ⟨hs, k⟩
theorem vl_ne (ha : Vl ta σ H x) (hb : Vl tb σ H y) (hs : scal x y = true) : Vl (tOp rNe ta tb) σ H (.bl (!decide (x = y))) := vl_op ha hb fun _ k => ⟨hs, k⟩
theorem vl_isN (ha : Vl ta σ H x) : Vl (tOp (fun x y H Q => y = V.non ∧ Q (V.bl (decide (x = V.non))) H) ta (tC .non)) σ H (.bl (decide (x = .non))) := vl_op ha vl_c fun _ k => ⟨rfl, k⟩
theorem vl_notN (ha : Vl ta σ H x) : Vl (tOp (fun x y H Q => y = V.non ∧ Q (V.bl (!decide (x = V.non))) H) ta (tC .non)) σ H (.bl (!decide (x = .non))) := vl_op ha vl_c fun _ k => ⟨rfl, k⟩
theorem vl_chain {r r' : R2} {tc : TE} {w : V} {k m : Bool} (ha : Vl ta σ H x) (hb : Vl tb σ H y) (hr : ∀ Q : VK, Q (.bl k) H → r x y H Q) (hc : Vl tc σ H w) (hr' : ∀ Q : VK, Q (.bl m) H → r' y w H Q) : Vl (tChain r r' ta tb tc) σ H (.bl (k && m)) := fun Q q =>
  ha _ (hb _ (hr _ ⟨k, rfl, by
    cases k with
    | true => exact iteT (hc _ (hr' _ q))
    | false => exact iteF q⟩))
theorem vl_chainI {g g' : Int → Int → Bool} {tc : TE} {p q s : Int} (ha : Vl ta σ H (.int p)) (hb : Vl tb σ H (.int q)) (hc : Vl tc σ H (.int s)) :
    Vl (tChain (rI0 fun i j => .bl (g i j)) (rI0 fun i j => .bl (g' i j)) ta tb tc) σ H (.bl (g p q && g' q s)) :=
  vl_chain ha hb (fun _ k => ⟨p, q, rfl, rfl, k⟩) hc (fun _ k => ⟨q, s, rfl, rfl, k⟩)
theorem vl_if {b : Bool} (h : An t σ H b) (h1 : b = true → Vl ta σ H v) (h2 : b = false → Vl tb σ H v) : Vl (tIf t ta tb) σ H v := fun Q q => h _ (by
  cases b with
  | true => exact iteT (h1 rfl _ q)
  | false => exact iteF (h2 rfl _ q))
theorem an_test {b : Bool} (h : Vl te σ H (.bl b)) : An (tTest te) σ H b := fun Q q => h _ ⟨b, rfl, q⟩
theorem an_B {b : Bool} (h : Vl te σ H (.bl b)) : An (tB te) σ H b := fun Q q => h _ ⟨b, rfl, q⟩
theorem an_not (h : An t σ H b) : An (tNot t) σ H (!b) := fun Q q => h _ q
theorem an_and {k m : Bool} (h1 : An t σ H k) (h2 : k = true → An u σ H m) : An (tAnd t u) σ H (k && m) := fun Q q => h1 _ (by
  cases k with
  | true => exact iteT (h2 rfl _ q)
  | false => exact iteF q)
theorem an_or {k m : Bool} (h1 : An t σ H k) (h2 : k = false → An u σ H m) : An (tOr t u) σ H (k || m) := fun Q q => h1 _ (by
  cases k with
  | true => exact iteT q
  | false => exact iteF (h2 rfl _ q))
theorem An.is {k m : Bool} (h : An t σ H k) (e : k = m) : An t σ H m := e ▸ h
theorem Vl.is {v w : V} (h : Vl te σ H v) (e : v = w) : Vl te σ H w := e ▸ h
/-! ### statements over them -/
theorem g_seq (h : tz { D with nx := tw D } σ H) : tSeq tz tw D σ H := h
theorem g_asg {i : Nat} (h : Vl te σ H v) (k : D.nx (σ.set i (some v)) H) : tAsg te (gName i) D σ H := h _ k
theorem g_ret (h : Vl te σ H v) (k : D.rt v H) : tRet te D σ H := h _ k
theorem g_if {b : Bool} (h : An t σ H b) (h1 : b = true → tz D σ H) (h2 : b = false → tw D σ H) : tIfS t tz tw D σ H := h _ (by
  cases b with
  | true => exact iteT (h1 rfl)
  | false => exact iteF (h2 rfl))
theorem g_app {l : Addr} {xs : List V} (ho : Vl ta σ H (.ref l)) (hl : H l = some (.lst xs)) (h : Vl te σ H v) (hz : xs.length < sizeLine) (k : D.nx σ (upd H l (.lst (xs ++ [v])))) :
    tDrop (tBM K "list" rAppend ta (tCons te tNil)) D σ H := ho _ ⟨.inl ⟨rfl, _, .inl (.inl hl)⟩, h _ ⟨l, xs, v, rfl, rfl, hl, hz, k⟩⟩
theorem at_int {ds : List Int} {k : Int} (h0 : 0 ≤ k) (h1 : k < (ds.length : Int)) : ∃ d, atI (ds.map V.int) k = some (.int d) ∧ ds[k.toNat]? = some d := by
  have hj : k.toNat < ds.length := by omega
  have g : (ds.map V.int)[k.toNat]? = some (.int ds[k.toNat]) := by
    rw [List.getElem?_map, List.getElem?_eq_getElem hj]
    rfl
  have g2 := atI_nat g
  rw [show ((k.toNat : Nat) : Int) = k by omega] at g2
  exact ⟨ds[k.toNat], g2, List.getElem?_eq_getElem hj⟩
/-! ### loops -/
theorem g_forR {j : Nat} {n : Int} (h : Va tr σ H [.int n]) (hn : -(2 ^ 62) ≤ n ∧ n < 2 ^ 62) (Pv : Nat → L2.St → Hp → Prop) (h0 : Pv 0 σ H)
    (hs : ∀ (i : Nat) σ H, (i : Int) < n → Pv i σ H → tz { D with nx := Pv (i + 1), ct := Pv (i + 1), bk := D.nx } (σ.set j (some (.int i))) H) (hd : ∀ σ H, Pv n.toNat σ H → D.nx σ H) :
    tFor (iRng1 tr) (gName j) tz D σ H := h _ ⟨n, rfl, hn.1, hn.2, for_range (lo := 0) (n := n.toNat) Pv h0 (fun i σ H hi p => by
      show tz _ (σ.set j (some (.int (0 + i)))) H
      rw [Int.zero_add]
      exact hs i σ H (by omega) p) hd⟩
theorem g_forR2 {j : Nat} {lo n : Int} (h : Va tr σ H [.int lo, .int n]) (hn : -(2 ^ 62) ≤ lo ∧ lo < 2 ^ 62 ∧ -(2 ^ 62) ≤ n ∧ n < 2 ^ 62) (Pv : Nat → L2.St → Hp → Prop) (h0 : Pv 0 σ H)
    (hs : ∀ (i : Nat) σ H, lo + (i : Int) < n → Pv i σ H → tz { D with nx := Pv (i + 1), ct := Pv (i + 1), bk := D.nx } (σ.set j (some (.int (lo + i)))) H) (hd : ∀ σ H, Pv (n - lo).toNat σ H → D.nx σ H) :
    tFor (iRng2 tr) (gName j) tz D σ H := h _ ⟨lo, n, rfl, hn, for_range (lo := lo) (n := (n - lo).toNat) Pv h0 (fun i σ H hi p => hs i σ H (by omega) p) hd⟩
theorem g_forL {j : Nat} {xs : List V} {tl : TE} (h : Vl tl σ H (.ref a)) (hx : SqL K H a xs) (Pv : Nat → L2.St → Hp → Prop) (h0 : Pv 0 σ H) (hl : ∀ i σ' H', Pv i σ' H' → SqL K H' a xs)
    (hs : ∀ (i : Nat) x σ H, xs[i]? = some x → Pv i σ H → tz { D with nx := Pv (i + 1), ct := Pv (i + 1), bk := D.nx } (σ.set j (some x)) H) (hd : ∀ σ H, Pv xs.length σ H → D.nx σ H) :
    tFor (iList K tl) (gName j) tz D σ H := h _ ⟨a, rfl, ⟨_, hx⟩, for_list (xs := xs) Pv h0 (fun i σ H _ p => hl i σ H p) hs hd⟩
/-- for a, b, there, back in links -/
theorem g_forLnk {j1 j2 j3 j4 : Nat} {Hb : Hp} {xs : List V} {ls : List Lnk} {tl : TE} (h : Vl tl σ H (.ref a)) (hx : SqL K Hb a xs) (hL : DpAll K Hb xs (ls.map lnkD)) (hb : Same Hb H) (Pv : Nat → L2.St → Hp → Prop) (h0 : Pv 0 σ H) (hl : ∀ i σ' H', Pv i σ' H' → Same Hb H')
    (hs : ∀ (i : Nat) l σ H, ls[i]? = some l → Pv i σ H → tz { D with nx := Pv (i + 1), ct := Pv (i + 1), bk := D.nx } ((((σ.set j1 (some (.int l.a))).set j2 (some (.int l.b))).set j3 (some (oV l.t))).set j4 (some (oV l.k))) H) (hd : ∀ σ H, Pv ls.length σ H → D.nx σ H) :
    tFor (iList K tl) (gTup K 4 (gCons (gName j1) (gCons (gName j2) (gCons (gName j3) (gCons (gName j4) gNil))))) tz D σ H := h _ ⟨a, rfl, ⟨_, hb.seq hx⟩, for_list (xs := xs) Pv h0 (fun i σ H _ p => (hl i σ H p).seq hx) (fun i x σ H hi p => by
      have e := DpAll.len hL
      rw [List.length_map] at e
      have hlt : i < xs.length := by
        by_cases hlt : i < xs.length
        · exact hlt
        · rw [List.getElem?_eq_none (by omega)] at hi
          cases hi
      have hg : ls[i]? = some ls[i] := List.getElem?_eq_getElem (by omega)
      obtain ⟨v, hv, dv⟩ := DpAll.get (i := i) (d := lnkD ls[i]) hL (by
        rw [List.getElem?_map, hg]
        rfl)
      cases hi.symm.trans hv
      obtain ⟨t, rfl, ht⟩ := Dp.lnk_inv dv
      exact ⟨t, _, rfl, seqT (hl i σ H p) ht, rfl, _, _, rfl, _, _, rfl, _, _, rfl, _, _, rfl, rfl, hs i _ σ H hg p⟩) (fun σ H p => by
      have e := DpAll.len hL
      rw [List.length_map] at e
      rw [e] at p
      exact hd σ H p)⟩
/-! ### the same with what follows -/
theorem q_asg {i : Nat} (h : Vl te σ H v) (k : tw D (σ.set i (some v)) H) : tSeq (tAsg te (gName i)) tw D σ H := h _ k
theorem q_if {b : Bool} {tu : TS} (h : An t σ H b) (h1 : b = true → tz { D with nx := tw D } σ H) (h2 : b = false → tu { D with nx := tw D } σ H) : tSeq (tIfS t tz tu) tw D σ H := g_if (D := { D with nx := tw D }) h h1 h2
/-- an if without else whose body leaves the def (or the turn) -/
theorem q_when {b : Bool} (h : An t σ H b) (h1 : b = true → tz { D with nx := tw D } σ H) (h2 : b = false → tw D σ H) : tSeq (tIfS t tz tNext) tw D σ H := g_if (D := { D with nx := tw D }) h h1 h2
theorem g_when {b : Bool} (h : An t σ H b) (h1 : b = true → tz D σ H) (h2 : b = false → D.nx σ H) : tIfS t tz tNext D σ H := g_if h h1 h2
theorem q_app {l : Addr} {xs : List V} (ho : Vl ta σ H (.ref l)) (hl : H l = some (.lst xs)) (h : Vl te σ H v) (hz : xs.length < sizeLine) (k : tw D σ (upd H l (.lst (xs ++ [v])))) :
    tSeq (tDrop (tBM K "list" rAppend ta (tCons te tNil))) tw D σ H := g_app (D := { D with nx := tw D }) ho hl h hz k
theorem q_forR {j : Nat} {n : Int} (h : Va tr σ H [.int n]) (hn : -(2 ^ 62) ≤ n ∧ n < 2 ^ 62) (Pv : Nat → L2.St → Hp → Prop) (h0 : Pv 0 σ H)
    (hs : ∀ (i : Nat) σ H, (i : Int) < n → Pv i σ H → tz { D with nx := Pv (i + 1), ct := Pv (i + 1), bk := tw D } (σ.set j (some (.int i))) H) (hd : ∀ σ H, Pv n.toNat σ H → tw D σ H) :
    tSeq (tFor (iRng1 tr) (gName j) tz) tw D σ H := g_forR (D := { D with nx := tw D }) h hn Pv h0 hs hd
theorem q_forR2 {j : Nat} {lo n : Int} (h : Va tr σ H [.int lo, .int n]) (hn : -(2 ^ 62) ≤ lo ∧ lo < 2 ^ 62 ∧ -(2 ^ 62) ≤ n ∧ n < 2 ^ 62) (Pv : Nat → L2.St → Hp → Prop) (h0 : Pv 0 σ H)
    (hs : ∀ (i : Nat) σ H, lo + (i : Int) < n → Pv i σ H → tz { D with nx := Pv (i + 1), ct := Pv (i + 1), bk := tw D } (σ.set j (some (.int (lo + i)))) H) (hd : ∀ σ H, Pv (n - lo).toNat σ H → tw D σ H) :
    tSeq (tFor (iRng2 tr) (gName j) tz) tw D σ H := g_forR2 (D := { D with nx := tw D }) h hn Pv h0 hs hd
theorem q_forL {j : Nat} {xs : List V} {tl : TE} (h : Vl tl σ H (.ref a)) (hx : SqL K H a xs) (Pv : Nat → L2.St → Hp → Prop) (h0 : Pv 0 σ H) (hl : ∀ i σ' H', Pv i σ' H' → SqL K H' a xs)
    (hs : ∀ (i : Nat) x σ H, xs[i]? = some x → Pv i σ H → tz { D with nx := Pv (i + 1), ct := Pv (i + 1), bk := tw D } (σ.set j (some x)) H) (hd : ∀ σ H, Pv xs.length σ H → tw D σ H) :
    tSeq (tFor (iList K tl) (gName j) tz) tw D σ H := g_forL (D := { D with nx := tw D }) h hx Pv h0 hl hs hd
theorem q_forLnk {j1 j2 j3 j4 : Nat} {Hb : Hp} {xs : List V} {ls : List Lnk} {tl : TE} (h : Vl tl σ H (.ref a)) (hx : SqL K Hb a xs) (hL : DpAll K Hb xs (ls.map lnkD)) (hb : Same Hb H) (Pv : Nat → L2.St → Hp → Prop) (h0 : Pv 0 σ H) (hl : ∀ i σ' H', Pv i σ' H' → Same Hb H')
    (hs : ∀ (i : Nat) l σ H, ls[i]? = some l → Pv i σ H → tz { D with nx := Pv (i + 1), ct := Pv (i + 1), bk := tw D } ((((σ.set j1 (some (.int l.a))).set j2 (some (.int l.b))).set j3 (some (oV l.t))).set j4 (some (oV l.k))) H) (hd : ∀ σ H, Pv ls.length σ H → tw D σ H) :
    tSeq (tFor (iList K tl) (gTup K 4 (gCons (gName j1) (gCons (gName j2) (gCons (gName j3) (gCons (gName j4) gNil))))) tz) tw D σ H := g_forLnk (D := { D with nx := tw D }) h hx hL hb Pv h0 hl hs hd
theorem q_asgT2 {i j : Nat} {p : Addr} (h : Vl te σ H (.ref p)) (hp : SqT K H p [x, y]) (k : tw D ((σ.set i (some x)).set j (some y)) H) : tSeq (tAsg te (gTup K 2 (gCons (gName i) (gCons (gName j) gNil)))) tw D σ H :=
  h _ ⟨p, _, rfl, hp, rfl, _, _, rfl, _, _, rfl, rfl, k⟩
theorem q_dnewT {i : Nat} (k : ∀ p, H p = none → tw D (σ.set i (some (.ref p))) (upd H p (.dT []))) : tSeq (tAsg tDNewT (gName i)) tw D σ H := k
theorem q_lnew {i : Nat} (k : ∀ p, H p = none → tw D (σ.set i (some (.ref p))) (upd H p (.lst []))) : tSeq (tAsg (tLst tNil) (gName i)) tw D σ H := ⟨Nat.zero_le _, k⟩
theorem q_dput {td ty : TE} {o : Addr} {kvs : List (List Key × V)} {y1 y2 : Int} (hv : Vl te σ H v) (ho : Vl td σ H (.ref o)) (h1 : Vl ta σ H (.int y1)) (h2 : Vl tb σ H (.int y2)) (hd : H o = some (.dT kvs)) (hl : kvs.length < sizeLine)
    (k : ∀ T, H T = none → o ≠ T → tw D σ (upd (upd H T (.tup [.int y1, .int y2])) o (.dT (putK kvs [.inl y1, .inl y2] v)))) : tSeq (sDPut td (tTup (tCons ta (tCons tb tNil))) te) tw D σ H :=
  hv _ (ho _ (h1 _ (h2 _ ⟨by show 2 ≤ sizeLine; decide, fun T nT => by
    have oT : o ≠ T := ne_of_none hd nT
    exact ⟨o, _, rfl, DPut.t (k := [.inl y1, .inl y2]) (by rw [upd_ne oT]; exact hd) upd_same hl, k T nT oT⟩⟩)))
theorem q_dgetT {i : Nat} {td : TE} {o : Addr} {kvs : List (List Key × V)} {y1 y2 : Int} (ho : Vl td σ H (.ref o)) (h1 : ∀ H, Vl ta σ H (.int y1)) (h2 : ∀ H, Vl tb σ H (.int y2)) (hd : H o = some (.dT kvs))
    (k : ∀ T, H T = none → tw D (σ.set i (some ((valV kvs [.inl y1, .inl y2]).getD .non))) (upd H T (.tup [.int y1, .int y2]))) : tSeq (tAsg (tDGet1 td (tTup (tCons ta (tCons tb tNil)))) (gName i)) tw D σ H :=
  ho _ ⟨o, rfl, .inr ⟨_, .inl hd⟩, h1 _ _ (h2 _ _ ⟨by show 2 ≤ sizeLine; decide, fun T nT => by
    have oT : o ≠ T := ne_of_none hd nT
    exact ⟨_, DGet.t (k := [.inl y1, .inl y2]) (by rw [upd_ne oT]; exact hd) upd_same, k T nT⟩⟩)⟩
theorem q_asgE {i : Nat} (h : te σ H fun v H' => tw D (σ.set i (some v)) H') : tSeq (tAsg te (gName i)) tw D σ H := h
theorem g_asgE {i : Nat} (h : te σ H fun v H' => D.nx (σ.set i (some v)) H') : tAsg te (gName i) D σ H := h
theorem q_cut {M : L2.St → Hp → Prop} (h : tz { D with nx := M } σ H) (k : ∀ σ' H', M σ' H' → tw D σ' H') : Evl.tCut tz tw D σ H := ⟨M, h, k⟩
end
/-! ### defs that may be called by their names -/
structure Df (K : PySem.W.Frag) (mg : Str → Option Value) (x : Str) (st : Stmt) (ps : List Str) : Prop where
  ex : ∃ (f : Addr) (fd : FuncData), Fun K x x st f fd ∧ mg x = some (.ref f) ∧ Binds K fd ps []
structure Kal (P : Program) (w : World) (K : PySem.W.Frag) (mg : Str → Option Value) (base : Heap) (k : Nat) (x : Str) (ps : List Str) (sp : Sp) : Prop where
  ex : ∃ (f : Addr) (fd : FuncData), FnOk P w K mg base CX0 k f fd ps sp ∧ mg x = some (.ref f) ∧ PySem.W.keepIn K (.ref f) = true ∧ Binds K fd ps []
theorem kal_of {P : Program} {w : World} {K : PySem.W.Frag} {mg : Str → Option Value} {base : Heap} {k : Nat} {x : Str} {st : Stmt} {ps : List Str} {sp : Sp} (A : Df K mg x st ps)
    (ok : ∀ f fd, Fun K x x st f fd → FnOk P w K mg base CX0 k f fd ps sp) : Kal P w K mg base k x ps sp := by
  obtain ⟨f, fd, F, g, b⟩ := A.ex
  exact ⟨f, fd, ok f fd F, g, F.kp, b⟩
theorem pe_k {X : Cx} {k j : Nat} {x : Str} {ps : List Str} {sp : Sp} {p pos : Pos} {e : Expr} {es : List Expr} {t : TA} (c : Kal X.prog X.w X.K X.mg X.base k x ps sp) (hr : Room j X.A) (hk : k ≤ j) (hg : Gl X x) (ha : PA X (e :: es) t)
    (hdb : (x == ("__debug__" : Str)) = false := by decide) (he : starEach (e :: es) X.env = (false, eval e X.env) :: starEach es X.env := by rfl) (hpl : (backTo pos (starEach es X.env)).any (·.1) = false := by rfl) :
    PE X (.Call (.Name x p) (e :: es) [] pos) (tCall sp [] E0 t) := by
  obtain ⟨f, fd, F, hm, kp, b⟩ := c.ex
  exact pe_call F (hr.mono hk) hg hm kp b .nil pass0 ha hdb he hpl
/-! ### values that are not told: ints of which P holds -/
def Vi (te : TE) (σ : L2.St) (H : Hp) (P : Int → Prop) : Prop := ∀ Q : VK, (∀ r, P r → Q (.int r) H) → te σ H Q
section
variable {K : PySem.W.Frag} {σ : L2.St} {H : Hp} {i : Nat} {ta tb te : TE} {tr : TA} {D : Ends} {tz tw tu : TS} {P P1 P2 : Int → Prop}
theorem vi_of {n : Int} (h : Vl te σ H (.int n)) : Vi te σ H (fun r => r = n) := fun _ q => h _ (q n rfl)
theorem vi_I0 {g : Int → Int → Int} (ha : Vi ta σ H P1) (hb : Vi tb σ H P2) (h : ∀ p q, P1 p → P2 q → P (g p q)) : Vi (tOp (rI0 fun i j => .int (g i j)) ta tb) σ H P := fun _ k =>
  ha _ fun p hp => hb _ fun q hq => ⟨p, q, rfl, rfl, k _ (h p q hp hq)⟩
theorem vi_call {sp : Sp} {vs : List V} (h : Va tr σ H vs) (hs : ∀ Q E, (∀ r, P r → Q (.int r) H) → sp vs H Q E) : Vi (tCall sp [] E0 tr) σ H P := fun Q q => h _ (by
  show sp (vs ++ []) H Q E0
  rw [List.append_nil]
  exact hs Q E0 q)
theorem vi_mono (h : Vi te σ H P1) (hh : ∀ r, P1 r → P r) : Vi te σ H P := fun Q q => h Q fun r hr => q r (hh r hr)
theorem g_asgI {i : Nat} (h : Vi te σ H P) (k : ∀ r, P r → D.nx (σ.set i (some (.int r))) H) : tAsg te (gName i) D σ H := h _ k
theorem q_asgI {i : Nat} (h : Vi te σ H P) (k : ∀ r, P r → tw D (σ.set i (some (.int r))) H) : tSeq (tAsg te (gName i)) tw D σ H := h _ k
theorem g_retI (h : Vi te σ H P) (k : ∀ r, P r → D.rt (.int r) H) : tRet te D σ H := h _ k
end
local macro_rules
  | `(tactic| walk_at "ev") => `(tactic| repeat' (first
    | exact vl_c | exact vl_var rfl | apply vl_I0 | apply vl_I | apply vl_int1 | apply vl_abs | apply vl_min2 | apply vl_max2 | apply vl_neg | apply vl_chainI
    | apply vl_lenL | apply vl_ixL | apply vl_ixT | apply vl_isN | apply vl_notN | apply vl_eq | apply vl_ne
    | apply an_test | apply an_B | apply an_not
    | exact (show (0 : Int) < _ by decide) | exact (show (0 : Int) < _ ∧ _ < (1073741824 : Int) from ⟨by decide, by decide⟩)))
abbrev sDraws : Stmt := topS 13
theorem scDraws : FnScope ["script", "draws", "k", "rest", "turn", "mixed"] ["script"] (defScope sDraws) := ⟨rfl, rfl, rfl, by decide +kernel, rfl, by decide +kernel, by decide +kernel⟩
structure DrawsOk (m : Nat) (ds : List Int) : Prop where
  len : ds.length ≤ m
  all : ∀ d ∈ ds, 0 ≤ d ∧ d < 65536
theorem DrawsOk.app {m : Nat} {ds : List Int} {d : Int} (h : DrawsOk m ds) (h0 : 0 ≤ d) (h1 : d < 65536) : DrawsOk (m + 1) (ds ++ [d]) where
  len := by
    rw [List.length_append]
    exact Nat.succ_le_succ h.len
  all := fun e he => by
    rcases List.mem_append.mp he with h' | h'
    · exact h.all e h'
    · rw [List.mem_singleton.mp h']
      exact ⟨h0, h1⟩
theorem DrawsOk.mono {m n : Nat} {ds : List Int} (h : DrawsOk m ds) (le : m ≤ n) : DrawsOk n ds := ⟨Nat.le_trans h.len le, h.all⟩
def spDraws (K : PySem.W.Frag) : Sp := fun vs H Q _ => ∃ (a : Addr) (ns : List Int), vs = [.ref a] ∧ SqL K H a (ns.map V.int) ∧ ns.length ≤ 63 ∧
  ∀ H' p ds, Same H H' → H p = none → H' p = some (.lst (ds.map V.int)) → DrawsOk 3780 ds → Q (.ref p) H'
section
variable {P : Program} {w : World} {K : PySem.W.Frag} {mg : Str → Option Value} {base : Heap}
theorem ok_draws {f : Addr} {fd : FuncData} {k : Nat} (F : Fun K "_law_draws" "_law_draws" sDraws f fd) (mr : mg "range" = none) (mm : mg "min" = none) (ml : mg "len" = none) (ma : mg "abs" = none) (mi : mg "int" = none) :
    FnOk P w K mg base CX0 (k + 1) f fd ["script"] (spDraws K) := by
  refine F.ok scDraws (fun vs H Q E h => ?_) (fun cdv A outer s H vs Q E hr h => ?_)
  · obtain ⟨a, ns, rfl, _⟩ := h
    rfl
  · obtain ⟨a, ns, rfl, hS, hlen, q⟩ := h
    refine ⟨_, pss_cons (ps_set (i := 1) scDraws.nd rfl (.inl rfl) (pe_lst pa_nil))
      (pss_cons (ps_for PassesOwn.never rfl (pi_range1 (by rfl) mr (pa_cons (pe_callB (call_min2 rfl) (by rfl) mm (by decide +kernel) (pa_cons pe_int (pa_cons (pe_callB call_len_seq (by rfl) ml PySem.boot_len (pa_cons (pv 0) pa_nil)) pa_nil))) pa_nil)) (pg_name (i := 2) scDraws.nd rfl (.inl rfl))
        (pss_cons (ps_set (i := 3) scDraws.nd rfl (.inl rfl) (pe_callB call_abs (by rfl) ma (by decide +kernel) (pa_cons (pe_ix ix_list (pv 0) (pv 2) (fun _ _ => rfl)) pa_nil)))
        (pss_one (ps_if (pt_cmpR op_ge (pv 3) (pe_op op_pow pe_int pe_int) (nomark _))
          (pss_one (ps_for PassesOwn.never rfl (pi_range1 (by rfl) mr (pa_cons pe_int pa_nil)) (pg_name (i := 4) scDraws.nd rfl (.inl rfl))
            (pss_one (ps_if (pt_cmpR op_gt (pv 3) pe_int (nomark _))
              (pss_cons (ps_expr (pe_bm PySem.F.plainAttrs_list PySem.F.slot_list_append PySem.F.type_list_append mt_append (pv 1) (pa_cons (pe_op op_mod (pe_callTy call_int1 (by rfl) mi (by decide +kernel) (pa_cons (pv 3) pa_nil)) pe_int) pa_nil)))
              (pss_one (ps_set (i := 3) scDraws.nd rfl (.inl rfl) (pe_op op_fdiv (pv 3) pe_int)))) pss_nil))))
          (pss_cons (ps_set (i := 5) scDraws.nd rfl (.inl rfl) (pe_op op_mod (pe_callTy call_int1 (by rfl) mi (by decide +kernel) (pa_cons (pe_op op_add (pe_op op_mul (pv 3) pe_int) (pe_op op_mul (pe_op op_add (pv 2) pe_int) pe_int)) pa_nil)) pe_int))
          (pss_cons (ps_set (i := 5) scDraws.nd rfl (.inl rfl) (pe_op op_mod (pe_callTy call_int1 (by rfl) mi (by decide +kernel) (pa_cons (pe_op op_add (pe_op op_add (pe_op op_mul (pv 5) pe_int) (pe_op op_mul pe_int (pv 2))) pe_int) pa_nil)) pe_int))
          (pss_cons (ps_expr (pe_bm PySem.F.plainAttrs_list PySem.F.slot_list_append PySem.F.type_list_append mt_append (pv 1) (pa_cons (pe_op op_mod (pe_callTy call_int1 (by rfl) mi (by decide +kernel) (pa_cons (pv 5) pa_nil)) pe_int) pa_nil)))
          (pss_one (ps_expr (pe_bm PySem.F.plainAttrs_list PySem.F.slot_list_append PySem.F.type_list_append mt_append (pv 1) (pa_cons (pe_op op_mod (pe_callTy call_int1 (by rfl) mi (by decide +kernel) (pa_cons (pe_op op_fdiv (pv 5) pe_int) pa_nil)) pe_int) pa_nil)))))))))))
      (pss_one (ps_ret (pv 1)))), ?_⟩
    -- draws = []
    refine ⟨Nat.zero_le _, fun o no => ?_⟩
    have s1 : Same H (upd H o (.lst [])) := same_upd no
    have hS1 := s1.seq hS
    refine (q_forR (n := if (ns.length : Int) < 63 then (ns.length : Int) else 63) (va_cons (vl_min2 vl_c ((vl_lenL (vl_var rfl) hS1).is (by rw [List.length_map]))) va_nil) ⟨by split <;> omega, by split <;> omega⟩
      (fun i σ H3 => ∃ y2 y3 y4 y5 ds, σ = [some (.ref a), some (.ref o), y2, y3, y4, y5] ∧ Same H H3 ∧ H3 o = some (.lst (ds.map V.int)) ∧ DrawsOk (60 * i) ds)
      ⟨none, none, none, none, [], rfl, s1, upd_same, Nat.zero_le _, fun _ h => by cases h⟩ (fun i σ H3 hi hP => ?_) (fun σ H3 hP => ?_))
    · obtain ⟨y2, y3, y4, y5, ds, rfl, sm, ho, hd⟩ := hP
      have hi2 : i < ns.length := by
        split at hi <;> omega
      have hA := sm.seq hS
      have g1 : (ns.map V.int)[i]? = some (.int ns[i]) := by
        rw [List.getElem?_map, List.getElem?_eq_getElem hi2]
        rfl
      -- rest = abs(script[k])
      refine (q_asg (v := .int (if ns[i] < 0 then -ns[i] else ns[i])) (vl_abs (vl_ixL (vl_var rfl) (vl_var rfl) hA (atI_nat g1))) ?_)
      generalize hr0 : (if ns[i] < 0 then -ns[i] else ns[i]) = r
      have hr1 : 0 ≤ r := by
        rw [← hr0]
        split <;> omega
      refine g_if (b := decide ((10 : Int) ^ (18 : Int).toNat ≤ r)) (by exact an_test (vl_I0 (vl_var rfl) (vl_I vl_c vl_c ⟨by decide, by decide, by decide⟩))) (fun _ => ?_) (fun hlt => ?_)
      · refine g_forR (n := 60) (va_cons vl_c va_nil) ⟨by decide, by decide⟩
          (fun j σ H4 => ∃ y4 r ds', σ = [some (.ref a), some (.ref o), some (.int i), some (.int r), y4, y5] ∧ Same H H4 ∧ H4 o = some (.lst (ds'.map V.int)) ∧ DrawsOk (60 * i + j) ds')
          ⟨y4, r, ds, rfl, sm, ho, hd⟩ (fun j σ H4 hj hP => ?_) (fun σ H4 hP => ?_)
        · obtain ⟨z4, r', ds', rfl, sm', ho', hd'⟩ := hP
          refine g_if (by walk_at "ev") (fun _ => ?_) (fun _ => ?_)
          · have h0 : 0 ≤ r' % 65536 := Int.emod_nonneg _ (by decide)
            have h1 : r' % 65536 < 65536 := Int.emod_lt_of_pos _ (by decide)
            refine (q_app (vl_var rfl) ho' (v := .int (r' % 65536)) (by walk_at "ev") ?_ ?_)
            · rw [List.length_map]
              have := hd'.len
              exact Nat.lt_of_le_of_lt this (Nat.lt_of_le_of_lt (show 60 * i + j ≤ 10000 by omega) (by decide))
            · refine g_asg (v := .int (r' / 65536)) (by walk_at "ev") ?_
              refine ⟨_, _, ds' ++ [r' % 65536], rfl, same_upd' sm' no, ?_, hd'.app h0 h1⟩
              rw [upd_same, List.map_append]
              rfl
          · exact ⟨_, _, ds', rfl, sm', ho', hd'.mono (Nat.le_succ _)⟩
        · obtain ⟨z4, r', ds', rfl, sm', ho', hd'⟩ := hP
          exact ⟨_, _, _, _, ds', rfl, sm', ho', hd'⟩
      · have hlt : r < 1000000000000000000 := by
          have := of_decide_eq_false hlt
          have e : (10 : Int) ^ (18 : Int).toNat = 1000000000000000000 := by decide
          omega
        refine (q_asg (v := .int ((r * 48271 + ((i : Int) + 1) * 69621) % 2147483647)) (by walk_at "ev"; exact .inl ⟨by omega, by omega⟩; exact .inl ⟨by omega, by omega⟩) ?_)
        generalize hm : (r * 48271 + ((i : Int) + 1) * 69621) % 2147483647 = m
        have hm0 : 0 ≤ m := by
          rw [← hm]
          exact Int.emod_nonneg _ (by decide)
        have hm1 : m < 2147483647 := by
          rw [← hm]
          exact Int.emod_lt_of_pos _ (by decide)
        refine (q_asg (v := .int ((m * 16807 + 11 * (i : Int) + 5) % 2147483629)) (by walk_at "ev"; exact .inl ⟨by omega, by omega⟩; exact .inl ⟨by decide, by decide⟩) ?_)
        generalize (m * 16807 + 11 * (i : Int) + 5) % 2147483629 = m2
        have h0 : 0 ≤ m2 % 65536 := Int.emod_nonneg _ (by decide)
        have h1 : m2 % 65536 < 65536 := Int.emod_lt_of_pos _ (by decide)
        have h2 : 0 ≤ (m2 / 65536) % 32768 := Int.emod_nonneg _ (by decide)
        have h3 : (m2 / 65536) % 32768 < 65536 := Int.lt_trans (Int.emod_lt_of_pos _ (by decide)) (by decide)
        have hl := hd.len
        refine (q_app (vl_var rfl) ho (v := .int (m2 % 65536)) (by walk_at "ev") ?_ ?_)
        · rw [List.length_map]
          exact Nat.lt_of_le_of_lt (show ds.length ≤ 10000 by omega) (by decide)
        · refine g_app (vl_var rfl) upd_same (v := .int ((m2 / 65536) % 32768)) (by walk_at "ev") ?_ ?_
          · rw [List.length_append, List.length_map]
            exact Nat.lt_of_le_of_lt (show ds.length + 1 ≤ 10000 by omega) (by decide)
          · refine ⟨_, _, _, _, (ds ++ [m2 % 65536]) ++ [(m2 / 65536) % 32768], rfl, same_upd' (same_upd' sm no) no, ?_, ((hd.app h0 h1).app h2 h3).mono (by omega)⟩
            rw [upd_same, List.map_append, List.map_append]
            rfl
    · obtain ⟨y2, y3, y4, y5, ds, rfl, sm, ho, hd⟩ := hP
      refine g_ret (vl_var rfl) (q H3 o ds sm no ho (hd.mono ?_))
      split <;> omega
end
abbrev sAt : Stmt := topS 14
abbrev sIsI : Stmt := topS 15
abbrev sMix : Stmt := topS 16
abbrev sPrice : Stmt := topS 17
theorem scAt : FnScope ["draws", "k", "many"] ["draws", "k", "many"] (defScope sAt) := ⟨rfl, rfl, rfl, by decide +kernel, rfl, by decide +kernel, by decide +kernel⟩
theorem scIsI : FnScope ["actual"] ["actual"] (defScope sIsI) := ⟨rfl, rfl, rfl, by decide +kernel, rfl, by decide +kernel, by decide +kernel⟩
theorem scMix : FnScope ["draws", "k", "many", "value"] ["draws", "k", "many"] (defScope sMix) := ⟨rfl, rfl, rfl, by decide +kernel, rfl, by decide +kernel, by decide +kernel⟩
theorem scPrice : FnScope ["draws", "k", "word"] ["draws", "k"] (defScope sPrice) := ⟨rfl, rfl, rfl, by decide +kernel, rfl, by decide +kernel, by decide +kernel⟩
local macro_rules
  | `(tactic| walk_at "ev") => `(tactic| repeat' (first
    | exact vl_c | exact vl_var rfl | apply vl_I0 | apply vl_I | apply vl_int1 | apply vl_abs | apply vl_min2 | apply vl_max2 | apply vl_neg | apply vl_chainI
    | apply vl_lenL | apply vl_ixL | apply vl_ixT | apply vl_isN | apply vl_notN | apply vl_eq | apply vl_ne
    | apply an_test | apply an_B | apply an_not
    | exact (show (0 : Int) < _ by decide) | exact (show (0 : Int) < _ ∧ _ < (1073741824 : Int) from ⟨by decide, by decide⟩)))
/-- an int in [0, m) for draws, k, m -/
def spAt (K : PySem.W.Frag) : Sp := fun vs H Q _ => ∃ (a : Addr) (ds : List Int) (k m : Int), vs = [.ref a, .int k, .int m] ∧ SqL K H a (ds.map V.int) ∧ 0 ≤ k ∧ 0 < m ∧ ∀ r, 0 ≤ r ∧ r < m → Q (.int r) H
def spIsI : Sp := fun vs H Q _ => ∃ i : Int, vs = [.int i] ∧ Q (.bl true) H
section
variable {P : Program} {w : World} {K : PySem.W.Frag} {mg : Str → Option Value} {base : Heap}
theorem ok_isI {f : Addr} {fd : FuncData} {k : Nat} (F : Fun K "_law_is_integer" "_law_is_integer" sIsI f fd) (ms : mg "isinstance" = none) (mi : mg "int" = none) (mb : mg "bool" = none) :
    FnOk P w K mg base CX0 (k + 1) f fd ["actual"] spIsI := by
  refine F.ok scIsI (fun vs H Q E h => ?_) (fun cdv A outer s H vs Q E hr h => ?_)
  · obtain ⟨i, rfl, _⟩ := h
    rfl
  · obtain ⟨i, rfl, q⟩ := h
    refine ⟨_, pss_one (ps_ret (pe_and (pe_callB call_isi (by rfl) ms (by decide +kernel) (pa_cons (pv 0) (pa_cons (pe_bltn (v := .ty "int") (by rfl) mi (by decide +kernel) rfl) pa_nil)))
      (pe_one (pe_not (pe_callB call_isi (by rfl) ms (by decide +kernel) (pa_cons (pv 0) (pa_cons (pe_bltn (v := .ty "bool") (by rfl) mb (by decide +kernel) rfl) pa_nil))))))), ?_⟩
    refine ⟨.int i, rfl, .int i, .ty "int", .type "int", .type "int", true, rfl, .ty _, .base (.int _), kit_ty (by decide +kernel), true, rfl, iteT ?_⟩
    exact ⟨.int i, rfl, .int i, .ty "bool", .type "int", .type "bool", false, rfl, .ty _, .base (.int _), kit_ty (by decide +kernel), false, rfl, q⟩
theorem ok_at {f : Addr} {fd : FuncData} {k : Nat} (F : Fun K "_law_at" "_law_at" sAt f fd) (ml : mg "len" = none) (mi : mg "int" = none) :
    FnOk P w K mg base CX0 (k + 1) f fd ["draws", "k", "many"] (spAt K) := by
  refine F.ok scAt (fun vs H Q E h => ?_) (fun cdv A outer s H vs Q E hr h => ?_)
  · obtain ⟨a, ds, k, m, rfl, _⟩ := h
    rfl
  · obtain ⟨a, ds, k, m, rfl, hS, hk, hm, q⟩ := h
    refine ⟨_, pss_cons (ps_if (pt_cmpR op_lt (pv 1) (pe_callB call_len_seq (by rfl) ml PySem.boot_len (pa_cons (pv 0) pa_nil)) (nomark _))
        (pss_one (ps_ret (pe_op op_mod (pe_callTy call_int1 (by rfl) mi (by decide +kernel) (pa_cons (pe_ix ix_list (pv 0) (pv 1) (fun _ _ => rfl)) pa_nil)) (pv 2)))) pss_nil)
      (pss_one (ps_ret pe_int)), ?_⟩
    refine q_when (b := decide (k < (ds.length : Int))) (by exact an_test (vl_I0 (vl_var rfl) ((vl_lenL (vl_var rfl) hS).is (by rw [List.length_map])))) (fun hb => ?_) (fun _ => ?_)
    · have hb := of_decide_eq_true hb
      obtain ⟨d, g', _⟩ := at_int hk hb
      refine g_ret (v := .int (d % m)) ?_ (q _ ⟨Int.emod_nonneg _ (by omega), Int.emod_lt_of_pos _ hm⟩)
      exact vl_I (vl_int1 (vl_ixL (vl_var rfl) (vl_var rfl) hS g')) (vl_var rfl) hm
    · exact g_ret vl_c (q 0 ⟨by omega, by omega⟩)
theorem ok_mix {f : Addr} {fd : FuncData} {k : Nat} (F : Fun K "_law_mix" "_law_mix" sMix f fd) (ml : mg "len" = none) (mi : mg "int" = none) :
    FnOk P w K mg base CX0 (k + 1) f fd ["draws", "k", "many"] (spAt K) := by
  refine F.ok scMix (fun vs H Q E h => ?_) (fun cdv A outer s H vs Q E hr h => ?_)
  · obtain ⟨a, ds, k, m, rfl, _⟩ := h
    rfl
  · obtain ⟨a, ds, k, m, rfl, hS, hk, hm, q⟩ := h
    refine ⟨_, pss_cons (ps_set (i := 3) scMix.nd rfl (.inl rfl) pe_int)
      (Evl.pss_cut (ps_if (pt_cmpR op_gt (pe_callB call_len_seq (by rfl) ml PySem.boot_len (pa_cons (pv 0) pa_nil)) pe_int (nomark _))
        (pss_one (ps_set (i := 3) scMix.nd rfl (.inl rfl) (pe_ix ix_list (pv 0) (pe_op op_mod (pe_callTy call_int1 (by rfl) mi (by decide +kernel) (pa_cons (pv 1) pa_nil)) (pe_callB call_len_seq (by rfl) ml PySem.boot_len (pa_cons (pv 0) pa_nil))) (fun _ _ => rfl)))) pss_nil)
      (pss_cons (ps_if (pt_cmpR op_lt (pv 1) (pe_callB call_len_seq (by rfl) ml PySem.boot_len (pa_cons (pv 0) pa_nil)) (nomark _))
        (pss_one (ps_ret (pe_op op_mod (pe_callTy call_int1 (by rfl) mi (by decide +kernel) (pa_cons (pv 3) pa_nil)) (pv 2)))) pss_nil)
      (pss_one (ps_ret (pe_op op_mod (pe_callTy call_int1 (by rfl) mi (by decide +kernel) (pa_cons (pe_op op_fdiv (pe_callTy call_int1 (by rfl) mi (by decide +kernel) (pa_cons (pe_op op_add (pe_op op_mul (pv 3) pe_int) (pe_op op_mul (pv 1) pe_int)) pa_nil)) pe_int) pa_nil)) (pv 2)))))), ?_⟩
    refine q_asg vl_c ?_
    refine q_cut (M := fun σ' H' => ∃ v : Int, σ' = [some (.ref a), some (.int k), some (.int m), some (.int v)] ∧ H' = H) ?_ ?_
    · refine g_when (b := decide ((0 : Int) < (ds.length : Int))) (by exact an_test (vl_I0 ((vl_lenL (vl_var rfl) hS).is (by rw [List.length_map])) vl_c)) (fun hb => ?_) (fun _ => ⟨0, rfl, rfl⟩)
      have hb := of_decide_eq_true hb
      have h0 : 0 ≤ k % (ds.length : Int) := Int.emod_nonneg _ (by omega)
      have h1 : k % (ds.length : Int) < (ds.length : Int) := Int.emod_lt_of_pos _ hb
      obtain ⟨d, g', _⟩ := at_int h0 h1
      exact g_asg (vl_ixL (vl_var rfl) (vl_I (vl_int1 (vl_var rfl)) ((vl_lenL (vl_var rfl) hS).is (by rw [List.length_map])) hb) hS g') ⟨_, rfl, rfl⟩
    · rintro σ' H' ⟨v, rfl, rfl⟩
      refine q_when (b := decide (k < (ds.length : Int))) (by exact an_test (vl_I0 (vl_var rfl) ((vl_lenL (vl_var rfl) hS).is (by rw [List.length_map])))) (fun hb => ?_) (fun _ => ?_)
      · exact g_ret (v := .int (v % m)) (vl_I (vl_int1 (vl_var rfl)) (vl_var rfl) hm) (q _ ⟨Int.emod_nonneg _ (by omega), Int.emod_lt_of_pos _ hm⟩)
      · refine g_ret (v := .int ((v * 7919 + k * 104729) / 3 % m)) (vl_I (vl_int1 (vl_I (vl_int1 (vl_I0 (vl_I (vl_var rfl) vl_c (.inr ⟨by decide, by decide⟩)) (vl_I (vl_var rfl) vl_c (.inr ⟨by decide, by decide⟩)))) vl_c ⟨by decide, by decide⟩)) (vl_var rfl) hm) (q _ ⟨Int.emod_nonneg _ (by omega), Int.emod_lt_of_pos _ hm⟩)
end
def PriceOk (o : Option Int) : Prop := ∀ x, o = some x → 1 ≤ x ∧ x ≤ 1000000
structure LnkOk (n : Int) (l : Lnk) : Prop where
  a0 : 0 ≤ l.a
  ab : l.a < l.b
  bn : l.b < n
  t : PriceOk l.t
  k : PriceOk l.k
def LnkLt (x y : Lnk) : Prop := x.a < y.a ∨ (x.a = y.a ∧ x.b < y.b)
structure NetOk (N : Net) : Prop where
  n1 : 1 ≤ N.n
  n40 : N.n ≤ 40
  ok : ∀ l ∈ N.ls, LnkOk N.n l
  lt : N.ls.Pairwise LnkLt
  len : N.ls.length ≤ 1600
/-- a net that stands in H by itself -/
def NetAt (K : PySem.W.Frag) (H : Hp) (v : V) (N : Net) : Prop := ∃ p q xs, v = .ref p ∧ H p = some (.tup [.int N.n, .ref q]) ∧ H q = some (.lst xs) ∧ DpAll K H xs (N.ls.map lnkD)
theorem NetAt.dp {K : PySem.W.Frag} {H : Hp} {v : V} {N : Net} (h : NetAt K H v N) : Dp K H v (netD N) := by
  obtain ⟨p, q, xs, rfl, hp, hq, hx⟩ := h
  exact Dp.net (.of hp) (.of hq) hx
theorem NetAt.to {K : PySem.W.Frag} {H H' : Hp} {v : V} {N : Net} (h : NetAt K H v N) (s : Same H H') : NetAt K H' v N := by
  obtain ⟨p, q, xs, rfl, hp, hq, hx⟩ := h
  exact ⟨p, q, xs, rfl, s _ _ hp, s _ _ hq, DpAll.to hx s⟩
def spPrice (K : PySem.W.Frag) : Sp := fun vs H Q _ => ∃ (a : Addr) (ds : List Int) (k : Int), vs = [.ref a, .int k] ∧ SqL K H a (ds.map V.int) ∧ 0 ≤ k ∧ ∀ H' o, Same H H' → PriceOk o → Q (oV o) H'
def spNet (K : PySem.W.Frag) : Sp := fun vs H Q _ => ∃ (a : Addr) (ds : List Int) (k m : Int), vs = [.ref a, .int k, .int m] ∧ SqL K H a (ds.map V.int) ∧ 0 ≤ k ∧ 1 ≤ m ∧ m ≤ 40 ∧
  ∀ H' v N, Same H H' → NetAt K H' v N → NetOk N → N.n ≤ m → Q v H'
section
variable {P : Program} {w : World} {K : PySem.W.Frag} {mg : Str → Option Value} {base : Heap}
theorem ok_price {f : Addr} {fd : FuncData} (F : Fun K "_law_price" "_law_price" sPrice f fd) (M : Kal P w K mg base 1 "_law_mix" ["draws", "k", "many"] (spAt K)) (mi : mg "int" = none) :
    FnOk P w K mg base CX0 2 f fd ["draws", "k"] (spPrice K) := by
  refine F.ok scPrice (fun vs H Q E h => ?_) (fun cdv A outer s H vs Q E hr h => ?_)
  · obtain ⟨a, ds, k, rfl, _⟩ := h
    rfl
  · obtain ⟨a, ds, k, rfl, hS, hk, q⟩ := h
    refine ⟨_, pss_cons (ps_set (i := 2) scPrice.nd rfl (.inl rfl) (pe_k M hr (by decide) (by rfl) (pa_cons (pv 0) (pa_cons (pv 1) (pa_cons pe_int pa_nil)))))
      (pss_cons (ps_if (pt_cmpR op_eq (pv 2) pe_int (nomark _)) (pss_one (ps_ret pe_non)) pss_nil)
      (pss_cons (ps_if (pt_cmpR op_eq (pv 2) pe_int (nomark _))
        (pss_one (ps_ret (pe_op op_sub pe_int (pe_k M hr (by decide) (by rfl) (pa_cons (pv 0) (pa_cons (pe_op op_add (pv 1) pe_int) (pa_cons pe_int pa_nil))))))) pss_nil)
      (pss_one (ps_ret (pe_op op_add pe_int (pe_k M hr (by decide) (by rfl) (pa_cons (pv 0) (pa_cons (pe_op op_add (pv 1) pe_int)
        (pa_cons (pe_ix ix_list (pe_lst (pa_cons pe_int (pa_cons pe_int (pa_cons pe_int pa_nil)))) (pe_op op_mod (pe_callTy call_int1 (by rfl) mi (by decide +kernel) (pa_cons (pv 2) pa_nil)) pe_int) (fun _ _ => rfl)) pa_nil))))))))), ?_⟩
    refine q_asgI (vi_call (P := fun r => 0 ≤ r ∧ r < 7) (va_cons (vl_var rfl) (va_cons (vl_var rfl) (va_cons vl_c va_nil))) fun Q E q => ⟨a, ds, k, 7, rfl, hS, hk, by decide, q⟩) (fun wd hw => ?_)
    refine q_when (b := decide (V.int wd = V.int 0)) (by exact an_test (vl_eq (vl_var rfl) vl_c rfl)) (fun _ => ?_) (fun _ => ?_)
    · exact g_ret vl_c (q H none (Same.refl H) (fun x e => by cases e))
    · refine q_when (b := decide (V.int wd = V.int 1)) (by exact an_test (vl_eq (vl_var rfl) vl_c rfl)) (fun _ => ?_) (fun _ => ?_)
      · refine g_retI (P := fun r => 1 ≤ r ∧ r ≤ 1000000) (vi_I0 (vi_of vl_c) (vi_call (P := fun r => 0 ≤ r ∧ r < 3) (va_cons (vl_var rfl) (va_cons (vl_I0 (vl_var rfl) vl_c) (va_cons vl_c va_nil))) fun Q E q => ⟨a, ds, k + 1, 3, rfl, hS, by omega, by decide, q⟩) (fun p r hp hr => ?_)) (fun r hr => ?_)
        · omega
        · exact q H (some r) (Same.refl H) (fun x e => by
            cases e
            exact hr)
      · refine ⟨.ref a, rfl, .int k, rfl, k, 1, rfl, rfl, by show 3 ≤ sizeLine; decide, fun p np => ?_⟩
        refine (vl_I (vl_int1 (vl_var rfl)) vl_c (by decide)) _ ?_
        obtain ⟨d, g', hd⟩ := at_int (ds := [4, 30, 1000000]) (k := wd % 3) (by omega) (by show wd % 3 < 3; omega)
        have hd1 : 1 ≤ d ∧ d ≤ 1000000 := by
          have := List.mem_of_getElem? hd
          simp only [List.mem_cons, List.not_mem_nil, or_false] at this
          omega
        refine ⟨p, _, _, _, rfl, rfl, .inl (.inl upd_same), g', ?_⟩
        refine ⟨a, ds, k + 1, d, rfl, (same_upd np).seq hS, by omega, by omega, fun r hr => ?_⟩
        exact ⟨1, r, rfl, rfl, q _ (some (1 + r)) (same_upd np) (fun x e => by
          cases e
          omega)⟩
end
abbrev sNet : Stmt := topS 18
theorem scNet : FnScope ["draws", "k", "most", "size", "dense", "links", "a", "b", "at"] ["draws", "k", "most"] (defScope sNet) := ⟨rfl, rfl, rfl, by decide +kernel, rfl, by decide +kernel, by decide +kernel⟩
/-- the links made so far: all of them before (i, c) -/
structure LsAt (n i c : Int) (ls : List Lnk) : Prop where
  ok : ∀ l ∈ ls, LnkOk n l
  to : ∀ l ∈ ls, l.a < i ∨ (l.a = i ∧ l.b < c)
  lt : ls.Pairwise LnkLt
theorem LsAt.nil {n i c : Int} : LsAt n i c [] := ⟨fun _ h => (nomatch h), fun _ h => (nomatch h), .nil⟩
theorem LsAt.mono {n i c i' c' : Int} {ls : List Lnk} (h : LsAt n i c ls) (e : i < i' ∨ (i = i' ∧ c ≤ c')) : LsAt n i' c' ls :=
  ⟨h.ok, fun l hl => by
    have := h.to l hl
    omega, h.lt⟩
theorem LsAt.app {n i c : Int} {ls : List Lnk} {t k : Option Int} (h : LsAt n i c ls) (h0 : 0 ≤ i) (h1 : i < c) (h2 : c < n) (ht : PriceOk t) (hk : PriceOk k) : LsAt n i (c + 1) (ls ++ [⟨i, c, t, k⟩]) where
  ok := fun l hl => by
    rcases List.mem_append.mp hl with h' | h'
    · exact h.ok l h'
    · rw [List.mem_singleton.mp h']
      exact ⟨h0, h1, h2, ht, hk⟩
  to := fun l hl => by
    rcases List.mem_append.mp hl with h' | h'
    · have := h.to l h'
      omega
    · rw [List.mem_singleton.mp h']
      exact .inr ⟨rfl, Int.lt_succ c⟩
  lt := List.pairwise_append.mpr ⟨h.lt, List.pairwise_singleton _ _, fun x hx y hy => by
    rw [List.mem_singleton.mp hy]
    exact h.to x hx⟩
section
variable {P : Program} {w : World} {K : PySem.W.Frag} {mg : Str → Option Value} {base : Heap}
theorem ok_net {f : Addr} {fd : FuncData} (F : Fun K "_law_net" "_law_net" sNet f fd) (M : Kal P w K mg base 1 "_law_mix" ["draws", "k", "many"] (spAt K)) (C : Kal P w K mg base 2 "_law_price" ["draws", "k"] (spPrice K)) (mr : mg "range" = none) :
    FnOk P w K mg base CX0 3 f fd ["draws", "k", "most"] (spNet K) := by
  refine F.ok scNet (fun vs H Q E h => ?_) (fun cdv A outer s H vs Q E hr h => ?_)
  · obtain ⟨a, ds, k, m, rfl, _⟩ := h
    rfl
  · obtain ⟨a, ds, k, m, rfl, hS, hk, hm1, hm2, q⟩ := h
    refine ⟨_, pss_cons (ps_set (i := 3) scNet.nd rfl (.inl rfl) (pe_op op_add pe_int (pe_k M hr (by decide) (by rfl) (pa_cons (pv 0) (pa_cons (pv 1) (pa_cons (pv 2) pa_nil))))))
      (pss_cons (ps_set (i := 4) scNet.nd rfl (.inl rfl) (pe_op op_add pe_int (pe_k M hr (by decide) (by rfl) (pa_cons (pv 0) (pa_cons (pe_op op_add (pv 1) pe_int) (pa_cons pe_int pa_nil))))))
      (pss_cons (ps_set (i := 5) scNet.nd rfl (.inl rfl) (pe_lst pa_nil))
      (pss_cons (ps_for PassesOwn.never rfl (pi_range1 (by rfl) mr (pa_cons (pv 3) pa_nil)) (pg_name (i := 6) scNet.nd rfl (.inl rfl))
        (pss_one (ps_for PassesOwn.never rfl (pi_range2 (by rfl) mr (pa_cons (pe_op op_add (pv 6) pe_int) (pa_cons (pv 3) pa_nil))) (pg_name (i := 7) scNet.nd rfl (.inl rfl))
          (pss_cons (ps_set (i := 8) scNet.nd rfl (.inl rfl) (pe_op op_add (pe_op op_add (pv 1) pe_int) (pe_op op_mul pe_int (pe_op op_add (pe_op op_mul (pv 6) (pv 3)) (pv 7)))))
          (pss_one (ps_if (pt_cmpR op_eq (pe_k M hr (by decide) (by rfl) (pa_cons (pv 0) (pa_cons (pv 8)
              (pa_cons (pe_ix ix_list (pe_lst (pa_cons pe_int (pa_cons pe_int (pa_cons pe_int (pa_cons (pv 3) (pa_cons (pv 3) pa_nil)))))) (pe_op op_sub (pv 4) pe_int) (fun _ _ => rfl)) pa_nil)))) pe_int (nomark _))
            (pss_one (ps_expr (pe_bm PySem.F.plainAttrs_list PySem.F.slot_list_append PySem.F.type_list_append mt_append (pv 5)
              (pa_cons (pe_tup (pa_cons (pv 6) (pa_cons (pv 7) (pa_cons (pe_k C hr (by decide) (by rfl) (pa_cons (pv 0) (pa_cons (pe_op op_add (pv 8) pe_int) pa_nil)))
                (pa_cons (pe_k C hr (by decide) (by rfl) (pa_cons (pv 0) (pa_cons (pe_op op_add (pv 8) pe_int) pa_nil))) pa_nil))))) pa_nil)))) pss_nil))))))
      (pss_one (ps_ret (pe_tup (pa_cons (pv 3) (pa_cons (pv 5) pa_nil)))))))), ?_⟩
    refine q_asgI (P := fun r => 1 ≤ r ∧ r ≤ m) (vi_I0 (vi_of vl_c) (vi_call (P := fun r => 0 ≤ r ∧ r < m) (va_cons (vl_var rfl) (va_cons (vl_var rfl) (va_cons (vl_var rfl) va_nil))) fun Q E q => ⟨a, ds, k, m, rfl, hS, hk, by omega, q⟩) (fun p r hp hr => by omega)) (fun n hn => ?_)
    refine q_asgI (P := fun r => 1 ≤ r ∧ r ≤ 5) (vi_I0 (vi_of vl_c) (vi_call (P := fun r => 0 ≤ r ∧ r < 5) (va_cons (vl_var rfl) (va_cons (vl_I0 (vl_var rfl) vl_c) (va_cons vl_c va_nil))) fun Q E q => ⟨a, ds, k + 1, 5, rfl, hS, by omega, by decide, q⟩) (fun p r hp hr => by omega)) (fun dn hdn => ?_)
    refine ⟨Nat.zero_le _, fun o no => ?_⟩
    refine q_forR (n := n) (va_cons (vl_var rfl) va_nil) ⟨by omega, by omega⟩
      (fun i σ H3 => ∃ y6 y7 y8 xs ls, σ = [some (.ref a), some (.int k), some (.int m), some (.int n), some (.int dn), some (.ref o), y6, y7, y8] ∧ H3 o = some (.lst xs) ∧ Same H (but H3 o) ∧ DpAll K (but H3 o) xs (ls.map lnkD) ∧ LsAt n i 0 ls ∧ ls.length ≤ i * 40)
      ⟨none, none, none, [], [], rfl, upd_same, same_but (same_upd no) no, .nil, .nil, by simp⟩ (fun i σ H3 hi hP => ?_) (fun σ H3 hP => ?_)
    · obtain ⟨y6, y7, y8, xs, ls, rfl, ho, sm, hx, hl, hlen⟩ := hP
      refine g_forR2 (lo := (i : Int) + 1) (n := n) (va_cons (vl_I0 (vl_var rfl) vl_c) (va_cons (vl_var rfl) va_nil)) ⟨by omega, by omega, by omega, by omega⟩
        (fun j σ H3 => ∃ y7 y8 xs ls, σ = [some (.ref a), some (.int k), some (.int m), some (.int n), some (.int dn), some (.ref o), some (.int i), y7, y8] ∧ H3 o = some (.lst xs) ∧ Same H (but H3 o) ∧ DpAll K (but H3 o) xs (ls.map lnkD) ∧ LsAt n i ((i : Int) + 1 + j) ls ∧ ls.length ≤ i * 40 + j)
        ⟨y7, y8, xs, ls, rfl, ho, sm, hx, hl.mono (.inr ⟨rfl, by omega⟩), hlen⟩ (fun j σ H3 hj hP => ?_) (fun σ H3 hP => ?_)
      · obtain ⟨y7, y8, xs, ls, rfl, ho, sm, hx, hl, hlen⟩ := hP
        refine q_asg (v := .int (k + 3 + 2 * (i * n + ((i : Int) + 1 + j)))) (vl_I0 (vl_I0 (vl_var rfl) vl_c) (vl_I vl_c (vl_I0 (vl_I (vl_var rfl) (vl_var rfl) (.inl ⟨by omega, by omega⟩)) (vl_var rfl)) (.inl ⟨by decide, by decide⟩))) ?_
        have hin : 0 ≤ (i : Int) * n := Int.mul_nonneg (by omega) (by omega)
        generalize hat : k + 3 + 2 * ((i : Int) * n + ((i : Int) + 1 + j)) = at_
        have hat0 : 0 ≤ at_ := by omega
        refine ⟨.ref a, rfl, .int at_, rfl, .int n, rfl, .int n, rfl, by show 5 ≤ sizeLine; decide, fun p np => ?_⟩
        refine (vl_I0 (vl_var rfl) vl_c) _ ?_
        have npo : o ≠ p := ne_of_none ho np
        obtain ⟨d, g', hd⟩ := at_int (ds := [2, 3, 4, n, n]) (k := dn - 1) (by omega) (by show dn - 1 < 5; omega)
        have hd1 : 1 ≤ d := by
          have := List.mem_of_getElem? hd
          simp only [List.mem_cons, List.not_mem_nil, or_false] at this
          omega
        have s3 : Same H3 (upd H3 p (.lst [.int 2, .int 3, .int 4, .int n, .int n])) := same_upd np
        have sH : Same H H3 := sm.trans but_same
        refine ⟨p, _, _, _, rfl, rfl, .inl (.inl upd_same), g', ?_⟩
        refine ⟨a, ds, at_, d, rfl, (sH.trans s3).seq hS, hat0, by omega, fun r hr => ?_⟩
        refine ⟨rfl, _, rfl, ite2 (fun _ => ?_) (fun _ => ?_)⟩
        · -- links.append
          have ho4 := s3 _ _ ho
          refine ⟨.ref o, rfl, .inl ⟨rfl, _, .inl (.inl ho4)⟩, .int i, rfl, .int ((i : Int) + 1 + j), rfl, ?_⟩
          refine ⟨.ref a, rfl, .int at_, rfl, at_, 1, rfl, rfl, a, ds, at_ + 1, rfl, (sH.trans s3).seq hS, by omega, fun H5 t s5 ht => ?_⟩
          refine ⟨.ref a, rfl, .int at_, rfl, at_, 2, rfl, rfl, a, ds, at_ + 2, rfl, ((sH.trans s3).trans s5).seq hS, by omega, fun H6 u s6 hu => ?_⟩
          refine ⟨by show 4 ≤ sizeLine; decide, fun T nT => ?_⟩
          have s36 : Same H3 H6 := (s3.trans s5).trans s6
          have ho6 := s36 _ _ ho
          have nTo : o ≠ T := ne_of_none ho6 nT
          have s7 : Same H6 (upd H6 T (.tup [.int i, .int ((i : Int) + 1 + j), oV t, oV u])) := same_upd nT
          refine ⟨o, xs, .ref T, rfl, rfl, s7 _ _ ho6, ?_, ?_⟩
          · rw [DpAll.len hx, List.length_map]
            exact Nat.lt_of_le_of_lt (show ls.length ≤ 10000 by omega) (by decide)
          · have sb : Same (but H3 o) (but (upd (upd H6 T (.tup [.int i, .int ((i : Int) + 1 + j), oV t, oV u])) o (.lst (xs ++ [.ref T]))) o) := by
              rw [but_upd]
              exact but_mono (s36.trans s7)
            refine ⟨_, _, xs ++ [.ref T], ls ++ [⟨i, (i : Int) + 1 + j, t, u⟩], rfl, upd_same, sm.trans sb, ?_, ?_, ?_⟩
            · rw [List.map_append]
              refine DpAll.app (DpAll.to hx sb) (DpAll.one (Dp.lnk (l := ⟨i, (i : Int) + 1 + j, t, u⟩) (.of ?_)))
              rw [but_upd, but_ne nTo.symm, upd_same]
              rfl
            · rw [show (i : Int) + 1 + ((j + 1 : Nat) : Int) = (i : Int) + 1 + j + 1 by omega]
              exact hl.app (by omega) (by omega) (by omega) ht hu
            · rw [List.length_append]
              show ls.length + 1 ≤ i * 40 + (j + 1)
              omega
        · have sb : Same (but H3 o) (but (upd H3 p (.lst [.int 2, .int 3, .int 4, .int n, .int n])) o) := but_mono s3
          exact ⟨_, _, xs, ls, rfl, s3 _ _ ho, sm.trans sb, DpAll.to hx sb, hl.mono (.inr ⟨rfl, by omega⟩), by omega⟩
      · obtain ⟨y7, y8, xs, ls, rfl, ho, sm, hx, hl, hlen⟩ := hP
        exact ⟨_, _, _, xs, ls, rfl, ho, sm, hx, hl.mono (.inl (by omega)), by omega⟩
    · obtain ⟨y6, y7, y8, xs, ls, rfl, ho, sm, hx, hl, hlen⟩ := hP
      refine ⟨.int n, rfl, .ref o, rfl, by show 2 ≤ sizeLine; decide, fun T nT => ?_⟩
      have s3 : Same H3 (upd H3 T (.tup [.int n, .ref o])) := same_upd nT
      exact q _ _ ⟨n, ls⟩ ((sm.trans but_same).trans s3) ⟨T, o, xs, rfl, upd_same, s3 _ _ ho, DpAll.to hx (but_same.trans s3)⟩ ⟨by show 1 ≤ n; omega, by show n ≤ 40; omega, hl.ok, hl.lt, by show ls.length ≤ 1600; omega⟩ (by show n ≤ m; omega)
end
/-! ### data that is the same is equal -/
theorem lay_o : ∀ o : Option Int, (oD o).canLay0 = true ∧ (oD o).depth = 0
  | none => ⟨rfl, rfl⟩
  | some _ => ⟨rfl, rfl⟩
theorem lay_lnks : ∀ ls : List Lnk, PyData.canLayAll0 (ls.map lnkD) = true ∧ PyData.depthAll (ls.map lnkD) ≤ 1
  | [] => ⟨rfl, Nat.zero_le _⟩
  | l :: ls => by
    have h1 := lay_o l.t
    have h2 := lay_o l.k
    have ih := lay_lnks ls
    constructor
    · show (((true && (true && ((oD l.t).canLay0 && ((oD l.k).canLay0 && true)))) && PyData.canLayAll0 (ls.map lnkD)) = true)
      rw [h1.1, h2.1, ih.1]
      rfl
    · show max (max 0 (max 0 (max (oD l.t).depth (max (oD l.k).depth 0))) + 1) (PyData.depthAll (ls.map lnkD)) ≤ 1
      rw [h1.2, h2.2]
      have := ih.2
      simp only [Nat.max_self, Nat.zero_add]
      omega
theorem shaped_net (N : Net) : SeqAt.shaped (netD N) = true := by
  have h := lay_lnks N.ls
  show ((true && (PyData.canLayAll0 (N.ls.map lnkD) && true)) && decide (max 0 (max (PyData.depthAll (N.ls.map lnkD) + 1) 0) + 1 ≤ 64)) = true
  rw [h.1, decide_eq_true (show max 0 (max (PyData.depthAll (N.ls.map lnkD) + 1) 0) + 1 ≤ 64 by
    have := h.2
    omega)]
  rfl
theorem eqv_net (N : Net) : PyData.eqv (netD N) (netD N) = true := SeqAt.eqv_refl _ (Bool.and_eq_true_iff.mp (shaped_net N)).1
/-! ### new lists -/
def Vn (te : TE) (σ : L2.St) (H : Hp) (xs : List V) : Prop := ∀ Q : VK, (∀ p H', Same H H' → H p = none → H' p = some (.lst xs) → Q (.ref p) H') → te σ H Q
section
variable {K : PySem.W.Frag} {σ : L2.St} {H : Hp} {ta tb te : TE} {tr : TA} {xs ys : List V} {a : Addr} {D : Ends} {tw : TS}
theorem vn_lst (h : Va tr σ H xs) (hz : xs.length ≤ sizeLine) : Vn (tLst tr) σ H xs := fun Q q => h _ ⟨hz, fun p np => q p _ (same_upd np) np upd_same⟩
theorem vn_slice {tl th : TO} {lo hi : Option Int} (h : Vl te σ H (.ref a)) (hl : ∀ Q : Option Int → Hp → Prop, Q lo H → tl σ H Q) (hh : ∀ Q : Option Int → Hp → Prop, Q hi H → th σ H Q) (hx : SqL K H a xs) : Vn (tSl (rSlL K) te tl th) σ H (cutV xs lo hi) := fun Q q =>
  h _ (hl _ (hh _ ⟨a, xs, rfl, hx, fun p np => q p _ (same_upd np) np upd_same⟩))
theorem vn_rev (h : Vl te σ H (.ref a)) (hx : SqL K H a xs) : Vn (tRevL K te) σ H xs.reverse := fun Q q => h _ ⟨a, xs, rfl, hx, fun p np => q p _ (same_upd np) np upd_same⟩
theorem vn_cat (ha : Vn ta σ H xs) (hb : ∀ H', Same H H' → Vn tb σ H' ys) (hz : xs.length + ys.length ≤ sizeLine) : Vn (tOp rCat ta tb) σ H (xs ++ ys) := fun Q q => ha _ fun p H1 s1 np hp => hb H1 s1 _ fun r H2 s2 nr hr =>
  ⟨p, r, xs, ys, rfl, rfl, s2 _ _ hp, hr, hz, fun t nt => q t _ ((s1.trans s2).trans (same_upd nt)) (Same.free (s1.trans s2) nt) upd_same⟩
theorem vn_listOf (h : Vl te σ H (.ref a)) (hx : SqL K H a xs) : Vn (tCB (fun xs H Q => ∃ p ys, xs = [V.ref p] ∧ (SqL K H p ys ∨ SqT K H p ys) ∧ ∀ l, H l = none → Q (V.ref l) (upd H l (.lst ys))) (tCons te tNil)) σ H xs := fun Q q =>
  h _ ⟨a, xs, rfl, .inl hx, fun p np => q p _ (same_upd np) np upd_same⟩
theorem q_asgN {i : Nat} (h : Vn te σ H xs) (k : ∀ p H', Same H H' → H p = none → H' p = some (.lst xs) → tw D (σ.set i (some (.ref p))) H') : tSeq (tAsg te (gName i)) tw D σ H := h _ k
end
theorem cut_to {xs : List V} {n : Nat} (h : n ≤ xs.length) : cutV xs none (some (n : Int)) = xs.take n := by
  unfold cutV
  rw [HT.sIx_none, HT.sIx_nat, Nat.min_eq_left h, Nat.sub_zero, List.drop_zero]
theorem cut_from {xs : List V} {n : Nat} (h : n ≤ xs.length) : cutV xs (some (n : Int)) none = xs.drop n := by
  unfold cutV
  rw [HT.sIx_none, HT.sIx_nat, Nat.min_eq_left h]
  exact List.take_of_length_le (by rw [List.length_drop]; exact Nat.le_refl _)
/-- lists of lists of ints -/
theorem Dp.ints {K : PySem.W.Frag} {H : Hp} {p : Addr} {ns : List Int} (h : SqL K H p (ns.map V.int)) : Dp K H (.ref p) (.list (ns.map PyData.int)) := .lst h (DpAll.ints ns)
theorem Dp.ints_inv {K : PySem.W.Frag} {H : Hp} {v : V} {ns : List Int} (h : Dp K H v (.list (ns.map PyData.int))) : ∃ p, v = .ref p ∧ SqL K H p (ns.map V.int) := by
  obtain ⟨a, xs, rfl, hs, ha⟩ := Dp.lst_inv h
  rw [DpAll.ints_inv ha] at hs
  exact ⟨a, rfl, hs⟩
end Ovc
namespace PySem
namespace LowX
open PySem.W PySem.Calls PyProof.Rows PySem.HandSPX
/-! ### the text of __init__ -/
def iA (p1 p2 : Pos) : Arguments := { posonlyargs := [], args := [{ arg := "self", annotation := none, pos := p1 }, { arg := "at", annotation := none, pos := p2 }], vararg := none, kwonlyargs := [], kw_defaults := [], kwarg := none, defaults := [] }
def iB (q1 q2 q3 q4 : Pos) : List Stmt := [.Assign [.Attribute (.Name "self" q1) "at" q2] (.Name "at" q3) q4]
def iS : Scope := { kind := .function, names := [(PySem.Str.ofString "self", .local), (PySem.Str.ofString "at", .local)], isGenerator := false, isCoroutine := false, more := [] }
/-- what the written part says of Low, at C, and of its __init__, at fI -/
structure LowTxt (K : Frag) (mg : Str → Option Value) (xN : Str) (C fI : Addr) : Prop where
  gC : mg xN = some (.ref C)
  cls : ∃ nm q N bs bm sn sub ab col dd k0 k1 k2 k3 k5, K.lookup C = some (excClassObj nm q C N bs bm true sn sub ab col dd k0 k1 k2 k3 k5 "ValueError.__new__") ∧ refsVE bm = true
  sa : findIn K (.ref C) "__setattr__" = some (some (.builtin "object.__setattr__"))
  ga : findIn K (.ref C) "__getattribute__" = some (some (.builtin "BaseException.__getattribute__"))
  gg : findIn K (.ref C) "__getattr__" = some none
  noN : findIn K (.ref C) "at" = some none
  iC : findIn K (.ref C) "__init__" = some (some (.ref fI))
  tC : typeIn K (.ref fI) = some (.type "function")
  kC : keepIn K (.ref C) = true
  exC : subIn K (.ref C) (.type "BaseException") = some true
  tyC : typeIn K (.ref C) = some (.type "type")
  hdC : hasDictIn K C = true
  te : exmOne K (.ref C) (.ref C) = some true
  fn : ∃ (oc : Value) (od : Option Addr) (doc pm : Value) (an : Option Addr) (cdv ct : Value) (osl : Array (Option Value)) (p1 p2 q1 q2 q3 q4 : Pos),
    K.lookup fI = some ⟨oc, od, .func (fnOf "__init__" "OverpassesError.__init__" (iA p1 p2) (iB q1 q2 q3 q4) iS .none .none doc pm an cdv ct), osl⟩ ∧ codeIn K cdv "OverpassesError.__init__" = true
theorem one_size (v : Value) : [v].length ≤ sizeLine := by
  rw [sizeLine_eq]
  exact (by decide : 1 ≤ 16777216)
theorem kept_but {K : Frag} {h h' : Heap} {x : Addr} (X : K.In h) (hx : K.lookup x = none) (k : ∀ b o, b ≠ x → h.get? b = some o → h'.get? b = some o) : K.In h' := fun a o e =>
  k a o (fun z => by rw [z, hx] at e; cases e) (X a o e)
theorem ldC {M : Model} {s : Shared} {name : Str} {scope : Scope} {L a : Addr} {cd : Value} {m : Str → Option Value} {x : Str} {pos : Pos} {v : Value} {Q : Value → Shared → Prop} {A : Around} {E : Value → Shared → Prop} (hn : s.heap.Ns L m) (hv : m x = some v) (h : Q v s)
    (hk : scope.kind = .function := by rfl) (hl : (envOfC name scope L a cd).kindOf x = some .local := by rfl) (hd : (x == ("__debug__" : Str)) = false := by decide) :
    wpAny M A (eval (.Name x pos) (envOfC name scope L a cd)) Q E s := wpAny_Name (wpAny_loadName_local hk hl hn hv h) hd
/-- what __init__ leaves of a fresh exception at x -/
structure InitEnd (h h' : Heap) (x C dx t1 : Addr) (v : Value) : Prop where
  keep : ∀ b o, b ≠ x → h.get? b = some o → h'.get? b = some o
  obj : h'.get? x = some { cls := .ref C, dict := some dx, data := .fields #[.ref t1, .none, .none, .none, .bool false, .none] }
  dbig : h.objs.size ≤ dx
  dne : dx ≠ x
  ns : h'.Ns1 dx (fun y => if y = "at" then some v else none)
/-- a made Low -/
structure OwnMade (h h' : Heap) (e C d : Addr) (v : Value) : Prop where
  keep : ∀ b o, h.get? b = some o → h'.get? b = some o
  new : h.objs.size ≤ e
  obj : ∃ oe vs, h'.get? e = some oe ∧ oe.cls = .ref C ∧ oe.dict = some d ∧ oe.data = .fields vs ∧ vs[1]? = some .none
  dbig : h.objs.size ≤ d
  dne : d ≠ e
  ns : h'.Ns1 d (fun y => if y = "at" then some v else none)
section
variable {prog : Program} {w : World} {A : Around} {E : Value → Shared → Prop} {R : Result → Shared → Prop} {s : Shared} {K : Frag} {mg : Str → Option Value} {xN : Str} {C fI : Addr}
theorem low_init (T : LowTxt K mg xN C fI) {x t0 : Addr} {v : Value} (X : K.In s.heap) (hlim : s.heap.NoLimit) (hx : s.heap.get? x = some (excO C t0)) (hnx : K.lookup x = none) (hroom : A.depth < recursionLimit)
    (hq : ∀ h' tk dx, InitEnd s.heap h' x C dx t0 v → R (.ok (.ret .none)) { s with heap := h', toks := tk }) :
    codeAny (model prog w) A (.call (.ref fI) ⟨[.ref x, v], []⟩) R s := by
  obtain ⟨oc, od, doc, pm, an, cdv, ct, osl, p1, p2, q1, q2, q3, q4, ho, hcd⟩ := T.fn
  obtain ⟨nm, q, N, bs, bm, sn, sub, ab, col, dd, k0, k1, k2, k3, k5, hC, hbm⟩ := T.cls
  have hcl : clsIn K C = some { name := nm, bases := bs, mro := .ref C :: bm, ns := N, qualname := q, hasDict := true, slotNames := sn, subclasses := sub, abstract := ab, collection := col, hasDel := false } := by unfold clsIn; rw [hC] <;> rfl
  refine Att.call_fn (binds := [("self", .ref x), ("at", v)]) X hlim ho hcd hroom (BindsTo.of_eq (by first | rfl | with_unfolding_all rfl)) (by first | rfl | decide | with_unfolding_all rfl) (fun s₁ IC => ?_) rfl rfl rfl
  obtain ⟨h₁, tk₁, rfl⟩ := IC.toInCall.same
  have k : ∀ b o, s.heap.get? b = some o → h₁.get? b = some o := IC.toInCall.keep
  have hn := IC.toInCall.ns
  have hxL : s.heap.objs.size ≠ x := Nat.ne_of_gt (Heap.lt_size hx)
  have X₁ : K.In h₁ := X.keeps k
  have hx₁ := k _ _ hx
  -- self.by = by
  show wpAny _ _ (execs _ _) _ _ _
  refine wpAny_execs_cons (plainObj_wpAny_Assign_Attribute ?_)
  refine ldC (v := v) hn (by first | rfl | with_unfolding_all rfl | kernel_rfl) (ldC (v := .ref x) hn (by first | rfl | with_unfolding_all rfl | kernel_rfl) ?_)
  refine set_plain X₁ (ox := excO C t0) (od := none) ⟨hx₁, rfl, rfl, trivial⟩ T.sa ?_
  refine exc_osa X₁ hx₁ hcl (show refsVE (.ref C :: bm) = true from hbm) rfl T.noN (fun h₃ tk₃ dx k₃ dn dne hx₃ hn₃ => ?_)
  show wpAny _ _ (execs _ _) _ _ _
  have z : s.heap.objs.size < h₁.objs.size := hn.lt
  exact wpAny_execs_nil (hq h₃ tk₃ dx ⟨fun b o hb e => k₃ b o hb (k b o e), hx₃, Nat.le_of_lt (Nat.lt_of_lt_of_le z dn), dne, hn₃⟩)
theorem low_made (T : LowTxt K mg xN C fI) {v : Value} (X : K.In s.heap) (hlim : s.heap.NoLimit) (hroom : A.depth + 1 < recursionLimit)
    (hq : ∀ h' tk e d, OwnMade s.heap h' e C d v → R (.ok (.ret (.ref e))) { s with heap := h', toks := tk }) :
    codeAny (model prog w) A (.call (.ref C) ⟨[v], []⟩) R s := by
  obtain ⟨nm, q, N, bs, bm, sn, sub, ab, col, dd, k0, k1, k2, k3, k5, hC, hbm⟩ := T.cls
  obtain ⟨hp, g, dr, tk, os⟩ := s
  have k : ∀ b o, hp.get? b = some o → ((hp.push (kdv_tup [v])).push (excO C hp.objs.size)).get? b = some o := fun b o e => Heap.get?_push_of_some _ (Heap.get?_push_of_some _ e)
  have hget : ((hp.push (kdv_tup [v])).push (excO C hp.objs.size)).get? (hp.objs.size + 1) = some (excO C hp.objs.size) := by heap_get
  have hnx : K.lookup (hp.objs.size + 1) = none := by
    cases e : K.lookup (hp.objs.size + 1) with
    | none => rfl
    | some o =>
      have z : hp.get? (hp.objs.size + 1) = some o := X _ _ e
      exact absurd (Nat.lt_of_succ_lt (Heap.lt_size z)) (Nat.lt_irrefl _)
  refine call_own F.excBase_ValueError (fun X => refsVE_contains X bm hbm) (X _ _ hC) (looks_findIn X T.iC) (fun self => bind_fn X self T.tC) (one_size v) ?_
  refine low_init (s := ⟨(hp.push (kdv_tup [v])).push (excO C hp.objs.size), g, dr, tk, os⟩) T (X.keeps k) (hlim.keeps k) hget hnx ?_ fun h' tk' dx ⟨k', hx, dn, dne, hns⟩ => ?_
  · show A.depth + 1 < recursionLimit
    exact hroom
  · have old : ∀ b o, hp.get? b = some o → h'.get? b = some o := fun b o e => k' b o (Nat.ne_of_lt (Nat.lt_succ_of_lt (Heap.lt_size e))) (k b o e)
    have z : hp.objs.size + 1 + 1 ≤ dx := by
      first
        | (simpa only [Heap.size_push] using dn)
        | exact dn
        | (have q := dn; rw [Heap.size_push, Heap.size_push] at q; exact q)
    exact ⟨rfl, hq h' tk' (hp.objs.size + 1) dx ⟨old, Nat.le_succ _, ⟨_, _, hx, rfl, rfl, rfl, rfl⟩, Nat.le_trans (Nat.le_trans (Nat.le_succ _) (Nat.le_succ _)) z, dne, hns⟩⟩
end
end LowX
end PySem
namespace L2
open PySem PySem.Spec PyProof.Rows
theorem relO_low {v : V} {v' : Value} (r : RelV v v') (f : Str) : RelO (List.lookup f [(("at" : Str), v)]) (if f = "at" then some v' else none) := by
  by_cases hw : f = "at"
  · subst hw
    rw [if_pos rfl]
    have q : List.lookup ("at" : Str) [(("at" : Str), v)] = some v := by simp [List.lookup]
    rw [q]
    exact r
  · rw [if_neg hw]
    have qw : (f == ("at" : Str)) = false := by simpa using hw
    have q2 : List.lookup f [(("at" : Str), v)] = none := by simp [List.lookup, qw]
    rw [q2]
    trivial
section
variable {X : Cx} {xN : Str} {C fI : Addr}
/-- Low(e) -/
def tMkLow (C : Addr) (ta : TA) : St → Hp → XK → Prop := fun σ H Q => ta σ H fun vs H1 => ∃ v, vs = [v] ∧ ∀ d, H1 d = none → Q (.ref C) (some d) (upd H1 d (.xd [(("at" : Str), v)]))
theorem pmk_low {a : Expr} {ta : TA} {p pos : Pos} {k : Nat} (T : PySem.LowX.LowTxt X.K X.mg xN C fI) (hr : Room k X.A) (ha : PA X [a] ta) (hg : Gl X xN := by rfl) (hdb : (xN == ("__debug__" : Str)) = false := by decide)
    (he : starEach (a :: []) X.env = (false, eval a X.env) :: starEach [] X.env := by rfl) (hpl : (backTo pos (starEach [] X.env)).any (·.1) = false := by rfl) :
    PMk X (.Call (.Name xN p) [a] [] pos) (tMkLow C ta) := by
  intro pins s σ H Q I h
  refine wpAny_Call_Name_kw (ld_glob I hg T.gC ?_ hdb)
  refine PySem.W.callWith_K (h₀ := X.base) I.ok.mod.kin T.kC (thn (ha.run pos pins s σ H _ I h) fun us s1 hh => ?_) he hpl
  obtain ⟨vs, H1, I1, r1, v, ev, q1⟩ := hh
  subst ev
  refine ⟨I1.kIn, ?_⟩
  cases r1 with
  | cons rv rn =>
    rename_i v' us'
    cases rn
    show wpAny _ _ (call (.ref C) [v']) _ _ _
    have hlim := I1.nolimit
    obtain ⟨hp, g, dr, tk, os⟩ := s1
    refine wpAny_call (PySem.LowX.low_made T I1.kIn hlim (by have := hr.dp; omega) fun h' tk' e d M => ?_)
    show MkP X pins σ Q (.ref e) ⟨h', g, dr, tk', os⟩
    obtain ⟨oe, fv, hoe, hc, hd, hdat, h1⟩ := M.obj
    have hns := M.ns
    obtain ⟨G', g1, g2⟩ := restrict h' fun b => decide (b ≠ e)
    have gk : ∀ b, b ≠ e → G'.get? b = h'.get? b := fun b hb => g1 b (decide_eq_true hb)
    have ge : G'.get? e = none := g2 e (by simp)
    have old : ∀ b o, hp.get? b = some o → G'.get? b = some o := fun b o q => (gk b (Nat.ne_of_lt (Nat.lt_of_lt_of_le (Heap.lt_size q) M.new))).trans (M.keep b o q)
    have ob : ObjOk X.prog X.w (upd H1 d (.xd [(("at" : Str), v)])) G' d (.xd [(("at" : Str), v)]) :=
      ⟨_, hns.at (fun o q => (gk d M.dne).trans q), fun f => relO_low rv f⟩
    have J : Inv X pins σ (upd H1 d (.xd [(("at" : Str), v)])) ⟨G', g, dr, tk', os⟩ := I1.laid (t' := tk') old M.dbig ob
    refine ⟨e, oe, fv, ⟨G', g, dr, tk', os⟩, _, .ref C, some d, rfl, J, fun b o q => ?_, ge, hoe, ⟨hc, hd⟩, hdat, h1, ?_, rfl, I1.bare, raises_own T.exC T.tyC, q1 d (I1.hok.fresh M.dbig)⟩
    · by_cases hb : b = e
      · have q' : G'.get? b = some o := q
        rw [hb, ge] at q'; cases q'
      · exact (gk b hb).symm.trans q
    · rw [upd_ne (Ne.symm M.dne)]
      exact I1.hok.fresh M.new
/-- raise Low(e) -/
def tRaiseLow (C : Addr) (W : WX) (ta : TA) : TS := fun _ σ H => tMkLow C ta σ H fun cls d H' => W cls d σ H'
theorem ps_raiseLow {a : Expr} {ta : TA} {W : WX} {p pos pos2 : Pos} {k : Nat} (hc : X.calm = true) (T : PySem.LowX.LowTxt X.K X.mg xN C fI) (hr : Room k X.A) (tk : Takes X W) (ha : PA X [a] ta) (hg : Gl X xN := by rfl) (hdb : (xN == ("__debug__" : Str)) = false := by decide)
    (he : starEach (a :: []) X.env = (false, eval a X.env) :: starEach [] X.env := by rfl) (hpl : (backTo pos (starEach [] X.env)).any (·.1) = false := by rfl) :
    PS X (.Raise (some (.Call (.Name xN p) [a] [] pos)) none pos2) (tRaiseLow C W ta) := ps_raise hc tk (pmk_low T hr ha hg hdb he hpl)
/-- low.by, low the exception that the suite holds (at a; its class cls, its dict d) -/
def tByLow (C : Addr) (a : Addr) (cls : Value) (d : Option Addr) (te : TE) : TE := fun σ H Q => te σ H fun x H1 => x = .ref a ∧ cls = .ref C ∧ ∃ (dd : Addr) (v : V), d = some dd ∧ H1 dd = some (.xd [(("at" : Str), v)]) ∧ Q v H1
theorem pe_byLow {a : Addr} {oe : Obj} {cls : Value} {d : Option Addr} {pn : List (Addr × Obj)} {e : Expr} {te : TE} {pos : Pos} (T : PySem.LowX.LowTxt X.K X.mg xN C fI) (hz : Zc cls d oe) (hf : ∃ vs, oe.data = .fields vs) (he : PE (X.suite a ((a, oe) :: pn)) e te)
    (hb : attributeBase e "at" X.env (eval e X.env) = eval e X.env := by rfl) :
    PE (X.suite a ((a, oe) :: pn)) (.Attribute e "at" pos) (tByLow C a cls d te) := by
  refine ⟨fun pins s σ H Q I h => ?_⟩
  refine attr_of hb (thn (he.run pins s σ H _ I h) fun u s1 hh => ?_)
  obtain ⟨x, H1, I1, rx, ex, ec, dd, v, ed, ea, q⟩ := hh
  subst ex
  obtain rfl : u = Value.ref a := rx
  subst ec
  subst ed
  obtain ⟨ha, _⟩ := I1.pin (a, oe) (List.mem_append_left _ List.mem_cons_self)
  obtain ⟨vs, hd⟩ := hf
  have hx : ObjOk X.prog X.w H1 s1.heap dd (.xd [(("at" : Str), v)]) := I1.hok dd _ ea
  obtain ⟨mA, hns, hr⟩ := hx
  obtain ⟨od, ho, hl⟩ := lookIn_ns hns
  have l : List.lookup ("at" : Str) [(("at" : Str), v)] = some v := by simp [List.lookup]
  obtain ⟨u, hu, ru⟩ := RelO.some_of (v := v) (o := mA "at") (by rw [← l]; exact hr "at")
  have J : PySem.W.InstAt s1.heap a oe C (some od) := ⟨ha, hz.1, by unfold PySem.W.notCls; rw [hd] <;> rfl, by rw [hz.2]; exact ho⟩
  exact HandSPX.exc_get I1.kIn J T.ga T.gg T.exC (PySem.W.findObj_own T.hdC T.noN rfl (by rw [hl, hu])) (handed_of ru) ⟨v, H1, I1.tok _, ru, q⟩
end
end L2

namespace L2
open PySem PySem.Spec PyProof.Rows
/-- an if whose test is known -/
theorem if_true_of {c : Bool} {A B : Prop} (hc : c = true) (h : A) : if c = true then A else B := by
  rw [if_pos hc]
  exact h
theorem if_false_of {c : Bool} {A B : Prop} (hc : c = false) (h : B) : if c = true then A else B := by
  rw [hc, if_neg Bool.false_ne_true]
  exact h
end L2
namespace Ovc
open PySem PySem.Spec PyProof.Rows L2
/-! ### try with several clauses, each with a name or without one -/
/-- the ends of a suite whose name's slot is emptied behind it -/
def endsAs (i : Nat) (D : Ends) : Ends := { nx := fun σ H => D.nx (σ.set i none) H, rt := D.rt, bk := fun σ H => D.bk (σ.set i none) H, ct := fun σ H => D.ct (σ.set i none) H }
abbrev Clause := Value × Option Nat × (Addr → Value → Option Addr → TS)
def runClause (q : Clause) (a : Addr) (cls : Value) (d : Option Addr) (D : Ends) (σ : L2.St) (H : Hp) : Prop :=
  match q.2.1 with
  | none => q.2.2 a cls d D σ H
  | some i => q.2.2 a cls d (endsAs i D) (σ.set i (some (.ref a))) H
def wClauses (K : PySem.W.Frag) (Wout : WX) (D : Ends) : List Clause → WX
  | [] => Wout
  | q :: r => fun cls d σ H => ∃ b, PySem.W.exmOne K cls q.1 = some b ∧ (b = true → ∀ a, H a = none → runClause q a cls d D σ H) ∧ (b = false → wClauses K Wout D r cls d σ H)
inductive ClOk (X : Cx) : List ExceptHandler → List Clause → Prop
  | nil : ClOk X [] []
  | bare {x : Str} {c : Value} {ts : Addr → Value → Option Addr → TS} {st₀ : Stmt} {sts : List Stmt} {p1 p2 : Pos} {hds : List ExceptHandler} {l : List Clause} (hc : Names X x c)
      (suite : ∀ (a : Addr) (ob : Obj) (cls : Value) (d : Option Addr) (pn : List (Addr × Obj)), Zc cls d ob → (∃ fv, ob.data = .fields fv) → PSs (X.suite a ((a, ob) :: pn)) (st₀ :: sts) (ts a cls d)) (more : ClOk X hds l) :
      ClOk X (.ExceptHandler (some (.Name x p1)) none (st₀ :: sts) p2 :: hds) ((c, none, ts) :: l)
  | named {x n : Str} {c : Value} {i : Nat} {ts : Addr → Value → Option Addr → TS} {st₀ : Stmt} {sts : List Stmt} {p1 p2 : Pos} {hds : List ExceptHandler} {l : List Clause} (hN : X.N.Nodup) (hi : X.N[i]? = some n) (hln : X.env.kindOf n = some .local) (hc : Names X x c)
      (suite : ∀ (a : Addr) (ob : Obj) (cls : Value) (d : Option Addr) (pn : List (Addr × Obj)), Zc cls d ob → (∃ fv, ob.data = .fields fv) → PSs (X.suite a ((a, ob) :: pn)) (st₀ :: sts) (ts a cls d)) (more : ClOk X hds l) :
      ClOk X (.ExceptHandler (some (.Name x p1)) (some n) (st₀ :: sts) p2 :: hds) ((c, some i, ts) :: l)
section
variable {X : Cx} {body : List Stmt} {hd₀ : ExceptHandler} {hds : List ExceptHandler} {l : List Clause} {pos : Pos} {tb : WX → TS} {Wout : WX}
theorem ps_try_cl (hsk : X.stack = X.env :: X.outer) (hfm : X.env.frame = some X.env.locals) (tk : Takes X Wout)
    (hb : ∀ (W : WX) (pn : List (Addr × Obj)) (xe : Value → Shared → Prop), Takes (X.tr pn xe) W → PassesOwn (model X.prog X.w) X.A X.env xe → PSs (X.tr pn xe) body (tb W))
    (hcl : ClOk X (hd₀ :: hds) l) : PS X (.Try body (hd₀ :: hds) [] [] pos) (fun D σ H => tb (wClauses X.K Wout D l) D σ H) := by
  refine ⟨fun pins s σ H D I0 hr => ?_⟩
  have okX := I0.ok
  have frA : X.A.frames = some (X.env :: X.outer) := by rw [okX.frames, hsk]
  refine wpAny_Try_except (wpAny_mono ((hb (wClauses X.K Wout D l) (X.pn ++ pins) (fun e t₁ => wpAny (model X.prog X.w) X.A (noteFrame e X.env) (fun _ t₂ => wpAny (model X.prog X.w) X.A (setFlight e none) (fun _ t₃ =>
    wpAny (model X.prog X.w) X.A (handleBy e X.env (hd₀ :: hds)) (SP X pins D) X.xe t₃) X.xe t₂) X.xe t₁) (fun u t xx => ?caught) PassesOwn.looking).run [] s σ H D (I0.toTry _) hr) (fun fl t hsp => ?after) (fun e t he => he))
  case after =>
    cases fl with
    | next => exact let ⟨σ1, H1, I1, z⟩ := hsp; wpAny_execs_nil ⟨σ1, H1, I1.ofTry okX, z⟩
    | brk => exact let ⟨σ1, H1, I1, z⟩ := hsp; ⟨σ1, H1, I1.ofTry okX, z⟩
    | cont => exact let ⟨σ1, H1, I1, z⟩ := hsp; ⟨σ1, H1, I1.ofTry okX, z⟩
    | ret u => exact let ⟨v, σ1, H1, I1, r, z⟩ := hsp; ⟨v, σ1, H1, I1.ofTry okX, r, z⟩
  case caught =>
    obtain ⟨a, B, sI, pins1, σ1, H1, cls, d, rfl, I1', nb, up, sky, na, os, ag, wish⟩ := xx
    have I1 : Inv X pins σ1 H1 sI := I1'.ofTry okX
    have skyF : Sky B (X.env :: X.outer) a (Zc cls d) X.env.locals t.heap := by rw [← hsk]; exact sky
    refine Sky.land Zc.steady frA hfm skyF fun h3 fl3 up3 => ?_
    have I3 : Inv X pins σ1 H1 { t with heap := h3 } := I1.landed nb fl3.1 (up.trans up3) os ag
    obtain ⟨ob3, fv3, at3, z3, dat3⟩ := fl3.there
    have off : a ∉ frs (X.env :: X.outer) := fun hm => by
      obtain ⟨_, o', e', hnf⟩ := fl3.2.2.1.mem hm
      rw [at3] at e'
      cases e'
      exact hnf _ dat3
    have offL : a ≠ X.env.locals := fun z => off (List.mem_filterMap.mpr ⟨X.env, List.mem_cons_self, by rw [hfm, z]⟩)
    have offF : a ∉ X.fs := fun hm => let ⟨en, hen, z⟩ := List.mem_filterMap.mp hm; off (List.mem_filterMap.mpr ⟨en, List.mem_cons_of_mem _ hen, z⟩)
    have SU3 := I3.suite at3 dat3 na offL offF
    have test : ∀ {x : Str} {c : Value} {p1 : Pos} {Q : Value → Shared → Prop} {E : Value → Shared → Prop}, Names X x c → Q c { t with heap := h3 } →
        wpAny (model X.prog X.w) (X.A.mark (some (.ref a))) (eval (.Name x p1) X.env) Q E { t with heap := h3 } := fun {x c p1 Q E} hc z => by
      obtain ⟨hg, hdb, hm | ⟨hm, hv, hne⟩⟩ := hc
      · exact ld_glob (X := X.suite a ((a, ob3) :: (X.pn ++ pins))) SU3 hg hm z hdb
      · exact ld_blt (X := X.suite a ((a, ob3) :: (X.pn ++ pins))) SU3 hg hm hv z hne hdb
    have looks : PySem.W.Looks (model X.prog X.w) h3 (typeOf (.ref a)) cls := fun A Q E s1 keep z => wpAny_typeOf_ref (keep _ _ at3) (by rw [z3.1]; exact z)
    suffices go : ∀ {hs1 : List ExceptHandler} {l1 : List Clause}, ClOk X hs1 l1 → wClauses X.K Wout D l1 cls d σ1 H1 → wpAny (model X.prog X.w) X.A (handleBy (.ref a) X.env hs1) (SP X pins D) X.xe { t with heap := h3 } from go hcl wish
    intro hs1 l1 hk
    induction hk with
    | nil =>
      intro wo
      refine wpAny_handleBy_nil ?_
      obtain ⟨k1, k2, k3, ob, fv, T, oT, tv, heT, hzT, hdT, hT1, hTr⟩ := id fl3
      unfold PySem.passOn
      refine wpAny_bind (wpAny_field heT hdT hT1 ?_)
      rw [if_neg (show ¬ (Value.ref T == Value.none) = true from by simp)]
      have fin : wpAny (model X.prog X.w) X.A (setFlight (.ref a) X.env.frame) (fun _ t4 => wpAny (model X.prog X.w) X.A (throw (.ref a) : Sem Flow) (SP X pins D) X.xe t4) X.xe { t with heap := h3 } := by
        rw [hfm]
        exact HandSPX.setFlight_upZ fl3 fun h4 held4 up4 => wpAny_throw (tk _ _ ⟨a, B, sI, pins, σ1, H1, cls, d, rfl, I1, nb, (up.trans up3).trans up4, .inr (.inr (by rw [hsk]; exact held4)), na, os, ag, wo⟩)
      first | exact wpAny_bind (wpAny_pure (wpAny_bind fin)) | exact wpAny_bind fin
    | @bare x c ts st₀ sts p1 p2 hs2 l2 hc suite more ih =>
      rintro ⟨b, hb1, yes, no⟩
      refine wpAny_handleBy_cons (codeAny_handlers_test (test hc ((PySem.W.exm_one (M := model X.prog X.w) I3.kIn looks hb1).here ?_))) (by intro q; cases q)
      cases b with
      | false => exact ih (no rfl)
      | true =>
        refine codeAny_handlers_suite (HandSPX.lands_againZ fl3 fun h4 fl4 up4 => ?_)
        have I4 : Inv X pins σ1 H1 { t with heap := h4 } := I1.landed nb fl4.1 ((up.trans up3).trans up4) os ag
        obtain ⟨ob4, fv4, at4, z4, dat4⟩ := fl4.there
        refine wpAny_mono ((suite a ob4 cls d (X.pn ++ pins) z4 ⟨_, dat4⟩).run [] _ _ H1 _ (I4.suite at4 dat4 na offL offF) (yes rfl a na)) (fun f t6 hsp => ?_) (fun _ _ z => False.elim z)
        cases f with
        | next => exact let ⟨σ6, H6, S6, z6⟩ := hsp; ⟨_, _, S6.unsuite okX, z6⟩
        | brk => exact let ⟨σ6, H6, S6, z6⟩ := hsp; ⟨_, _, S6.unsuite okX, z6⟩
        | cont => exact let ⟨σ6, H6, S6, z6⟩ := hsp; ⟨_, _, S6.unsuite okX, z6⟩
        | ret u => exact let ⟨v6, σ6, H6, S6, r6, z6⟩ := hsp; ⟨_, _, _, S6.unsuite okX, r6, z6⟩
    | @named x n c i ts st₀ sts p1 p2 hs2 l2 hN hi hln hc suite more ih =>
      rintro ⟨b, hb1, yes, no⟩
      refine wpAny_handleBy_cons (codeAny_handlers_test (test hc ((PySem.W.exm_one (M := model X.prog X.w) I3.kIn looks hb1).here ?_))) (by intro q; cases q)
      cases b with
      | false => exact ih (no rfl)
      | true =>
        refine codeAny_handlers_suite_as (HandSPX.lands_againZ fl3 fun h4 fl4 up4 => ?_)
        have I4 : Inv X pins σ1 H1 { t with heap := h4 } := I1.landed nb fl4.1 ((up.trans up3).trans up4) os ag
        obtain ⟨ob4, fv4, at4, z4, dat4⟩ := fl4.there
        refine store_ok (X := X.suite a ((a, ob4) :: (X.pn ++ pins))) (v := .ref a) (I4.suite at4 dat4 na offL offF) hN hi (.inl hln) rfl (fun t5 S5 => ?_) (.inr hln)
        refine wpAny_mono ((suite a ob4 cls d (X.pn ++ pins) z4 ⟨_, dat4⟩).run [] t5 _ H1 _ S5 (yes rfl a na)) (fun f t6 hsp => ?_) (fun _ _ z => False.elim z)
        have off6 : ∀ {σ6 : L2.St} {H6 : Hp} {Q : Shared → Prop}, Inv (X.suite a ((a, ob4) :: (X.pn ++ pins))) [] σ6 H6 t6 → (∀ t7, Inv X pins (σ6.set i none) H6 t7 → Q t7) →
            wpAny (model X.prog X.w) X.A (do bindName X.env n .none; unbindBehindTheSuite X.env n p2) (fun _ t7 => Q t7) X.xe t6 := fun {σ6 H6 Q} S6 hq => gone_ok (S6.unsuite okX) hN hi hln hq
        cases f with
        | next => exact let ⟨σ6, H6, S6, z6⟩ := hsp; off6 S6 fun t7 I7 => ⟨_, _, I7, z6⟩
        | brk => exact let ⟨σ6, H6, S6, z6⟩ := hsp; off6 S6 fun t7 I7 => ⟨_, _, I7, z6⟩
        | cont => exact let ⟨σ6, H6, S6, z6⟩ := hsp; off6 S6 fun t7 I7 => ⟨_, _, I7, z6⟩
        | ret u => exact let ⟨v6, σ6, H6, S6, r6, z6⟩ := hsp; off6 S6 fun t7 I7 => ⟨_, _, _, I7, r6, z6⟩
end
/-! ### a < b < c < d as a test -/
def tTest3 (r1 r2 r3 : R2) (ta tb tc td : TE) : TT := fun σ H Q => ta σ H fun x H1 => tb σ H1 fun y H2 => r1 x y H2 fun z H3 => ∃ k, z = .bl k ∧
  (if k = true then tc σ H3 fun u H4 => r2 y u H4 fun z2 H5 => ∃ k2, z2 = .bl k2 ∧ (if k2 = true then td σ H5 fun v H6 => r3 u v H6 fun z3 H7 => ∃ k3, z3 = .bl k3 ∧ Q k3 H7 else Q false H5) else Q false H3)
theorem pt_chain3 {X : Cx} {a b c d : Expr} {ta tb tc td : TE} {o1 o2 o3 : CmpOp} {r1 r2 r3 : R2} {pos : Pos} (h1 : OpR X (compareOp o1) r1) (h2 : OpR X (compareOp o2) r2) (h3 : OpR X (compareOp o3) r3) (ha : PE X a ta) (hb : PE X b tb) (hc : PE X c tc) (hd : PE X d td)
    (hm : lastMarks [o1, o2, o3] [b, c, d] = false := by with_unfolding_all rfl) : PT X (.Compare a [o1, o2, o3] [b, c, d] pos) (tTest3 r1 r2 r3 ta tb tc td) := by
  refine ⟨fun pins s σ H Q I0 hr => isTrue_chain (thn (ha.run pins s σ H _ I0 hr) fun v1 s1 ⟨x, H1, I1, e1, q1⟩ => test_link (thn (hb.run pins s1 σ H1 _ I1 q1) fun v2 s2 ⟨y, H2, I2, e2, q2⟩ =>
    thn (h1 pins s2 σ H2 x y v1 v2 _ I2 e1 e2 q2) fun v3 s3 ⟨z, H3, I3, e3, k, ez, q3⟩ => ?_)) hm⟩
  subst ez
  cases e3
  refine wpAny_truthy_bool ?_
  cases k with
  | false => exact ite_ff ⟨H3, I3, q3⟩
  | true =>
    refine ite_tt (test_link (thn (hc.run pins s3 σ H3 _ I3 q3) fun v4 s4 ⟨u, H4, I4, e4, q4⟩ => thn (h2 pins s4 σ H4 y u v2 v4 _ I4 e2 e4 q4) fun v5 s5 ⟨z2, H5, I5, e5, k2, ez2, q5⟩ => ?_))
    subst ez2
    cases e5
    refine wpAny_truthy_bool ?_
    cases k2 with
    | false => exact ite_ff ⟨H5, I5, q5⟩
    | true =>
      refine ite_tt (test_last (thn (hd.run pins s5 σ H5 _ I5 q5) fun v6 s6 ⟨v, H6, I6, e6, q6⟩ => thn (h3 pins s6 σ H6 u v v4 v6 _ I6 e4 e6 q6) fun v7 s7 ⟨z3, H7, I7, e7, k3, ez3, q7⟩ => ?_))
      subst ez3
      cases e7
      exact wpAny_truthy_bool ⟨H7, I7, q7⟩
theorem an_chain3 {σ : L2.St} {H : Hp} {g1 g2 g3 : Int → Int → Bool} {ta tb tc td : TE} {p q r s : Int} (ha : Vl ta σ H (.int p)) (hb : Vl tb σ H (.int q)) (hc : Vl tc σ H (.int r)) (hd : Vl td σ H (.int s)) :
    An (tTest3 (rI0 fun i j => .bl (g1 i j)) (rI0 fun i j => .bl (g2 i j)) (rI0 fun i j => .bl (g3 i j)) ta tb tc td) σ H (g1 p q && (g2 q r && g3 r s)) := fun Q k =>
  ha _ (hb _ ⟨p, q, rfl, rfl, _, rfl, by
    show if g1 p q = true then _ else _
    revert k
    cases g1 p q with
    | false => exact fun k => iteF k
    | true => exact fun k => iteT (hc _ ⟨q, r, rfl, rfl, _, rfl, by
        show if g2 q r = true then _ else _
        revert k
        cases g2 q r with
        | false => exact fun k => iteF k
        | true => exact fun k => iteT (hd _ ⟨r, s, rfl, rfl, _, rfl, k⟩)⟩)⟩)
/-! ### tests that make objects on their way -/
def Ax (t : TT) (σ : L2.St) (H : Hp) (b : Bool) : Prop := ∀ Q : Bool → Hp → Prop, (∀ H', Same H H' → Q b H') → t σ H Q
section
variable {K : PySem.W.Frag} {σ : L2.St} {H : Hp} {t u : TT} {D : Ends} {tz tu tw : TS} {ta tb tc : TE}
theorem ax_of {b : Bool} (h : An t σ H b) : Ax t σ H b := fun Q q => h Q (q H (Same.refl H))
theorem ax_not {b : Bool} (h : Ax t σ H b) : Ax (tNot t) σ H (!b) := fun Q q => h _ fun H' s => q H' s
theorem ax_and {k m : Bool} (h1 : Ax t σ H k) (h2 : k = true → ∀ H', Same H H' → Ax u σ H' m) : Ax (tAnd t u) σ H (k && m) := fun Q q => h1 _ fun H1 s1 => by
  cases k with
  | true => exact iteT (h2 rfl H1 s1 _ fun H2 s2 => q H2 (s1.trans s2))
  | false => exact iteF (q H1 s1)
theorem ax_or {k m : Bool} (h1 : Ax t σ H k) (h2 : k = false → ∀ H', Same H H' → Ax u σ H' m) : Ax (tOr t u) σ H (k || m) := fun Q q => h1 _ fun H1 s1 => by
  cases k with
  | true => exact iteT (q H1 s1)
  | false => exact iteF (h2 rfl H1 s1 _ fun H2 s2 => q H2 (s1.trans s2))
theorem Ax.is {k m : Bool} (h : Ax t σ H k) (e : k = m) : Ax t σ H m := e ▸ h
theorem g_ifx {b : Bool} (h : Ax t σ H b) (h1 : b = true → ∀ H', Same H H' → tz D σ H') (h2 : b = false → ∀ H', Same H H' → tu D σ H') : tIfS t tz tu D σ H := h _ fun H' s => by
  cases b with
  | true => exact iteT (h1 rfl H' s)
  | false => exact iteF (h2 rfl H' s)
theorem q_ifx {b : Bool} (h : Ax t σ H b) (h1 : b = true → ∀ H', Same H H' → tz { D with nx := tw D } σ H') (h2 : b = false → ∀ H', Same H H' → tu { D with nx := tw D } σ H') : tSeq (tIfS t tz tu) tw D σ H := g_ifx (D := { D with nx := tw D }) h h1 h2
theorem q_whenx {b : Bool} (h : Ax t σ H b) (h1 : b = true → ∀ H', Same H H' → tz { D with nx := tw D } σ H') (h2 : b = false → ∀ H', Same H H' → tw D σ H') : tSeq (tIfS t tz tNext) tw D σ H := g_ifx (D := { D with nx := tw D }) h h1 h2
theorem g_whenx {b : Bool} (h : Ax t σ H b) (h1 : b = true → ∀ H', Same H H' → tz D σ H') (h2 : b = false → ∀ H', Same H H' → D.nx σ H') : tIfS t tz tNext D σ H := g_ifx h h1 h2
theorem lexAt2 {a b c d : Int} : Ob.lexAt (fun j => decide ([a, b].getD j 0 = [c, d].getD j 0)) (fun j => decide ([a, b].getD j 0 ≤ [c, d].getD j 0)) (decide ([a, b].length ≤ [c, d].length)) 0 (min [a, b].length [c, d].length) = decide (a < c ∨ (a = c ∧ b ≤ d)) := by
  show (if decide (a = c) = true then (if decide (b = d) = true then decide (2 ≤ 2) else decide (b ≤ d)) else decide (a ≤ c)) = _
  by_cases h1 : a = c
  · rw [if_pos (decide_eq_true h1)]
    by_cases h2 : b = d
    · rw [if_pos (decide_eq_true h2), decide_eq_true (Nat.le_refl 2), decide_eq_true (.inr ⟨h1, by omega⟩)]
    · rw [if_neg (fun h => h2 (of_decide_eq_true h)), Bool.eq_iff_iff]
      simp only [decide_eq_true_eq]
      omega
  · rw [if_neg (fun h => h1 (of_decide_eq_true h)), Bool.eq_iff_iff]
    simp only [decide_eq_true_eq]
    omega
/-- (a, b) <= t, t a tuple of two ints -/
theorem ax_leT {a b c d : Int} {T : Addr} (ha : Vl ta σ H (.int a)) (hb : Vl tb σ H (.int b)) (hc : ∀ H', Same H H' → Vl tc σ H' (.ref T)) (hT : SqT K H T [.int c, .int d]) : Ax (tTest (tOp (rLeT K) (tTup (tCons ta (tCons tb tNil))) tc)) σ H (decide (a < c ∨ (a = c ∧ b ≤ d))) := fun Q q =>
  ha _ (hb _ ⟨by show 2 ≤ sizeLine; decide, fun S nS => hc _ (same_upd nS) _ ⟨S, T, [a, b], [c, d], rfl, rfl, .of upd_same, seqT (same_upd nS) hT, _, rfl, by
    rw [lexAt2]
    exact q _ (same_upd nS)⟩⟩)
/-- (a, b) == (c, d), the tuples made on the way -/
theorem ax_eqTT {td : TE} {p q r s : Int} (ha : ∀ H', Same H H' → Vl ta σ H' (.int p)) (hb : ∀ H', Same H H' → Vl tb σ H' (.int q)) (hc : ∀ H', Same H H' → Vl tc σ H' (.int r)) (hd : ∀ H', Same H H' → Vl td σ H' (.int s)) :
    Ax (tTest (tOp (rEqD K) (tTup (tCons ta (tCons tb tNil))) (tTup (tCons tc (tCons td tNil))))) σ H (decide (p = r ∧ q = s)) := fun Q k =>
  ha H (Same.refl H) _ (hb H (Same.refl H) _ ⟨by show 2 ≤ sizeLine; decide, fun T nT => by
    have s1 : Same H (upd H T (.tup [.int p, .int q])) := same_upd nT
    refine hc _ s1 _ (hd _ s1 _ ⟨by show 2 ≤ sizeLine; decide, fun S nS => ?_⟩)
    have s2 : Same (upd H T (.tup [.int p, .int q])) (upd (upd H T (.tup [.int p, .int q])) S (.tup [.int r, .int s])) := same_upd nS
    refine ⟨.tuple [.int p, .int q], .tuple [.int r, .int s], .tup (.of (s2 _ _ upd_same)) (.cons (.int _) (.cons (.int _) .nil)), .tup (.of upd_same) (.cons (.int _) (.cons (.int _) .nil)), by rfl, by rfl, _, rfl, ?_⟩
    rw [show PyData.eqv (.tuple [.int p, .int q]) (.tuple [.int r, .int s]) = decide (p = r ∧ q = s) by
      show (p == r && (q == s && true)) = _
      rw [Bool.and_true, Bool.eq_iff_iff]
      simp]
    exact k _ (s1.trans s2)⟩)
/-- t == (c, d), t a tuple of two ints -/
theorem ax_eqRT {p q r s : Int} {T : Addr} (ha : Vl ta σ H (.ref T)) (hT : SqT K H T [.int p, .int q]) (hb : Vl tb σ H (.int r)) (hc : Vl tc σ H (.int s)) :
    Ax (tTest (tOp (rEqD K) ta (tTup (tCons tb (tCons tc tNil))))) σ H (decide (p = r ∧ q = s)) := fun Q k =>
  ha _ (hb _ (hc _ ⟨by show 2 ≤ sizeLine; decide, fun S nS => by
    have s2 : Same H (upd H S (.tup [.int r, .int s])) := same_upd nS
    refine ⟨.tuple [.int p, .int q], .tuple [.int r, .int s], .tup (seqT s2 hT) (.cons (.int _) (.cons (.int _) .nil)), .tup (.of upd_same) (.cons (.int _) (.cons (.int _) .nil)), by rfl, by rfl, _, rfl, ?_⟩
    rw [show PyData.eqv (.tuple [.int p, .int q]) (.tuple [.int r, .int s]) = decide (p = r ∧ q = s) by
      show (p == r && (q == s && true)) = _
      rw [Bool.and_true, Bool.eq_iff_iff]
      simp]
    exact k _ s2⟩))
/-- (a, b) == t, t a tuple of two ints -/
theorem ax_eqTR {p q r s : Int} {T : Addr} (ha : Vl ta σ H (.int p)) (hb : Vl tb σ H (.int q)) (hc : ∀ H', Same H H' → Vl tc σ H' (.ref T)) (hT : SqT K H T [.int r, .int s]) :
    Ax (tTest (tOp (rEqD K) (tTup (tCons ta (tCons tb tNil))) tc)) σ H (decide (p = r ∧ q = s)) := fun Q k =>
  ha _ (hb _ ⟨by show 2 ≤ sizeLine; decide, fun S nS => by
    have s2 : Same H (upd H S (.tup [.int p, .int q])) := same_upd nS
    refine hc _ s2 _ ⟨.tuple [.int p, .int q], .tuple [.int r, .int s], .tup (.of upd_same) (.cons (.int _) (.cons (.int _) .nil)), .tup (seqT s2 hT) (.cons (.int _) (.cons (.int _) .nil)), by rfl, by rfl, _, rfl, ?_⟩
    rw [show PyData.eqv (.tuple [.int p, .int q]) (.tuple [.int r, .int s]) = decide (p = r ∧ q = s) by
      show (p == r && (q == s && true)) = _
      rw [Bool.and_true, Bool.eq_iff_iff]
      simp]
    exact k _ s2⟩)
/-- assignments of a new tuple -/
theorem q_asgTup {i : Nat} {tr : TA} {xs : List V} (h : Va tr σ H xs) (hz : xs.length ≤ sizeLine) (k : ∀ T, H T = none → tw D (σ.set i (some (.ref T))) (upd H T (.tup xs))) : tSeq (tAsg (tTup tr) (gName i)) tw D σ H := h _ ⟨hz, k⟩
theorem g_asgTup {i : Nat} {tr : TA} {xs : List V} (h : Va tr σ H xs) (hz : xs.length ≤ sizeLine) (k : ∀ T, H T = none → D.nx (σ.set i (some (.ref T))) (upd H T (.tup xs))) : tAsg (tTup tr) (gName i) D σ H := h _ ⟨hz, k⟩
end
/-! ### defs that may raise, by their names -/
structure KalX (P : Program) (w : World) (K : PySem.W.Frag) (mg : Str → Option Value) (base : Heap) (k : Nat) (x : Str) (ps : List Str) (sp : Sp) : Prop where
  ex : ∃ (f : Addr) (fd : FuncData), FnOk P w K mg base (L2.CX P w) k f fd ps sp ∧ mg x = some (.ref f) ∧ PySem.W.keepIn K (.ref f) = true ∧ Binds K fd ps []
theorem kalx_of {P : Program} {w : World} {K : PySem.W.Frag} {mg : Str → Option Value} {base : Heap} {k : Nat} {x : Str} {st : Stmt} {ps : List Str} {sp : Sp} (A : Df K mg x st ps)
    (ok : ∀ f fd, Fun K x x st f fd → FnOk P w K mg base (L2.CX P w) k f fd ps sp) : KalX P w K mg base k x ps sp := by
  obtain ⟨f, fd, F, g, b⟩ := A.ex
  exact ⟨f, fd, ok f fd F, g, F.kp, b⟩
/-- called in a def that may raise -/
theorem pe_kx {X : Cx} {k j : Nat} {x : Str} {ps : List Str} {sp : Sp} {p pos : Pos} {e : Expr} {es : List Expr} {t : TA} {E : XK} (c : KalX X.prog X.w X.K X.mg X.base k x ps sp) (hr : Room j X.A) (hk : k ≤ j) (hg : Gl X x) (tk : Takes X (fun cls d _ H => E cls d H)) (ha : PA X (e :: es) t)
    (hdb : (x == ("__debug__" : Str)) = false := by decide) (he : starEach (e :: es) X.env = (false, eval e X.env) :: starEach es X.env := by rfl) (hpl : (backTo pos (starEach es X.env)).any (·.1) = false := by rfl) :
    PE X (.Call (.Name x p) (e :: es) [] pos) (tCall sp [] E t) := by
  obtain ⟨f, fd, F, hm, kp, b⟩ := c.ex
  exact pe_call F (hr.mono hk) hg hm kp b .nil (passes_call tk fun _ _ _ _ h => h) ha hdb he hpl
/-- called within a try -/
theorem pe_ks {X : Cx} {k j : Nat} {x : Str} {ps : List Str} {sp : Sp} {p pos : Pos} {e : Expr} {es : List Expr} {t : TA} {W : WX} (c : KalX X.prog X.w X.K X.mg X.base k x ps sp) (hr : Room j X.A) (hk : k ≤ j) (hg : Gl X x) (tk : Takes X W) (ha : PA X (e :: es) t)
    (hdb : (x == ("__debug__" : Str)) = false := by decide) (he : starEach (e :: es) X.env = (false, eval e X.env) :: starEach es X.env := by rfl) (hpl : (backTo pos (starEach es X.env)).any (·.1) = false := by rfl) :
    PE X (.Call (.Name x p) (e :: es) [] pos) (tCallS sp (WE W) t) := by
  obtain ⟨f, fd, F, hm, kp, b⟩ := c.ex
  exact pe_callS F (hr.mono hk) hg hm kp b (fun σ => passAt tk σ) ha hdb he hpl
/-! ### for link in links -/
section
variable {K : PySem.W.Frag} {σ : L2.St} {H : Hp} {a : Addr} {D : Ends} {tz tw : TS}
theorem g_forLk {j : Nat} {Hb : Hp} {xs : List V} {ls : List Lnk} {tl : TE} (h : Vl tl σ H (.ref a)) (hx : SqL K Hb a xs) (hL : DpAll K Hb xs (ls.map lnkD)) (hb : Same Hb H) (Pv : Nat → L2.St → Hp → Prop) (h0 : Pv 0 σ H) (hl : ∀ i σ' H', Pv i σ' H' → Same Hb H')
    (hs : ∀ (i : Nat) l t σ H, ls[i]? = some l → SqT K Hb t (lnkV l) → Pv i σ H → tz { D with nx := Pv (i + 1), ct := Pv (i + 1), bk := D.nx } (σ.set j (some (.ref t))) H) (hd : ∀ σ H, Pv ls.length σ H → D.nx σ H) :
    tFor (iList K tl) (gName j) tz D σ H := h _ ⟨a, rfl, ⟨_, hb.seq hx⟩, for_list (xs := xs) Pv h0 (fun i σ H _ p => (hl i σ H p).seq hx) (fun i x σ H hi p => by
      have e := DpAll.len hL
      rw [List.length_map] at e
      have hlt := (List.getElem?_eq_some_iff.mp hi).1
      have hg : ls[i]? = some ls[i] := List.getElem?_eq_getElem (by omega)
      obtain ⟨v, hv, dv⟩ := DpAll.get (i := i) (d := lnkD ls[i]) hL (by
        rw [List.getElem?_map, hg]
        rfl)
      cases hi.symm.trans hv
      obtain ⟨t, rfl, ht⟩ := Dp.lnk_inv dv
      exact hs i _ t σ H hg ht p) (fun σ H p => by
      have e := DpAll.len hL
      rw [List.length_map] at e
      rw [e] at p
      exact hd σ H p)⟩
theorem q_forLk {j : Nat} {Hb : Hp} {xs : List V} {ls : List Lnk} {tl : TE} (h : Vl tl σ H (.ref a)) (hx : SqL K Hb a xs) (hL : DpAll K Hb xs (ls.map lnkD)) (hb : Same Hb H) (Pv : Nat → L2.St → Hp → Prop) (h0 : Pv 0 σ H) (hl : ∀ i σ' H', Pv i σ' H' → Same Hb H')
    (hs : ∀ (i : Nat) l t σ H, ls[i]? = some l → SqT K Hb t (lnkV l) → Pv i σ H → tz { D with nx := Pv (i + 1), ct := Pv (i + 1), bk := tw D } (σ.set j (some (.ref t))) H) (hd : ∀ σ H, Pv ls.length σ H → tw D σ H) :
    tSeq (tFor (iList K tl) (gName j) tz) tw D σ H := g_forLk (D := { D with nx := tw D }) h hx hL hb Pv h0 hl hs hd
/-- a, b, c, d = e, a link -/
theorem q_asgLnk {j1 j2 j3 j4 : Nat} {te : TE} {t : Addr} {l : Lnk} (h : Vl te σ H (.ref t)) (ht : SqT K H t (lnkV l)) (k : tw D ((((σ.set j1 (some (.int l.a))).set j2 (some (.int l.b))).set j3 (some (oV l.t))).set j4 (some (oV l.k))) H) :
    tSeq (tAsg te (gTup K 4 (gCons (gName j1) (gCons (gName j2) (gCons (gName j3) (gCons (gName j4) gNil)))))) tw D σ H := h _ ⟨t, _, rfl, ht, rfl, _, _, rfl, _, _, rfl, _, _, rfl, _, _, rfl, rfl, k⟩
/-- a tuple made in one of two ways -/
theorem if_tup {t : TT} {r1 r2 : TA} {b : Bool} {x1 x2 zs : List V} {Q : VK} (h : An t σ H b) (h1 : Va r1 σ H x1) (h2 : Va r2 σ H x2) (e1 : b = true → x1 = zs) (e2 : b = false → x2 = zs) (hz : zs.length ≤ sizeLine)
    (k : ∀ T, H T = none → Q (.ref T) (upd H T (.tup zs))) : tIf t (tTup r1) (tTup r2) σ H Q := h _ (by
  cases b with
  | true =>
    cases e1 rfl
    exact iteT (h1 _ ⟨hz, k⟩)
  | false =>
    cases e2 rfl
    exact iteF (h2 _ ⟨hz, k⟩))
end
/-! ### errors that leave a def -/
def RaiseTo (E : XK) (H : Hp) (C : Addr) (i : Int) : Prop := ∀ H' d, Same H H' → H' d = some (.xd [("at", .int i)]) → E (.ref C) (some d) H'
theorem RaiseTo.to {E : XK} {H H' : Hp} {C : Addr} {i : Int} (h : RaiseTo E H C i) (s : Same H H') : RaiseTo E H' C i := fun H2 d s2 hd => h H2 d (s.trans s2) hd
theorem raise_now {E : XK} {C : Addr} {i : Int} {ta : TA} {σ : L2.St} {H : Hp} {D : Ends} (h : Va ta σ H [.int i]) (r : RaiseTo E H C i) : tRaiseLow C (fun cls d _ H => E cls d H) ta D σ H := h _ ⟨_, rfl, fun d nd => r _ d (same_upd nd) upd_same⟩
/-- for i, x in enumerate(xs) -/
theorem for_en {K : PySem.W.Frag} {a : Addr} {xs : List V} {g : TG} {tb : TS} {D : Ends} {σ : L2.St} {H : Hp} (Pv : Nat → L2.St → Hp → Prop) (h0 : Pv 0 σ H) (hq : ∀ i σ H, Pv i σ H → SqL K H a xs)
    (hs : ∀ (i : Nat) x T σ H, xs[i]? = some x → Pv i σ H → H T = none → g (.ref T) σ (upd H T (.tup [.int (i : Nat), x])) fun σ2 H2 => tb { D with nx := Pv (i + 1), ct := Pv (i + 1), bk := D.nx } σ2 H2) (hd : ∀ σ H, Pv xs.length σ H → D.nx σ H) :
    ∃ W : Nat → Nat → L2.St → Hp → Prop, (∃ m, W 0 m σ H) ∧ ∀ i m σ H, W i m σ H → ((Ite K a).stop i H ∧ D.nx σ H) ∨
      ((Ite K a).go i H ∧ ∃ N : L2.St → Hp → Prop, (∀ σ' H', N σ' H' → ∃ m', m' < m ∧ W (i + 1) m' σ' H') ∧ ∀ v H', (Ite K a).yld i H v H' → g v σ H' fun σ2 H2 => tb { D with nx := N, ct := N, bk := D.nx } σ2 H2) := by
  refine ⟨fun i m σ H => m + i = xs.length ∧ Pv i σ H, ⟨xs.length, rfl, h0⟩, fun i m σ H hW => ?_⟩
  obtain ⟨em, p⟩ := hW
  have qx := hq i σ H p
  by_cases hlt : i < xs.length
  · refine .inr ⟨⟨xs, xs[i], qx, List.getElem?_eq_getElem hlt⟩, Pv (i + 1), fun σ' H' p' => ⟨m - 1, by omega, by omega, p'⟩, fun v H' yy => ?_⟩
    obtain ⟨T, x', rfl, hT, rfl, f1⟩ := yy
    exact hs i x' T σ H (f1 xs qx) p hT
  · have e : i = xs.length := by omega
    rw [e] at p
    exact .inl ⟨⟨xs, qx, by omega⟩, hd σ H p⟩
theorem take_snoc {α : Type} {xs : List α} {i : Nat} {x : α} (h : xs[i]? = some x) : xs.take (i + 1) = xs.take i ++ [x] := by
  rw [List.take_add_one, h]
  rfl
theorem vl_orV {K : PySem.W.Frag} {σ : L2.St} {H : Hp} {ta tb : TE} {k m : Bool} (h1 : Vl ta σ H (.bl k)) (h2 : k = false → Vl tb σ H (.bl m)) : Vl (tOrV ta tb) σ H (.bl (k || m)) := fun Q q => h1 _ ⟨k, rfl, by
  cases k with
  | true => exact iteT q
  | false => exact iteF (h2 rfl _ q)⟩
/-! ### values with a heap that grows on the way -/
def Ve (te : TE) (σ : L2.St) (H : Hp) (v : V) : Prop := ∀ Q : VK, (∀ H', Same H H' → Q v H') → te σ H Q
section
variable {K : PySem.W.Frag} {σ : L2.St} {H : Hp} {ta tb te tl t0 t1 t2 t3 : TE} {D : Ends} {tw : TS} {v x y z : V} {tt : TT}
theorem ve_of (h : Vl te σ H v) : Ve te σ H v := fun Q q => h Q (q H (Same.refl H))
theorem Ve.is {w : V} (h : Ve te σ H v) (e : v = w) : Ve te σ H w := e ▸ h
theorem q_asgV {i : Nat} (h : Ve te σ H v) (k : ∀ H', Same H H' → tw D (σ.set i (some v)) H') : tSeq (tAsg te (gName i)) tw D σ H := h _ k
theorem g_asgV {i : Nat} (h : Ve te σ H v) (k : ∀ H', Same H H' → D.nx (σ.set i (some v)) H') : tAsg te (gName i) D σ H := h _ k
theorem g_retV (h : Ve te σ H v) (k : ∀ H', Same H H' → D.rt v H') : tRet te D σ H := h _ k
theorem ve_ixNew {xs : List V} {p : Int} (ha : Vn ta σ H xs) (hb : ∀ H', Same H H' → Vl tb σ H' (.int p)) (hg : atI xs p = some z) : Ve (tOp (rIxL K) ta tb) σ H z := fun Q k =>
  ha _ fun a H1 s1 np e => hb H1 s1 _ ⟨a, xs, p, z, rfl, rfl, .of e, hg, k H1 s1⟩
theorem vn_lc {j : Nat} {xs ys : List V} (hl : ∀ Q : VK, (∀ a H1, Same H H1 → SqL K H1 a xs → Q (.ref a) H1) → tl σ H Q) (hxy : xs.length = ys.length) (hz : ys.length ≤ 1000000)
    (he : ∀ (i : Nat) x y H', Same H H' → xs[i]? = some x → ys[i]? = some y → Ve te ((σ.set j none).set j (some x)) H' y) : Vn (tLc (iList K tl) (gName j) tYes te [j]) σ H ys := fun Q q => by
  refine hl _ fun a H1 s1 hx => ⟨a, rfl, ⟨xs, hx⟩, fun D nD => lc_list (xs := xs) (fun i H' => H' D = some (.lst (ys.take i)) ∧ Same H1 H') ⟨upd_same, same_upd nD⟩ (fun i H' _ hP => hP.2.seq hx) (fun i x H2 hi hP => ?_) (fun H2 hP => ?_)⟩
  · obtain ⟨hD, s2⟩ := hP
    have hi2 := (List.getElem?_eq_some_iff.mp hi).1
    have hy : ys[i]? = some ys[i] := List.getElem?_eq_getElem (by omega)
    refine ⟨?_, ?_⟩
    · show ((σ.set j none).set j (some x)).set j none = σ.set j none
      rw [List.set_set, List.set_set]
    · refine iteT (B := H2 D = some (.lst (ys.take (i + 1))) ∧ Same H1 H2) (he i x _ H2 (s1.trans s2) hi hy _ fun H3 s3 => ⟨_, s3 _ _ hD, ?_, ?_, ?_⟩)
      · exact Nat.lt_of_le_of_lt (m := 1000000) (Nat.le_trans (by rw [List.length_take]; exact Nat.min_le_right _ _) hz) (by decide)
      · rw [upd_same, take_snoc hy]
      · exact same_upd' (s2.trans s3) nD
  · obtain ⟨hD, s2⟩ := hP
    rw [hxy, List.take_length] at hD
    exact q D H2 (s1.trans s2) (Same.free s1 nD) hD
theorem vx_list {a : Addr} {xs : List V} (h : Vl tl σ H (.ref a)) (hx : SqL K H a xs) : ∀ Q : VK, (∀ a H1, Same H H1 → SqL K H1 a xs → Q (.ref a) H1) → tl σ H Q := fun Q q => h _ (q a H (Same.refl H) hx)
theorem vx_new {xs : List V} (h : Vn tl σ H xs) : ∀ Q : VK, (∀ a H1, Same H H1 → SqL K H1 a xs → Q (.ref a) H1) → tl σ H Q := fun Q q => h _ fun a H1 s1 _ e => q a H1 s1 (.of e)
end
section
variable {K : PySem.W.Frag} {σ : L2.St} {H : Hp} {te : TE} {D : Ends} {tz tw : TS} {P : Int → Prop}
theorem q_forRI {j : Nat} (h : Vi te σ H P) (hb : ∀ n, P n → -(2 ^ 62) ≤ n ∧ n < 2 ^ 62) (Pv : Nat → L2.St → Hp → Prop) (h0 : Pv 0 σ H)
    (hs : ∀ n, P n → ∀ (i : Nat) σ H, (i : Int) < n → Pv i σ H → tz { D with nx := Pv (i + 1), ct := Pv (i + 1), bk := tw D } (σ.set j (some (.int i))) H) (hd : ∀ n, P n → ∀ σ H, Pv n.toNat σ H → tw D σ H) :
    tSeq (tFor (iRng1 (tCons te tNil)) (gName j) tz) tw D σ H := h _ fun n hn => ⟨n, rfl, (hb n hn).1, (hb n hn).2, for_range (lo := 0) (n := n.toNat) Pv h0 (fun i σ H hi p => by
      show tz _ (σ.set j (some (.int (0 + i)))) H
      rw [Int.zero_add]
      exact hs n hn i σ H (by omega) p) (hd n hn)⟩
end
section
variable {K : PySem.W.Frag} {σ : L2.St} {H : Hp} {ta tb te tl t0 t1 t2 t3 : TE} {D : Ends} {tw : TS} {v x y z : V} {tt : TT}
theorem g_appV {l : Addr} {xs : List V} (ho : Vl ta σ H (.ref l)) (hl : H l = some (.lst xs)) (h : Ve te σ H v) (hz : xs.length < sizeLine) (k : ∀ H', Same H H' → D.nx σ (upd H' l (.lst (xs ++ [v])))) :
    tDrop (tBM K "list" rAppend ta (tCons te tNil)) D σ H := ho _ ⟨.inl ⟨rfl, _, .inl (.inl hl)⟩, h _ fun H' s' => ⟨l, xs, v, rfl, rfl, s' _ _ hl, hz, k H' s'⟩⟩
theorem lc_filter {j : Nat} {xs : List V} {pb : V → Bool} (hj : j < σ.length) (hl : ∀ Q : VK, (∀ a H1, Same H H1 → SqL K H1 a xs → Q (.ref a) H1) → tl σ H Q) (hz : xs.length ≤ 1000000)
    (ht : ∀ x ∈ xs, ∀ H', An tt ((σ.set j none).set j (some x)) H' (pb x)) (Q : VK) (q : ∀ D H' acc, Same H H' → H' D = some (.lst acc) → acc.length = (xs.filter pb).length → Q (.ref D) H') : tLc (iList K tl) (gName j) tt (tVar j) [j] σ H Q := by
  refine hl _ fun a H1 s1 hx => ⟨a, rfl, ⟨xs, hx⟩, fun D nD => lc_list (xs := xs) (fun i H' => ∃ acc, H' D = some (.lst acc) ∧ Same H1 H' ∧ acc.length = ((xs.take i).filter pb).length) ⟨[], upd_same, same_upd nD, rfl⟩ (fun i H' _ hP => hP.choose_spec.2.1.seq hx) (fun i x H2 hi hP => ?_) (fun H2 hP => ?_)⟩
  · obtain ⟨acc, hD, s2, ha⟩ := hP
    have e : (xs.take (i + 1)).filter pb = (xs.take i).filter pb ++ [x].filter pb := by
      rw [take_snoc hi]
      exact List.filter_append ..
    refine ⟨?_, ht x (List.mem_of_getElem? hi) H2 _ ?_⟩
    · show ((σ.set j none).set j (some x)).set j none = σ.set j none
      rw [List.set_set, List.set_set]
    · cases hp : pb x with
      | true =>
        have e2 : [x].filter pb = [x] := by
          rw [List.filter_cons, hp]
          rfl
        refine iteT ⟨x, ?_, acc, hD, ?_, _, upd_same, same_upd' s2 nD, ?_⟩
        · exact List.getElem?_set_self (by
            show j < (σ.set j none).length
            rw [List.length_set]
            exact hj)
        · have h1 : ((xs.take i).filter pb).length ≤ xs.length := Nat.le_trans (List.length_filter_le _ _) (by rw [List.length_take]; exact Nat.min_le_right _ _)
          exact Nat.lt_of_le_of_lt (m := 1000000) (by omega) (by decide)
        · rw [e, e2, List.length_append, List.length_append, ha]
      | false =>
        have e2 : [x].filter pb = [] := by
          rw [List.filter_cons, hp]
          rfl
        refine iteF ⟨acc, hD, s2, ?_⟩
        rw [e, e2, List.append_nil]
        exact ha
  · obtain ⟨acc, hD, s2, ha⟩ := hP
    rw [List.take_length] at ha
    exact q D H2 acc (s1.trans s2) hD ha
theorem vl_inL {a : Addr} {xs : List V} (h : Vl te σ H (.ref a)) (hx : SqL K H a xs) (f1 : flatV x = true) (f2 : xs.all flatV = true) : Vl (tOp (rIn K false) (tC x) te) σ H (.bl (inV x xs)) := vl_op vl_c h fun _ k => ⟨a, xs, rfl, .inl hx, f1, f2, k⟩
theorem flat_o (o : Option Int) : flatV (oV o) = true := by cases o <;> rfl
theorem ax_leLT {a T : Addr} {p q r s : Int} (h : Vl te σ H (.ref a)) (hx : SqL K H a [.int p, .int q]) (hb : ∀ H', Same H H' → Vl tb σ H' (.ref T)) (hT : SqT K H T [.int r, .int s]) :
    Ax (tTest (tOp (rLeT K) (tCB (fun xs H Q => ∃ p ys, xs = [V.ref p] ∧ ((SqL K H p ys ∧ ∀ l, H l = none → Q (.ref l) (upd H l (.tup ys))) ∨ (SqT K H p ys ∧ Q (.ref p) H))) (tCons te tNil)) tb)) σ H (decide (p < r ∨ (p = r ∧ q ≤ s))) := fun Q k =>
  h _ ⟨a, _, rfl, .inl ⟨hx, fun S nS => hb _ (same_upd nS) _ ⟨S, T, [p, q], [r, s], rfl, rfl, .of upd_same, seqT (same_upd nS) hT, _, rfl, by
    rw [lexAt2]
    exact k _ (same_upd nS)⟩⟩⟩
theorem ve_tup4 {v0 v1 v2 v3 : V} (h0 : Ve t0 σ H v0) (h1 : ∀ H', Same H H' → Ve t1 σ H' v1) (h2 : ∀ H', Same H H' → Ve t2 σ H' v2) (h3 : ∀ H', Same H H' → Ve t3 σ H' v3) (Q : VK) (q : ∀ R H', Same H H' → H' R = some (.tup [v0, v1, v2, v3]) → Q (.ref R) H') :
    tTup (tCons t0 (tCons t1 (tCons t2 (tCons t3 tNil)))) σ H Q := h0 _ fun H1 s1 => h1 H1 s1 _ fun H2 s2 => h2 H2 (s1.trans s2) _ fun H3 s3 => h3 H3 ((s1.trans s2).trans s3) _ fun H4 s4 => ⟨by show 4 ≤ sizeLine; decide, fun R nR => q R _ ((((s1.trans s2).trans s3).trans s4).trans (same_upd nR)) upd_same⟩
end
theorem ret_pairE {te : TE} {x : Str} {D : Ends} {σ : L2.St} {H : Hp} (h : te σ H fun v H1 => [V.str x, v].length ≤ sizeLine ∧ ∀ p, H1 p = none → D.rt (.ref p) (upd H1 p (.tup [.str x, v]))) : tRet (tTup (tCons (tC (.str x)) (tCons te tNil))) D σ H := h
theorem nx_of {f : L2.St → Hp → Prop} {a b c} {σ : L2.St} {H : Hp} (h : f σ H) : (Ends.mk f a b c).nx σ H := h
theorem ax_isNV {σ : L2.St} {H : Hp} {te : TE} {v : V} (h : Ve te σ H v) : Ax (tTest (tOp (fun x y H Q => y = V.non ∧ Q (V.bl (decide (x = V.non))) H) te (tC .non))) σ H (decide (v = .non)) := fun Q k => h _ fun H' s' => ⟨rfl, _, rfl, k H' s'⟩
theorem last_get {α : Type} {l : List α} {d : α} (h : l ≠ []) : l[l.length - 1]? = some (l.getLast?.getD d) := by
  rw [List.getLast?_eq_getElem?]
  have : l.length - 1 < l.length := by
    have := List.length_pos_iff.mpr h
    omega
  rw [List.getElem?_eq_getElem this]
  rfl
theorem seqT_but {K : PySem.W.Frag} {H : Hp} {o R : Addr} {ys zs : List V} (h : SqT K H R zs) (ho : H o = some (.lst ys)) : SqT K (but H o) R zs := by
  rcases h with (h | ⟨u, h⟩) | h
  · have ne : R ≠ o := fun z => by
      rw [z, ho] at h
      cases h
    exact .inl (.inl (by rw [but_ne ne]; exact h))
  · have ne : R ≠ o := fun z => by
      rw [z, ho] at h
      cases h
    exact .inl (.inr ⟨u, by rw [but_ne ne]; exact h⟩)
  · exact .inr h
theorem vl_byLow {C a d : Addr} {te : TE} {σ : L2.St} {H : Hp} {v : V} (h : Vl te σ H (.ref a)) (hd : H d = some (.xd [("at", v)])) : Vl (tByLow C a (.ref C) (some d) te) σ H v := fun Q q => h _ ⟨rfl, rfl, d, v, rfl, hd, q⟩
def pairD (x : Str) (d : PyData) : PyData := .tuple [.str x, d]
theorem ret_pair {K : PySem.W.Frag} {σ : L2.St} {H : Hp} {D : Ends} {te : TE} {x : Str} {v : V} {d : PyData} (h : Vl te σ H v) (hd : Dp K H v d) (k : ∀ p H', Same H H' → Dp K H' (.ref p) (pairD x d) → D.rt (.ref p) H') :
    tRet (tTup (tCons (tC (.str x)) (tCons te tNil))) D σ H := h _ ⟨by show 2 ≤ sizeLine; decide, fun p np => k p _ (same_upd np) (.tup (.of upd_same) (.cons (.str x) (.cons (Dp.to hd (same_upd np)) .nil)))⟩
structure Apart (K : PySem.W.Frag) (C C' : Addr) : Prop where
  no : PySem.W.exmOne K (.ref C) (.ref C') = some false
structure NmAt (mg : Str → Option Value) (x : Str) (C : Addr) : Prop where
  gC : mg x = some (.ref C)
theorem lay_net (N : Net) : (netD N).canLay0 = true ∧ (netD N).depth ≤ 3 := by
  have h := lay_lnks N.ls
  constructor
  · show (true && (PyData.canLayAll0 (N.ls.map lnkD) && true)) = true
    rw [h.1]
    rfl
  · show max 0 (max (PyData.depthAll (N.ls.map lnkD) + 1) 0) + 1 ≤ 3
    have := h.2
    omega
theorem shaped_pair {x : Str} {d : PyData} (hx : PyData.canLay0 (.str x) = true) (h : d.canLay0 = true) (h2 : d.depth ≤ 3) : SeqAt.shaped (pairD x d) = true := by
  show ((PyData.canLay0 (.str x) && (d.canLay0 && true)) && decide (max 0 (max d.depth 0) + 1 ≤ 64)) = true
  rw [hx, h, decide_eq_true (by omega)]
  rfl
theorem refl_of {d : PyData} (h : SeqAt.shaped d = true) : PyData.eqv d d = true := SeqAt.eqv_refl _ (Bool.and_eq_true_iff.mp h).1
theorem ax_ne {K : PySem.W.Frag} {σ : L2.St} {H : Hp} {te te2 : TE} {d : PyData} (hd : SeqAt.shaped d = true) (h1 : ∀ Q : VK, (∀ v H', Same H H' → Dp K H' v d → Q v H') → te σ H Q) (h2 : ∀ H', Same H H' → ∀ Q : VK, (∀ v H2, Same H' H2 → Dp K H2 v d → Q v H2) → te2 σ H' Q) :
    Ax (tTest (tOp (rNeD K) te te2)) σ H false := fun Q k => h1 _ fun v H1 s1 d1 => h2 H1 s1 _ fun u H2 s2 d2 => ⟨d, d, Dp.to d1 s2, d2, hd, hd, _, rfl, by
  rw [refl_of hd]
  exact k H2 (s1.trans s2)⟩
theorem ax_neV {σ : L2.St} {H : Hp} {ta tb : TE} {x y : V} (ha : Vl ta σ H x) (hb : Ve tb σ H y) (hs : scal x y = true) : Ax (tTest (tOp rNe ta tb)) σ H (!decide (x = y)) := fun Q k => ha _ (hb _ fun H' s' => ⟨hs, _, rfl, k H' s'⟩)
theorem lay_ints : ∀ ns : List Int, PyData.canLayAll0 (ns.map PyData.int) = true ∧ PyData.depthAll (ns.map PyData.int) = 0
  | [] => ⟨rfl, rfl⟩
  | n :: ns => by
    have h := lay_ints ns
    constructor
    · show (true && PyData.canLayAll0 (ns.map PyData.int)) = true
      rw [h.1]
      rfl
    · show max 0 (PyData.depthAll (ns.map PyData.int)) = 0
      rw [h.2]
      rfl
theorem shaped_ints (ns : List Int) : SeqAt.shaped (.list (ns.map PyData.int)) = true := by
  have h := lay_ints ns
  show (PyData.canLayAll0 (ns.map PyData.int) && decide (PyData.depthAll (ns.map PyData.int) + 1 ≤ 64)) = true
  rw [h.1, h.2]
  rfl
/-! ### heaps with two objects that change -/
def B2 (H : Hp) (o q : Addr) : Hp := but (but H o) q
theorem b2_same {H : Hp} {o q : Addr} : Same (B2 H o q) H := but_same.trans but_same
theorem same_b2 {G H : Hp} {o q : Addr} (s : Same G H) (n : G o = none) (m : G q = none) : Same G (B2 H o q) := same_but (same_but s n) m
theorem b2_mono {H H' : Hp} {o q : Addr} (s : Same H H') : Same (B2 H o q) (B2 H' o q) := but_mono (but_mono s)
theorem b2_upd1 {H : Hp} {o q : Addr} {u : HO} : B2 (upd H o u) o q = B2 H o q := by
  unfold B2
  rw [but_upd]
theorem b2_upd2 {H : Hp} {o q : Addr} {u : HO} : B2 (upd H q u) o q = B2 H o q := by
  funext b
  unfold B2
  by_cases h : b = q
  · rw [h, but_at, but_at]
  · rw [but_ne h, but_ne h]
    by_cases h2 : b = o
    · rw [h2, but_at, but_at]
    · rw [but_ne h2, but_ne h2, upd_ne h]
theorem b2_get {H : Hp} {o q a : Addr} {u : HO} (h : H a = some u) (h1 : a ≠ o) (h2 : a ≠ q) : B2 H o q a = some u := by
  unfold B2
  rw [but_ne h2, but_ne h1]
  exact h
/-! ### comprehensions over ints -/
section
variable {K : PySem.W.Frag} {σ : L2.St} {H : Hp} {ta tb te tl td ty tv : TE} {tr : TA} {D : Ends} {tw : TS} {tt : TT} {v : V}
theorem an_yes : An tYes σ H true := fun _ q => q
theorem vn_lcI {j : Nat} {ns : List Int} {pb : Int → Bool} {f : Int → V} (hl : ∀ Q : VK, (∀ a H1, Same H H1 → SqL K H1 a (ns.map V.int) → Q (.ref a) H1) → tl σ H Q) (hz : ns.length ≤ 1000000)
    (ht : ∀ x ∈ ns, ∀ H', Same H H' → An tt ((σ.set j none).set j (some (.int x))) H' (pb x)) (he : ∀ x ∈ ns, ∀ H', Same H H' → Vl te ((σ.set j none).set j (some (.int x))) H' (f x)) :
    Vn (tLc (iList K tl) (gName j) tt te [j]) σ H ((ns.filter pb).map f) := fun Q q => by
  refine hl _ fun a H1 s1 hx => ⟨a, rfl, ⟨_, hx⟩, fun D nD => lc_list (xs := ns.map V.int) (fun i H' => H' D = some (.lst (((ns.take i).filter pb).map f)) ∧ Same H1 H') ⟨upd_same, same_upd nD⟩ (fun i H' _ hP => hP.2.seq hx) (fun i x H2 hi hP => ?_) (fun H2 hP => ?_)⟩
  · obtain ⟨hD, s2⟩ := hP
    rw [List.getElem?_map] at hi
    cases hg : ns[i]? with
    | none =>
      rw [hg] at hi
      cases hi
    | some n =>
      rw [hg] at hi
      cases hi
      have hm := List.mem_of_getElem? hg
      have e : (ns.take (i + 1)).filter pb = (ns.take i).filter pb ++ [n].filter pb := by
        rw [take_snoc hg]
        exact List.filter_append ..
      refine ⟨?_, ht n hm H2 (s1.trans s2) _ ?_⟩
      · show ((σ.set j none).set j (some (V.int n))).set j none = σ.set j none
        rw [List.set_set, List.set_set]
      · cases hp : pb n with
        | true =>
          have e2 : [n].filter pb = [n] := by
            rw [List.filter_cons, hp]
            rfl
          refine iteT (B := H2 D = some (.lst (((ns.take (i + 1)).filter pb).map f)) ∧ Same H1 H2) (he n hm H2 (s1.trans s2) _ ⟨_, hD, ?_, ?_, same_upd' s2 nD⟩)
          · rw [List.length_map]
            have h1 : ((ns.take i).filter pb).length ≤ ns.length := Nat.le_trans (List.length_filter_le _ _) (by rw [List.length_take]; exact Nat.min_le_right _ _)
            exact Nat.lt_of_le_of_lt (m := 1000000) (by omega) (by decide)
          · rw [upd_same, e, e2, List.map_append]
            rfl
        | false =>
          have e2 : [n].filter pb = [] := by
            rw [List.filter_cons, hp]
            rfl
          refine iteF ⟨?_, s2⟩
          rw [e, e2, List.append_nil]
          exact hD
  · obtain ⟨hD, s2⟩ := hP
    rw [List.length_map, List.take_length] at hD
    exact q D H2 (s1.trans s2) (Same.free s1 nD) hD
theorem vn_lcR {j : Nat} {n : Int} {pb : Int → Bool} {f : Int → V} (hl : Va tr σ H [.int n]) (h0 : 0 ≤ n) (hz : n ≤ 1000000)
    (ht : ∀ x : Int, 0 ≤ x → x < n → ∀ H', Same H H' → An tt ((σ.set j none).set j (some (.int x))) H' (pb x)) (he : ∀ x : Int, 0 ≤ x → x < n → ∀ H', Same H H' → Vl te ((σ.set j none).set j (some (.int x))) H' (f x)) :
    Vn (tLc (iRng1 tr) (gName j) tt te [j]) σ H (((((List.range n.toNat).map fun (i : Nat) => (i : Int))).filter pb).map f) := fun Q q => by
  refine hl _ ⟨n, rfl, by omega, by omega, fun D nD => lc_range (lo := 0) (n := n.toNat) (fun i H' => H' D = some (.lst ((((List.range i).map fun (i : Nat) => (i : Int)).filter pb).map f)) ∧ Same H H') ⟨upd_same, same_upd nD⟩ (fun i H2 hi hP => ?_) (fun H2 hP => ?_)⟩
  · obtain ⟨hD, s2⟩ := hP
    have e : (((List.range (i + 1)).map fun (i : Nat) => (i : Int)).filter pb) = ((List.range i).map fun (i : Nat) => (i : Int)).filter pb ++ [(i : Int)].filter pb := by
      rw [List.range_succ, List.map_append]
      exact List.filter_append ..
    rw [Int.zero_add]
    refine ⟨?_, ht i (by omega) (by omega) H2 s2 _ ?_⟩
    · show ((σ.set j none).set j (some (V.int i))).set j none = σ.set j none
      rw [List.set_set, List.set_set]
    · cases hp : pb (i : Int) with
      | true =>
        have e2 : [(i : Int)].filter pb = [(i : Int)] := by
          rw [List.filter_cons, hp]
          rfl
        refine iteT (B := H2 D = some (.lst ((((List.range (i + 1)).map fun (i : Nat) => (i : Int)).filter pb).map f)) ∧ Same H H2) (he i (by omega) (by omega) H2 s2 _ ⟨_, hD, ?_, ?_, same_upd' s2 nD⟩)
        · rw [List.length_map]
          have h1 : (((List.range i).map fun (i : Nat) => (i : Int)).filter pb).length ≤ i := Nat.le_trans (List.length_filter_le _ _) (by rw [List.length_map, List.length_range]; exact Nat.le_refl _)
          exact Nat.lt_of_le_of_lt (m := 1000000) (by omega) (by decide)
        · rw [upd_same, e, e2, List.map_append]
          rfl
      | false =>
        have e2 : [(i : Int)].filter pb = [] := by
          rw [List.filter_cons, hp]
          rfl
        refine iteF ⟨?_, s2⟩
        rw [e, e2, List.append_nil]
        exact hD
  · obtain ⟨hD, s2⟩ := hP
    exact q D H2 s2 nD hD
/-! ### dicts by ints -/
theorem vl_dgetI {o : Addr} {p : Int} {kvs : List (Key × V)} (ho : Vl td σ H (.ref o)) (hk : Vl ty σ H (.int p)) (hd : H o = some (.dK kvs)) (hv : valV kvs (.inl p) = some v) : Vl (tDGet td ty) σ H v := fun Q q => ho _ (hk _ ⟨o, v, rfl, by
  rw [← hv]
  exact DGet.k (k := .inl p) hd, q⟩)
theorem q_dnewK {i : Nat} (k : ∀ p, H p = none → tw D (σ.set i (some (.ref p))) (upd H p (.dK []))) : tSeq (tAsg tDNewK (gName i)) tw D σ H := k
theorem g_dputN {o : Addr} {p : Int} {kvs : List (Key × V)} {xs : List V} (hv : Vn tv σ H xs) (ho : ∀ H', Same H H' → Vl td σ H' (.ref o)) (hk : ∀ H', Same H H' → Vl ty σ H' (.int p)) (hd : H o = some (.dK kvs)) (hl : kvs.length < sizeLine)
    (k : ∀ a H', Same H H' → H a = none → H' a = some (.lst xs) → D.nx σ (upd H' o (.dK (putK kvs (.inl p) (.ref a))))) : sDPut td ty tv D σ H := hv _ fun a H' s' na ea => ho H' s' _ (hk H' s' _ ⟨o, _, rfl, DPut.k (k := .inl p) (s' _ _ hd) hl, k a H' s' na ea⟩)
theorem g_dputV {o : Addr} {p : Int} {kvs : List (Key × V)} (hv : Vl tv σ H v) (ho : Vl td σ H (.ref o)) (hk : Vl ty σ H (.int p)) (hd : H o = some (.dK kvs)) (hl : kvs.length < sizeLine)
    (k : D.nx σ (upd H o (.dK (putK kvs (.inl p) v)))) : sDPut td ty tv D σ H := hv _ (ho _ (hk _ ⟨o, _, rfl, DPut.k (k := .inl p) hd hl, k⟩))
end
theorem hu_of {k : Nat} {A : Around} (r : Room k A) : A.units + 1 < cLine := by
  have := r.units
  omega
theorem dI {i j : Int} : decide (V.int i = V.int j) = decide (i = j) := by
  rw [Bool.eq_iff_iff, decide_eq_true_eq, decide_eq_true_eq]
  exact ⟨fun z => V.int.inj z, fun z => by rw [z]⟩
theorem vn_catV {K : PySem.W.Frag} {σ : L2.St} {H : Hp} {ta tb : TE} {a : Addr} {xs ys : List V} (ha : Vn ta σ H xs) (hb : ∀ H', Same H H' → Vl tb σ H' (.ref a)) (hA : H a = some (.lst ys)) (hz : xs.length + ys.length ≤ sizeLine) : Vn (tOp rCat ta tb) σ H (xs ++ ys) := fun Q q => ha _ fun p H1 s1 np hp => hb H1 s1 _
  ⟨p, a, xs, ys, rfl, rfl, hp, s1 _ _ hA, hz, fun t nt => q t _ (s1.trans (same_upd nt)) (Same.free s1 nt) upd_same⟩
theorem putK_len {κ : Type} [DecidableEq κ] {kvs : List (κ × V)} {k : κ} {v : V} (h : (valV kvs k).isSome = true) : (putK kvs k v).length = kvs.length := by
  unfold putK
  rw [valV_any, if_pos h, List.length_map]
/-! ### a law's own def, called from without: nothing is being shown there -/
structure FnG (P : Program) (w : World) (K : PySem.W.Frag) (mg : Str → Option Value) (base : Heap) (f : Addr) (fd : FuncData) (ps : List Str) (sp : Sp) : Prop where
  go : ∀ (s : Shared) (H : Hp) (us : List Value) (vs : List V) (Q : VK) (E : XK), Env0 P w K mg base callerA [] s H → BindsTo s fd ⟨us, []⟩ (ps.zip us) → Vals vs us → sp vs H Q E → codeAny (model P w) callerA (.call (.ref f) ⟨us, []⟩) (CR CX0 [] P w H s Q E) s
section
variable {P : Program} {w : World} {K : PySem.W.Frag} {mg : Str → Option Value} {base : Heap}
theorem okG {x qual : Str} {st : Stmt} {f : Addr} {fd : FuncData} {N ps : List Str} {k : Nat} {sp : Sp} (F : Fun K x qual st f fd) (S : FnScope N ps (defScope st)) (room : Room (k + 1) callerA) (count : ∀ vs H Q E, sp vs H Q E → vs.length = ps.length)
    (body : ∀ (cdv : Value) (s : Shared) (H : Hp) (vs : List V) (Q : VK) (E : XK), Room k (callerA.deeper (envOfC qual (defScope st) s.heap.objs.size f cdv)) → sp vs H Q E →
      ∃ t, PSs (cxOf CX0 P w K mg base N qual (defScope st) f cdv callerA [] s H E).nox (defBody st) t ∧ t { nx := fun _ H' => Q .non H', rt := Q } (start N vs) H) : FnG P w K mg base f fd ps sp := by
  obtain ⟨oc, od, kV, doc, pm, an, cdv, ct, osl, efd, look, code⟩ := F.ex
  subst efd
  refine ⟨fun s H us vs Q E env bnd rel want => ?_⟩
  have old : ∀ b o, base.get? b = some o → s.heap.get? b = some o := fun b o e => (env.bs b o e).1
  have kin : K.In s.heap := env.mod.kin.keeps old
  have lims : s.heap.NoLimit := env.mod.nolimit.keeps old
  refine codeAny_call_function room.depth (kin _ _ look) rfl S.co S.gen rfl (PySem.W.codeRec_of kin code) (bnd _ _ _ _ ?_)
  refine wpAny_newFunctionEnv_cells S.kind (fun y hy => ?_) fun fresh same s1 made => ?_
  · obtain ⟨n, v⟩ := y
    cases S.par n (List.of_mem_zip hy).1 with
    | inl q => exact .inl q
    | inr q => exact .inr ⟨q, PySem.W.cellsFrom_some _ _ _ (.inl q)⟩
  cases same
  refine ⟨lims.keeps made.toInCall.keep, codeAny_func ?_⟩
  obtain ⟨t, prog, ends⟩ := body cdv s H vs Q E (room.deeper _) want
  have inv : Inv (cxOf CX0 P w K mg base N qual (defScope st) f cdv callerA [] s H E) [] (start N vs) H s1 := inv_start S room.hd env (count _ _ _ _ want) rel made
  refine wpAny_mono (prog.nox.run [] s1 (start N vs) H _ inv ends) (fun fl s2 got => ?_) fun e s2 got => got
  cases fl with
  | ret u => exact let ⟨v, _, H2, J, rv, q⟩ := got; ⟨v, H2, J.os, J.bare, J.base, J.hok, rv, q⟩
  | next => exact let ⟨_, H2, J, q⟩ := got; ⟨V.non, H2, J.os, J.bare, J.base, J.hok, rfl, q⟩
  | brk => exact let ⟨_, _, _, q⟩ := got; False.elim q
  | cont => exact let ⟨_, _, _, q⟩ := got; False.elim q
variable {mb : Str → Option Value} {fa a : Addr} {fd : FuncData} {x : Str} {sp : Sp} {s1 : Shared} {vs : List Value} {ns : List Int}
abbrev scr (vs : List Value) : Obj := { cls := .type "list", data := .seq vs.toArray }
/-- from a heap in which at most the script is told -/
theorem runG_core (kin : K.In s1.heap) (gl : s1.heap.Ns mainGlobals mg) (bl : s1.heap.Ns builtinsNs mb) (bo : ∀ x : Str, x ≠ "__name__" → mb x = bootBuiltins x) (lim : s1.heap.NoLimit) (gen : s1.gens = #[]) (ha : s1.heap.get? a = some (scr vs))
    (F : ∀ base : Heap, K.In base → base.Ns mainGlobals mg → FnG P w K mg base fa fd [x] sp) (bind : ∀ (s : Shared) (u : Value), BindsTo s fd ⟨[u], []⟩ [(x, u)]) {H : Hp} (only : Only H) (want : sp [.ref a] H (fun v _ => v = .bl true) fun _ _ _ => False) (hok : HOk P w H s1.heap)
    (alone : ∀ b, H b ≠ none → b = a) (free : H a ≠ none → K.lookup a = none) :
    codeAny (model P w) callerA (.call (.ref fa) ⟨[.ref a], []⟩) (fun r s' => r = .ok (.ret (.bool true)) ∧ OldK s1.heap s'.heap ∧ s'.os = s1.os ∧ AllBare s'.gens) s1 := by
  have none_of : ∀ {b : Addr} {o : Obj}, s1.heap.get? b = some o → (b = a → H a ≠ none → False) → (hidT s1.heap H).get? b = some o := fun {b o} e no => hidT_get e (by
    cases q : H b with
    | none => rfl
    | some u =>
      have n : H b ≠ none := by rw [q]; exact fun z => nomatch z
      have eb := alone b n
      subst eb
      exact (no rfl n).elim)
  have names : ∀ {b : Addr} {m : Str → Option Value}, s1.heap.Ns b m → (hidT s1.heap H).Ns b m := fun {b m} ⟨o, es, ep, e, d, r⟩ => ⟨o, es, ep, none_of e (fun eb _ => by
    subst eb
    rw [ha] at e
    cases e
    have d : Data.seq vs.toArray _ = Data.dict es ep := d
    cases d), d, r⟩
  have kin2 : K.In (hidT s1.heap H) := fun b o e => none_of (kin b o e) fun eb n => by
    subst eb
    rw [free n] at e
    cases e
  have mod : Mod K mg (hidT s1.heap H) := ⟨kin2, names gl, ⟨mb, names bl, bo⟩, let ⟨mc, h1, h2⟩ := lim; ⟨mc, names h1, h2⟩⟩
  have env : Env0 P w K mg (hidT s1.heap H) callerA [] s1 H := ⟨rfl, mod, fun b o e => of_hidT e, Nat.le_of_eq (hidT_size _ _), trivial, fun b hb => (nomatch (show b ∈ ([] : List Addr) from hb)), hok, .of_eq gen⟩
  refine codeAny_mono ((F _ kin2 (names gl)).go s1 H [.ref a] [.ref a] _ _ env (bind s1 (.ref a)) (.cons rfl .nil) want) fun r s2 got => ?_
  match r, got with
  | .ok (.ret u), got =>
    obtain ⟨v, H2, os, bare, un, hok2, rel, q⟩ := got
    have q : v = .bl true := q
    cases q
    have rel : u = Value.bool true := rel
    cases rel
    refine ⟨rfl, OldK.of_keep fun b o e => ?_, os, bare⟩
    rcases only b with z | ⟨ob, xs, z⟩
    · exact un.keep b o e z (fun m => (nomatch (show b ∈ ([] : List Addr) from m))) (fun m => (nomatch m))
    · obtain ⟨e1, _⟩ := hok b _ z
      obtain ⟨e2, _⟩ := hok2 b _ (un.frzs b ob _ z)
      rw [e] at e1
      cases e1
      exact e2
theorem runG (kin : K.In s1.heap) (gl : s1.heap.Ns mainGlobals mg) (bl : s1.heap.Ns builtinsNs mb) (bo : ∀ x : Str, x ≠ "__name__" → mb x = bootBuiltins x) (lim : s1.heap.NoLimit) (gen : s1.gens = #[]) (ha : s1.heap.get? a = some (scr vs)) (hin : IntsAre vs ns) (hl : ns.length ≤ sizeLine)
    (F : ∀ base : Heap, K.In base → base.Ns mainGlobals mg → FnG P w K mg base fa fd [x] sp) (bind : ∀ (s : Shared) (u : Value), BindsTo s fd ⟨[u], []⟩ [(x, u)]) (want : ∀ H : Hp, Only H → SqL K H a (ns.map V.int) → sp [.ref a] H (fun v _ => v = .bl true) fun _ _ _ => False) :
    codeAny (model P w) callerA (.call (.ref fa) ⟨[.ref a], []⟩) (fun r s' => r = .ok (.ret (.bool true)) ∧ OldK s1.heap s'.heap ∧ s'.os = s1.os ∧ AllBare s'.gens) s1 := by
  have rel := vals_ints hin
  have size : vs.toArray.size ≤ sizeLine := by
    rw [List.size_toArray, hin.length]
    exact hl
  cases hk : K.lookup a with
  | some o =>
    have e := (kin a o hk).symm.trans ha
    cases e
    have only : Only (fun _ : Addr => (none : Option HO)) := fun _ => .inl rfl
    exact runG_core kin gl bl bo lim gen ha F bind only (want _ only (.inr ⟨_, vs.toArray, _, hk, rfl, rfl, rfl, size, by simpa using rel⟩)) (fun b u z => (nomatch (show (none : Option HO) = some u from z))) (fun b z => absurd rfl z) fun z => absurd rfl z
  | none =>
    let H : Hp := fun b => if b = a then some (.frz (scr vs) (.lst (ns.map V.int))) else none
    have at_ : H a = some (.frz (scr vs) (.lst (ns.map V.int))) := if_pos rfl
    have off : ∀ b, b ≠ a → H b = none := fun b hb => if_neg hb
    have only : Only H := fun b => by
      by_cases hb : b = a
      · subst hb
        exact .inr ⟨_, _, at_⟩
      · exact .inl (off b hb)
    refine runG_core kin gl bl bo lim gen ha F bind only (want _ only (.inl (.inr ⟨scr vs, at_⟩))) (fun b u z => ?_) (fun b z => ?_) fun _ => hk
    · by_cases hb : b = a
      · subst hb
        cases at_.symm.trans z
        exact ⟨ha, by rw [List.length_map]; exact hl, vs, _, rel, ha⟩
      · cases (off b hb).symm.trans z
    · by_cases hb : b = a
      · exact hb
      · exact absurd (off b hb) z
end
/-- the head -/
theorem walkG {l : PySem.W.OpenLaw} {n : Nat} {q : Program} {loose : List Str} {XP : (Str → Option Value) → Heap → Prop} {YP : World → Heap → Prop} {d : DefRec} {K : Params → PySem.W.Frag} {sp : World → Sp} {x : Str} (hn : l.most = some n) (hn2 : n ≤ sizeLine) (hdf : d.params.defaults = []) (hY : ∀ (w : World) (h : Heap), YP w h → (K w.params).In h)
    (F : ∀ (w : World) (mg : Str → Option Value) (fa : Addr) (h : Heap), (K w.params).In h → h.Ns mainGlobals mg → mg d.name = some (.ref fa) → ∃ fd : FuncData, (∀ (s : Shared) (u : Value), BindsTo s fd ⟨[u], []⟩ [(x, u)]) ∧ ∀ base : Heap, (K w.params).In base → base.Ns mainGlobals mg → FnG l.prog w (K w.params) mg base fa fd [x] (sp w))
    (want : ∀ (w : World) (H : Hp) (a : Addr) (ns : List Int), ns.length ≤ n → Only H → SqL (K w.params) H a (ns.map V.int) → sp w [.ref a] H (fun v _ => v = .bl true) fun _ _ _ => False) : PySem.W.WalkO q loose XP YP l.row.toRowW d [] (fun f vs => PySem.call f vs) :=
  Att.attach_call hn hdf fun w s₀ s₁ mg mb fa o pm cd doc a vs ns G Y ho hd hcd hmg hobj hints hlen hg => by
    obtain ⟨fd, bnd, fn⟩ := F w mg fa _ (hY w _ Y) G.T.g hmg
    exact runG (hY w _ Y) G.T.g G.T.b G.T.builtins G.T.nolimit hg hobj hints (Nat.le_trans hlen hn2) fn bnd fun H o q => want w H a ns hlen o q
/-! ### repr of data -/
def rRepr (K : PySem.W.Frag) : List V → Hp → VK → Prop := fun xs H Q => ∃ a d, xs = [.ref a] ∧ Dp K H (.ref a) d ∧ d.showable = true ∧ d.hasDict = false ∧ d.depth ≤ 60 ∧ d.shown.length ≤ sizeLine ∧ Q (.str d.shown) H
theorem call_reprD {X : Cx} (hg : X.A.guards = some []) (hu : X.A.units + 64 < cLine) : CallR X (.builtin "repr") (rRepr X.K) := by
  intro pins s σ H xs us Q I r h
  obtain ⟨a, d, rfl, hd, sh, nd, dep, len, q⟩ := h
  obtain ⟨u, rfl, e⟩ := vals1 r
  cases e
  obtain ⟨as, rd⟩ := Dp.reads I d _ _ hd rfl
  exact repr_of_reads' rd sh (PyData.noDict_hsm nd) hg (by omega) (fun _ _ e => e) (fun h' u tk keep => ⟨.str d.shown, H, I.kept keep, ⟨u, rfl⟩, q⟩) len
theorem ve_repr {K : PySem.W.Frag} {σ : L2.St} {H : Hp} {tr : TA} {xs : List V} {d : PyData} (h : Va tr σ H xs) (hz : xs.length ≤ sizeLine) (hd : ∀ T H', Same H H' → H' T = some (.tup xs) → Dp K H' (.ref T) d) (h1 : d.showable = true) (h2 : d.hasDict = false) (h3 : d.depth ≤ 60) (h4 : d.shown.length ≤ sizeLine) :
    Ve (tCB (rRepr K) (tCons (tTup tr) tNil)) σ H (.str d.shown) := fun Q q => h _ ⟨hz, fun T nT => ⟨T, d, rfl, hd T _ (same_upd nT) upd_same, h1, h2, h3, h4, q _ (same_upd nT)⟩⟩
theorem ve_repr1 {K : PySem.W.Frag} {σ : L2.St} {H : Hp} {te : TE} {a : Addr} {d : PyData} (h : Vl te σ H (.ref a)) (hd : Dp K H (.ref a) d) (h1 : d.showable = true) (h2 : d.hasDict = false) (h3 : d.depth ≤ 60) (h4 : d.shown.length ≤ sizeLine) :
    Ve (tCB (rRepr K) (tCons te tNil)) σ H (.str d.shown) := fun Q q => h _ ⟨a, d, rfl, hd, h1, h2, h3, h4, q _ (Same.refl _)⟩
/-! ### check_places -/
def badP (n x : Int) : Bool := !(decide (0 ≤ x) && decide (x < n))
theorem badP_in {n x : Int} (h : 0 ≤ x ∧ x < n) : ¬ badP n x = true := by
  unfold badP
  rw [decide_eq_true h.1, decide_eq_true h.2]
  exact Bool.false_ne_true
theorem badP_out {n x : Int} (h : ¬ (0 ≤ x ∧ x < n)) : badP n x = true := by
  unfold badP
  rw [Bool.not_eq_true', Bool.and_eq_false_iff, decide_eq_false_iff_not, decide_eq_false_iff_not]
  omega
def badPl (n : Int) (xs : List Int) : Option Int := xs.find? (badP n)
theorem badPl_none {n : Int} {xs : List Int} (h : badPl n xs = none) : ∀ x ∈ xs, 0 ≤ x ∧ x < n := fun x hx => by
  have := List.find?_eq_none.mp h x hx
  by_cases c : 0 ≤ x ∧ x < n
  · exact c
  · exact absurd (badP_out c) this
theorem badPl_of {n : Int} {xs : List Int} (h : ∀ x ∈ xs, 0 ≤ x ∧ x < n) : badPl n xs = none := List.find?_eq_none.mpr fun x hx => badP_in (h x hx)
def spChkPl (K : PySem.W.Frag) (CP : Addr) : Sp := fun vs H Q E => ∃ (n : Int) (p : Addr) (xs : List Int), vs = [.int n, .ref p] ∧ SqL K H p (xs.map V.int) ∧
  (∀ x, badPl n xs = some x → RaiseTo E H CP x) ∧ (badPl n xs = none → ∀ H', Same H H' → Q .non H')
abbrev sChkPl : Stmt := topS 6
theorem scChkPl : FnScope ["n", "places", "place"] ["n", "places"] (defScope sChkPl) := ⟨rfl, rfl, rfl, by decide +kernel, rfl, by decide +kernel, by decide +kernel⟩
section
variable {P : Program} {w : World} {K : PySem.W.Frag} {mg : Str → Option Value} {base : Heap} {CP fI : Addr}
theorem ok_chkPl {f : Addr} {fd : FuncData} (F : Fun K "check_places" "check_places" sChkPl f fd) (hP : PySem.LowX.LowTxt K mg "NoPlace" CP fI) : FnOk P w K mg base (L2.CX P w) 2 f fd ["n", "places"] (spChkPl K CP) := by
  refine F.okX scChkPl (fun vs H Q E h => ?_) (fun cdv A outer s H vs Q E hr h => ?_)
  · obtain ⟨n, p, xs, rfl, _⟩ := h
    rfl
  · obtain ⟨n, p, xs, rfl, hS, q1, q2⟩ := h
    refine ⟨_, pss_one (ps_for (passes_of rfl) rfl (pi_list (pv 1)) (pg_name (i := 2) scChkPl.nd rfl (.inl rfl))
      (pss_one (ps_if (pt_not (pt_chain op_le op_lt pe_int (pv 2) (pv 0)))
        (pss_one (ps_raiseLow rfl hP hr (takes_of rfl rfl rfl rfl) (by exact (pa_cons (pv 2) pa_nil))))
        pss_nil))), ?_⟩
    refine g_forL (K := K) (j := 2) (xs := xs.map V.int) (vl_var rfl) hS
      (fun i σ H3 => ∃ y2, σ = [some (.int n), some (.ref p), y2] ∧ Same H H3 ∧ badPl n (xs.take i) = none)
      ⟨none, rfl, Same.refl _, rfl⟩ (fun i σ H3 hP => ?_) (fun i v σ H3 hi hP => ?_) (fun σ H3 hP => ?_)
    · obtain ⟨_, _, s3, _⟩ := hP
      exact s3.seq hS
    · obtain ⟨y2, rfl, s3, hb⟩ := hP
      rw [List.getElem?_map] at hi
      cases hg : xs[i]? with
      | none =>
        rw [hg] at hi
        cases hi
      | some z =>
        rw [hg] at hi
        cases hi
        refine g_when (b := !(decide ((0 : Int) ≤ z) && decide (z < n))) (an_not (an_test (vl_chainI vl_c (vl_var rfl) (vl_var rfl)))) (fun hz => ?_) (fun hz => ?_)
        · refine raise_now (va_cons (vl_var rfl) va_nil) ((q1 z ?_).to s3)
          have e : xs = xs.take i ++ (z :: xs.drop (i + 1)) := by
            have hil := (List.getElem?_eq_some_iff.mp hg)
            rw [← hil.2, ← List.drop_eq_getElem_cons hil.1, List.take_append_drop]
          rw [e]
          unfold badPl at hb ⊢
          rw [List.find?_append, hb, List.find?_cons_of_pos (p := badP n) hz] <;> rfl
        · refine ⟨_, rfl, s3, ?_⟩
          unfold badPl at hb ⊢
          rw [take_snoc hg, List.find?_append, hb, List.find?_cons_of_neg (p := badP n) (fun z => by rw [show badP n _ = false from hz] at z; cases z)] <;> rfl
    · obtain ⟨y2, rfl, s3, hb⟩ := hP
      rw [List.length_map, List.take_length] at hb
      exact q2 hb _ s3
end
section
variable {K : PySem.W.Frag} {σ : L2.St} {H : Hp} {t0 t1 t2 : TE} {D : Ends} {tw : TS} {E : XK} {CP : Addr} {n a b : Int}
/-- check_places(n, [a]) -/
theorem q_chk1 (h0 : Vl t0 σ H (.int n)) (h1 : Vl t1 σ H (.int a)) (qb : ¬ (0 ≤ a ∧ a < n) → RaiseTo E H CP a) (k : 0 ≤ a ∧ a < n → ∀ H', Same H H' → tw D σ H') :
    tSeq (tDrop (tCall (spChkPl K CP) [] E (tCons t0 (tCons (tLst (tCons t1 tNil)) tNil)))) tw D σ H :=
  h0 _ (h1 _ ⟨by show 1 ≤ sizeLine; decide, fun p np => ⟨n, p, [a], rfl, .of upd_same, fun x hx => by
    have s : Same H (upd H p (.lst [.int a])) := same_upd np
    refine (?_ : RaiseTo E H CP x).to s
    by_cases hin : 0 ≤ a ∧ a < n
    · rw [badPl_of (by
        intro y hy
        rw [List.mem_singleton.mp hy]
        exact hin)] at hx
      cases hx
    · have e : x = a := List.mem_singleton.mp (List.mem_of_find?_eq_some hx)
      rw [e]
      exact qb hin, fun hx H' s' => k (badPl_none hx a List.mem_cons_self) H' ((same_upd np).trans s')⟩⟩)
/-- check_places(n, [a, b]) -/
theorem q_chk2 (h0 : Vl t0 σ H (.int n)) (h1 : Vl t1 σ H (.int a)) (h2 : Vl t2 σ H (.int b)) (qa : ¬ (0 ≤ a ∧ a < n) → RaiseTo E H CP a) (qb : 0 ≤ a ∧ a < n → ¬ (0 ≤ b ∧ b < n) → RaiseTo E H CP b)
    (k : 0 ≤ a ∧ a < n → 0 ≤ b ∧ b < n → ∀ H', Same H H' → tw D σ H') :
    tSeq (tDrop (tCall (spChkPl K CP) [] E (tCons t0 (tCons (tLst (tCons t1 (tCons t2 tNil))) tNil)))) tw D σ H :=
  h0 _ (h1 _ (h2 _ ⟨by show 2 ≤ sizeLine; decide, fun p np => ⟨n, p, [a, b], rfl, .of upd_same, fun x hx => by
    have s : Same H (upd H p (.lst [.int a, .int b])) := same_upd np
    refine (?_ : RaiseTo E H CP x).to s
    unfold badPl at hx
    by_cases hin : 0 ≤ a ∧ a < n
    · by_cases hin2 : 0 ≤ b ∧ b < n
      · have := badPl_of (n := n) (xs := [a, b]) (by
          intro y hy
          rcases List.mem_cons.mp hy with rfl | hy
          · exact hin
          · rw [List.mem_singleton.mp hy]
            exact hin2)
        unfold badPl at this
        rw [this] at hx
        cases hx
      · rw [List.find?_cons_of_neg (badP_in hin)] at hx
        have e : x = b := List.mem_singleton.mp (List.mem_of_find?_eq_some hx)
        rw [e]
        exact qb hin hin2
    · rw [List.find?_cons_of_pos (badP_out hin)] at hx
      cases hx
      exact qa hin, fun hx H' s' => k (badPl_none hx a List.mem_cons_self) (badPl_none hx b (List.mem_cons_of_mem _ List.mem_cons_self)) H' ((same_upd np).trans s')⟩⟩))
end
/-! ### orders -/
def rng (n : Int) : List Int := (List.range n.toNat).map fun (i : Nat) => (i : Int)
def OrdOk (n : Int) (os : List Int) : Prop := os.Perm (rng n)
theorem mem_rng {n x : Int} : x ∈ rng n ↔ 0 ≤ x ∧ x < n := by
  unfold rng
  rw [List.mem_map]
  constructor
  · rintro ⟨i, hi, rfl⟩
    rw [List.mem_range] at hi
    omega
  · intro h
    exact ⟨x.toNat, List.mem_range.mpr (by omega), by omega⟩
theorem len_rng {n : Int} : (rng n).length = n.toNat := by
  unfold rng
  rw [List.length_map, List.length_range]
theorem nodup_rng {n : Int} : (rng n).Nodup := by
  unfold rng
  show List.Pairwise (· ≠ ·) _
  rw [List.pairwise_map]
  exact List.Pairwise.imp (fun h z => h (Int.ofNat.inj z)) List.nodup_range
theorem rng_succ (i : Nat) : rng ((i + 1 : Nat) : Int) = rng (i : Nat) ++ [(i : Int)] := by
  unfold rng
  rw [Int.toNat_natCast, Int.toNat_natCast, List.range_succ, List.map_append]
  rfl
theorem OrdOk.mem {n x : Int} {os : List Int} (h : OrdOk n os) : x ∈ os ↔ 0 ≤ x ∧ x < n := (h.mem_iff).trans mem_rng
theorem OrdOk.nodup {n : Int} {os : List Int} (h : OrdOk n os) : os.Nodup := (List.Perm.nodup_iff h).mpr nodup_rng
theorem OrdOk.len {n : Int} {os : List Int} (h : OrdOk n os) : os.length = n.toNat := (List.Perm.length_eq h).trans len_rng
theorem perm_of_sub : ∀ (xs ys : List Int), xs.Nodup → (∀ x ∈ xs, x ∈ ys) → ys.length ≤ xs.length → xs.Perm ys
  | [], ys, _, _, hl => by
    rw [List.eq_nil_of_length_eq_zero (Nat.le_zero.mp hl)]
  | x :: xs, ys, hn, hs, hl => by
    have hx := hs x List.mem_cons_self
    have hn := List.nodup_cons.mp hn
    have e := List.length_erase_of_mem hx
    have h := perm_of_sub xs (ys.erase x) hn.2 (fun y hy => (List.mem_erase_of_ne (fun z => hn.1 (by rw [← z]; exact hy))).mpr (hs y (List.mem_cons_of_mem _ hy))) (by
      rw [e]
      rw [List.length_cons] at hl
      omega)
    exact (h.cons x).trans (List.perm_cons_erase hx).symm
theorem ord_of {n : Int} {os : List Int} (hn : os.Nodup) (hm : ∀ x ∈ os, 0 ≤ x ∧ x < n) (hl : os.length = n.toNat) : OrdOk n os :=
  perm_of_sub _ _ hn (fun x hx => mem_rng.mpr (hm x hx)) (by rw [len_rng, hl]; exact Nat.le_refl _)
section
variable {K : PySem.W.Frag} {σ : L2.St} {H : Hp} {ta tb te : TE} {D : Ends} {tw : TS} {xs : List V}
theorem g_asgN {i : Nat} (h : Vn te σ H xs) (k : ∀ p H', Same H H' → H p = none → H' p = some (.lst xs) → D.nx (σ.set i (some (.ref p))) H') : tAsg te (gName i) D σ H := h _ k
/-- slices and sums of lists of ints -/
theorem vn_toI {ns : List Int} {a : Addr} {j : Nat} (h : Vl te σ H (.ref a)) (hj : Vl tb σ H (.int (j : Nat))) (hx : SqL K H a (ns.map V.int)) (hl : j ≤ ns.length) : Vn (tSl (rSlL K) te tNoPart (tPart tb)) σ H ((ns.take j).map V.int) := by
  have e : cutV (ns.map V.int) none (some ((j : Nat) : Int)) = (ns.take j).map V.int := by
    rw [cut_to (by rw [List.length_map]; exact hl), List.map_take]
  rw [← e]
  exact vn_slice h (fun _ q => q) (fun Q q => hj _ ⟨_, rfl, q⟩) hx
theorem vn_fromI {ns : List Int} {a : Addr} {j : Nat} (h : Vl te σ H (.ref a)) (hj : Vl tb σ H (.int (j : Nat))) (hx : SqL K H a (ns.map V.int)) (hl : j ≤ ns.length) : Vn (tSl (rSlL K) te (tPart tb) tNoPart) σ H ((ns.drop j).map V.int) := by
  have e : cutV (ns.map V.int) (some ((j : Nat) : Int)) none = (ns.drop j).map V.int := by
    rw [cut_from (by rw [List.length_map]; exact hl), List.map_drop]
  rw [← e]
  exact vn_slice h (fun Q q => hj _ ⟨_, rfl, q⟩) (fun _ q => q) hx
theorem vn_oneI {n : Int} (h : Vl te σ H (.int n)) : Vn (tLst (tCons te tNil)) σ H (([n] : List Int).map V.int) := vn_lst (va_cons h va_nil) (by show 1 ≤ sizeLine; decide)
theorem vn_catI {ms ns : List Int} (ha : Vn ta σ H (ms.map V.int)) (hb : ∀ H', Same H H' → Vn tb σ H' (ns.map V.int)) (hz : ms.length + ns.length ≤ 1000000) : Vn (tOp rCat ta tb) σ H ((ms ++ ns).map V.int) := by
  rw [List.map_append]
  exact vn_cat ha hb (by
    rw [List.length_map, List.length_map]
    exact Nat.le_trans hz (by decide))
theorem inV_int {x : Int} {ns : List Int} : inV (.int x) (ns.map V.int) = decide (x ∈ ns) := by
  unfold inV
  induction ns with
  | nil => rfl
  | cons n r ih =>
    rw [List.map_cons, List.any_cons, ih]
    show ((n == x) || decide (x ∈ r)) = _
    rw [Bool.eq_iff_iff, Bool.or_eq_true, beq_iff_eq, decide_eq_true_eq, decide_eq_true_eq, List.mem_cons]
    constructor
    · rintro (h | h)
      · exact .inl h.symm
      · exact .inr h
    · rintro (h | h)
      · exact .inl h.symm
      · exact .inr h
theorem flat_ints (ns : List Int) : (ns.map V.int).all flatV = true := by
  rw [List.all_map, List.all_eq_true]
  intro x _
  rfl
theorem vl_inI {a : Addr} {x : Int} {ns : List Int} (ha : Vl ta σ H (.int x)) (h : Vl te σ H (.ref a)) (hx : SqL K H a (ns.map V.int)) : Vl (tOp (rIn K false) ta te) σ H (.bl (decide (x ∈ ns))) := vl_op ha h fun _ k => ⟨a, _, rfl, .inl hx, rfl, flat_ints ns, by
  rw [inV_int]
  exact k⟩
theorem vl_notInI {a : Addr} {x : Int} {ns : List Int} (ha : Vl ta σ H (.int x)) (h : Vl te σ H (.ref a)) (hx : SqL K H a (ns.map V.int)) : Vl (tOp (rIn K true) ta te) σ H (.bl (!decide (x ∈ ns))) := vl_op ha h fun _ k => ⟨a, _, rfl, .inl hx, rfl, flat_ints ns, by
  rw [inV_int]
  exact k⟩
theorem vl_ixI {a : Addr} {ns : List Int} {j : Nat} {x : Int} (ha : Vl ta σ H (.ref a)) (hb : Vl tb σ H (.int (j : Nat))) (h : SqL K H a (ns.map V.int)) (hg : ns[j]? = some x) : Vl (tOp (rIxL K) ta tb) σ H (.int x) := vl_ixL ha hb h (atI_nat (by
  rw [List.getElem?_map, hg]
  rfl))
theorem vl_lenI {a : Addr} {ns : List Int} (ha : Vl ta σ H (.ref a)) (h : SqL K H a (ns.map V.int)) : Vl (tCB (fun xs H Q => ∃ p ys, xs = [V.ref p] ∧ (SqL K H p ys ∨ SqT K H p ys) ∧ Q (V.int ys.length) H) (tCons ta tNil)) σ H (.int ns.length) := (vl_lenL ha h).is (by rw [List.length_map])
end
section
variable {K : PySem.W.Frag} {σ : L2.St} {H : Hp} {ta tb te : TE} {b k m : Bool}
theorem vn_catL {a : Addr} {ms ns : List Int} (ha : Vl ta σ H (.ref a)) (hA : H a = some (.lst (ms.map V.int))) (hb : Vn tb σ H (ns.map V.int)) (hz : ms.length + ns.length ≤ 1000000) : Vn (tOp rCat ta tb) σ H ((ms ++ ns).map V.int) := fun Q q =>
  ha _ (hb _ fun p H1 s1 np hp => ⟨a, p, _, _, rfl, rfl, s1 _ _ hA, hp, by
    rw [List.length_map, List.length_map]
    exact Nat.le_trans hz (by decide), fun t nt => by
    rw [← List.map_append]
    exact q t _ (s1.trans (same_upd nt)) (Same.free s1 nt) upd_same⟩)
theorem vn_lstRg {n : Int} (h : Vl ta σ H (.int n)) (h0 : 0 ≤ n) (h1 : n ≤ 1000000) : Vn (tLstRg (tRg1 ta)) σ H ((rng n).map V.int) := fun Q q => h _ ⟨n, rfl, RgOk.of_le (by omega) (by omega) (by omega) h0, fun p np => by
  have e : rgV 0 n = (rng n).map V.int := by
    unfold rgV rng
    rw [List.map_map, Int.sub_zero]
    exact List.map_congr_left fun i _ => by
      rw [Int.zero_add]
      rfl
  rw [e]
  exact q p _ (same_upd np) np upd_same⟩
theorem vl_andV (h1 : Vl ta σ H (.bl k)) (h2 : k = true → Vl tb σ H (.bl m)) : Vl (tAndV ta tb) σ H (.bl (k && m)) := fun Q q => h1 _ ⟨k, rfl, by
  cases k with
  | true => exact iteT (h2 rfl _ q)
  | false => exact iteF q⟩
theorem dB {i j : Bool} : decide (V.bl i = V.bl j) = decide (i = j) := by
  rw [Bool.eq_iff_iff, decide_eq_true_eq, decide_eq_true_eq]
  exact ⟨fun z => V.bl.inj z, fun z => by rw [z]⟩
end
theorem q_dputN {σ : L2.St} {H : Hp} {td ty tv : TE} {D : Ends} {tw : TS} {o : Addr} {p : Int} {kvs : List (Key × V)} {xs : List V} (hv : Vn tv σ H xs) (ho : ∀ H', Same H H' → Vl td σ H' (.ref o)) (hk : ∀ H', Same H H' → Vl ty σ H' (.int p)) (hd : H o = some (.dK kvs)) (hl : kvs.length < sizeLine)
    (k : ∀ a H', Same H H' → H a = none → H' a = some (.lst xs) → tw D σ (upd H' o (.dK (putK kvs (.inl p) (.ref a))))) : tSeq (sDPut td ty tv) tw D σ H := g_dputN (D := { D with nx := tw D }) hv ho hk hd hl k
abbrev sOrder : Stmt := topS 19
theorem scOrder : FnScope ["draws", "k", "size", "order", "place", "at"] ["draws", "k", "size"] (defScope sOrder) := ⟨rfl, rfl, rfl, by decide +kernel, rfl, by decide +kernel, by decide +kernel⟩
def spOrder (K : PySem.W.Frag) : Sp := fun vs H Q _ => ∃ (d : Addr) (ds : List Int) (k n : Int), vs = [.ref d, .int k, .int n] ∧ SqL K H d (ds.map V.int) ∧ 0 ≤ k ∧ 0 ≤ n ∧ n ≤ 40 ∧ ∀ H' p os, Same H H' → H p = none → H' p = some (.lst (os.map V.int)) → OrdOk n os → Q (.ref p) H'
section
variable {P : Program} {w : World} {K : PySem.W.Frag} {mg : Str → Option Value} {base : Heap}
theorem ok_order {f : Addr} {fd : FuncData} (F : Fun K "_law_order" "_law_order" sOrder f fd) (c_law_mix : Kal P w K mg base 1 "_law_mix" ["draws", "k", "many"] (spAt K)) (mr : mg "range" = none) : FnOk P w K mg base CX0 2 f fd ["draws", "k", "size"] (spOrder K) := by
  refine F.ok scOrder (fun vs H Q E h => ?_) (fun cdv A outer s H vs Q E hr h => ?_)
  · obtain ⟨d, ds, k, n, rfl, _⟩ := h
    rfl
  · obtain ⟨d, ds, k, n, rfl, hS, hk, hn0, hn40, q⟩ := h
    refine ⟨_, pss_cons (ps_set (i := 3) scOrder.nd rfl (.inl rfl) (pe_lst pa_nil))
      (pss_cons (ps_for PassesOwn.never rfl (pi_range1 (by rfl) mr (pa_cons (pv 2) pa_nil)) (pg_name (i := 4) scOrder.nd rfl (.inl rfl))
      (pss_cons (ps_set (i := 5) scOrder.nd rfl (.inl rfl) (pe_k c_law_mix hr (by first | decide | omega) (by rfl) (pa_cons (pv 0) (pa_cons (pe_op op_add (pv 1) (pv 4)) (pa_cons (pe_op op_add (pv 4) pe_int) pa_nil)))))
        (pss_one (ps_set (i := 3) scOrder.nd rfl (.inl rfl) (pe_op op_cat (pe_op op_cat (pe_slice sl_list (pv 3) po_none (po_some (pv 5))) (pe_lst (pa_cons (pv 4) pa_nil))) (pe_slice sl_list (pv 3) (po_some (pv 5)) po_none))))))
      (pss_one (ps_ret (pv 3)))), ?_⟩
    refine q_lnew fun o no => ?_
    refine q_forR (n := n) (va_cons (vl_var rfl) va_nil) ⟨by omega, by omega⟩
      (fun i σ H3 => ∃ y4 y5 p os, σ = [some (.ref d), some (.int k), some (.int n), some (.ref p), y4, y5] ∧ Same H H3 ∧ H p = none ∧ H3 p = some (.lst (os.map V.int)) ∧ OrdOk i os)
      ⟨none, none, o, [], rfl, same_upd no, no, upd_same, List.Perm.refl _⟩ (fun i σ H3 hi hP => ?_) (fun σ H3 hP => ?_)
    · obtain ⟨y4, y5, p, os, rfl, s3, np, hp, hos⟩ := hP
      refine q_asgI (P := fun r => 0 ≤ r ∧ r < (i : Int) + 1) (vi_call (va_cons (vl_var rfl) (va_cons (vl_I0 (vl_var rfl) (vl_var rfl)) (va_cons (vl_I0 (vl_var rfl) vl_c) va_nil))) fun Q E q => ⟨d, ds, k + i, (i : Int) + 1, rfl, s3.seq hS, by omega, by omega, q⟩) (fun r hr => ?_)
      obtain ⟨j, rfl⟩ := Int.eq_ofNat_of_zero_le hr.1
      have hl := hos.len
      rw [Int.toNat_natCast] at hl
      have hj : j ≤ os.length := by omega
      refine g_asgN (xs := (os.take j ++ [(i : Int)] ++ os.drop j).map V.int) (vn_catI (vn_catI (vn_toI (vl_var rfl) (vl_var rfl) (.of hp) hj) (fun H' s' => vn_oneI (vl_var rfl)) ?_) (fun H' s' => vn_fromI (vl_var rfl) (vl_var rfl) (.of (s' _ _ hp)) hj) ?_) (fun p2 H4 s4 np2 hp2 => ?_)
      · rw [List.length_take]
        show min j os.length + 1 ≤ 1000000
        omega
      · rw [List.length_append, List.length_take, List.length_drop]
        show min j os.length + 1 + (os.length - j) ≤ 1000000
        omega
      · refine ⟨_, _, p2, _, rfl, s3.trans s4, Same.free s3 np2, hp2, ?_⟩
        unfold OrdOk
        rw [rng_succ]
        have h1 : (os.take j ++ [(i : Int)] ++ os.drop j).Perm ([(i : Int)] ++ (os.take j ++ os.drop j)) := by
          rw [List.append_assoc, ← List.append_assoc [(i : Int)]]
          refine (List.perm_append_comm_assoc _ _ _).trans ?_
          rw [List.append_assoc]
        rw [List.take_append_drop] at h1
        exact (h1.trans List.perm_append_comm).trans (hos.append_right _)
    · obtain ⟨y4, y5, p, os, rfl, s3, np, hp, hos⟩ := hP
      refine g_ret (vl_var rfl) (q H3 p os s3 np hp ?_)
      rw [show ((n.toNat : Nat) : Int) = n by omega] at hos
      exact hos
end
/-! ### ranks -/
def fb (m : Int) : List Int → List Int → Nat → Option Nat
  | _, [], _ => none
  | seen, x :: xs, k => if (0 ≤ x ∧ x < m) ∧ x ∉ seen then fb m (seen ++ [x]) xs (k + 1) else some k
def badAt (os : List Int) : Option Nat := fb os.length [] os 0
def posOf (x : Int) : List Int → Nat
  | [] => 0
  | y :: ys => if y = x then 0 else posOf x ys + 1
def rk (os : List Int) : List Int := (rng os.length).map fun p => (posOf p os : Int)
theorem posOf_get : ∀ {os : List Int} {i : Nat} {x : Int}, os.Nodup → os[i]? = some x → posOf x os = i
  | [], _, _, _, h => by simp at h
  | y :: ys, 0, x, _, h => if_pos (Option.some.inj h)
  | y :: ys, i + 1, x, hn, h => by
    have hn := List.nodup_cons.mp hn
    have h : ys[i]? = some x := h
    have ne : ¬ y = x := fun z => hn.1 (by rw [z]; exact List.mem_of_getElem? h)
    show (if y = x then 0 else posOf x ys + 1) = i + 1
    rw [if_neg ne, posOf_get hn.2 h]
theorem posOf_lt : ∀ {os : List Int} {x : Int}, x ∈ os → os[posOf x os]? = some x
  | y :: ys, x, h => by
    show (y :: ys)[if y = x then 0 else posOf x ys + 1]? = some x
    by_cases e : y = x
    · rw [if_pos e, e]
      rfl
    · rw [if_neg e]
      rcases List.mem_cons.mp h with h | h
      · exact absurd h.symm e
      · exact posOf_lt h
theorem fb_ok {m : Int} : ∀ {xs seen : List Int} {k : Nat}, fb m seen xs k = none → seen.Nodup → (∀ x ∈ seen, 0 ≤ x ∧ x < m) → (seen ++ xs).Nodup ∧ ∀ x ∈ seen ++ xs, 0 ≤ x ∧ x < m
  | [], seen, k, _, hn, hm => by
    rw [List.append_nil]
    exact ⟨hn, hm⟩
  | x :: xs, seen, k, h, hn, hm => by
    have h : (if (0 ≤ x ∧ x < m) ∧ x ∉ seen then fb m (seen ++ [x]) xs (k + 1) else some k) = none := h
    by_cases c : (0 ≤ x ∧ x < m) ∧ x ∉ seen
    · rw [if_pos c] at h
      have := fb_ok h (List.nodup_append.mpr ⟨hn, List.nodup_cons.mpr ⟨List.not_mem_nil, .nil⟩, fun a ha b hb e => c.2 (by
        rw [List.mem_singleton] at hb
        rw [← hb, ← e]
        exact ha)⟩) (fun y hy => by
        rcases List.mem_append.mp hy with hy | hy
        · exact hm y hy
        · rw [List.mem_singleton.mp hy]
          exact c.1)
      rw [List.append_assoc] at this
      exact this
    · rw [if_neg c] at h
      cases h
theorem bad_none {os : List Int} (h : badAt os = none) : OrdOk os.length os := by
  have := fb_ok h .nil (fun _ h => nomatch h)
  exact ord_of this.1 this.2 (Int.toNat_natCast _).symm
theorem fb_none {m : Int} : ∀ {xs seen : List Int} {k : Nat}, (seen ++ xs).Nodup → (∀ x ∈ xs, 0 ≤ x ∧ x < m) → fb m seen xs k = none
  | [], _, _, _, _ => rfl
  | x :: xs, seen, k, hn, hm => by
    have c : (0 ≤ x ∧ x < m) ∧ x ∉ seen := ⟨hm x List.mem_cons_self, fun z => (List.nodup_append.mp hn).2.2 x z x List.mem_cons_self rfl⟩
    show (if (0 ≤ x ∧ x < m) ∧ x ∉ seen then fb m (seen ++ [x]) xs (k + 1) else some k) = none
    rw [if_pos c]
    exact fb_none (by
      rw [List.append_assoc]
      exact hn) fun y hy => hm y (List.mem_cons_of_mem _ hy)
theorem bad_iff {os : List Int} : badAt os = none ↔ OrdOk os.length os := ⟨bad_none, fun h => fb_none (by
  rw [List.nil_append]
  exact h.nodup) fun x hx => h.mem.mp hx⟩
def outAt (os : List Int) (i : Nat) : List Int := (rng os.length).map fun p => if p ∈ os.take i then (posOf p os : Int) else 0
theorem rng_get {n : Int} {p : Nat} (h : p < (rng n).length) : (rng n)[p] = (p : Int) := by
  simp only [rng, List.getElem_map, List.getElem_range]
theorem out_zero {os : List Int} : outAt os 0 = os.map fun _ => (0 : Int) := by
  refine List.ext_getElem ?_ fun p h1 h2 => ?_
  · unfold outAt
    rw [List.length_map, List.length_map, len_rng, Int.toNat_natCast]
  · simp only [outAt, List.getElem_map, List.take_zero, List.not_mem_nil, if_false]
theorem out_succ {os : List Int} {i : Nat} {x : Int} (ok : OrdOk os.length os) (h : os[i]? = some x) : outAt os (i + 1) = (outAt os i).set x.toNat i := by
  have hx := ok.mem.mp (List.mem_of_getElem? h)
  refine List.ext_getElem ?_ fun p h1 h2 => ?_
  · unfold outAt
    rw [List.length_set, List.length_map, List.length_map]
  · rw [List.getElem_set]
    simp only [outAt, List.getElem_map, rng_get]
    rw [take_snoc h]
    by_cases e : x.toNat = p
    · have e2 : (p : Int) = x := by omega
      rw [if_pos e, e2, if_pos (List.mem_append.mpr (.inr (List.mem_singleton.mpr rfl))), posOf_get ok.nodup h]
    · have e2 : ¬ (p : Int) = x := fun z => e (by omega)
      rw [if_neg e]
      by_cases c : (p : Int) ∈ os.take i
      · rw [if_pos c, if_pos (List.mem_append.mpr (.inl c))]
      · rw [if_neg c, if_neg (fun z => by
          rcases List.mem_append.mp z with z | z
          · exact c z
          · exact e2 (List.mem_singleton.mp z))]
theorem out_end {os : List Int} (ok : OrdOk os.length os) : outAt os os.length = rk os := by
  unfold outAt rk
  rw [List.take_length]
  exact List.map_congr_left fun p hp => if_pos (ok.mem.mpr (mem_rng.mp hp))
def dueD (os : List Int) : PyData := match badAt os with
  | some k => .tuple [.str "bad", .int (k : Nat)]
  | none => .tuple [.str "ranks", .list ((rk os).map PyData.int)]
theorem shaped_due (os : List Int) : SeqAt.shaped (dueD os) = true := by
  unfold dueD
  split
  · exact shaped_pair (x := "bad") (by decide +kernel) rfl (Nat.zero_le _)
  · refine shaped_pair (x := "ranks") (by decide +kernel) ?_ ?_
    · exact (lay_ints _).1
    · show PyData.depthAll _ + 1 ≤ 3
      rw [(lay_ints _).2]
      decide
/-- what due's tuple holds -/
def DueAt (K : PySem.W.Frag) (H : Hp) (T : Addr) (os : List Int) : Prop := match badAt os with
  | some k => SqT K H T [.str "bad", .int (k : Nat)]
  | none => ∃ q, SqT K H T [.str "ranks", .ref q] ∧ SqL K H q ((rk os).map V.int)
theorem DueAt.dp {K : PySem.W.Frag} {H : Hp} {T : Addr} {os : List Int} (h : DueAt K H T os) : Dp K H (.ref T) (dueD os) := by
  unfold DueAt at h
  unfold dueD
  cases e : badAt os with
  | some k =>
    rw [e] at h
    exact .tup h (.cons (.str _) (.cons (.int _) .nil))
  | none =>
    rw [e] at h
    obtain ⟨q, h1, h2⟩ := h
    exact .tup h1 (.cons (.str _) (.cons (Dp.ints h2) .nil))
/-! ### neighbours -/
def nearF (a : Int) (l : Lnk) : Option Int := if l.a = a then some l.b else if l.b = a then some l.a else none
def nearOf (a : Int) (ls : List Lnk) : List Int := ls.filterMap (nearF a)
theorem nearF_sum {a : Int} {l : Lnk} : nearF a l = if (l.a = a ∨ l.b = a) then some (l.a + l.b - a) else none := by
  unfold nearF
  by_cases h1 : l.a = a
  · rw [if_pos h1, if_pos (.inl h1)]
    congr 1
    omega
  · rw [if_neg h1]
    by_cases h2 : l.b = a
    · rw [if_pos h2, if_pos (.inr h2)]
      congr 1
      omega
    · rw [if_neg h2, if_neg (by omega)]
theorem nearF_iff {a o : Int} {l : Lnk} (h : l.a < l.b) : nearF a l = some o ↔ (l.a = a ∧ l.b = o) ∨ (l.a = o ∧ l.b = a) := by
  rw [nearF_sum]
  by_cases c : l.a = a ∨ l.b = a
  · rw [if_pos c]
    constructor
    · intro e
      have := Option.some.inj e
      omega
    · intro e
      congr 1
      omega
  · rw [if_neg c]
    constructor
    · intro e
      cases e
    · intro e
      omega
def adj0 (ls : List Lnk) (x y : Int) : Bool := ls.any fun l => decide ((l.a = x ∧ l.b = y) ∨ (l.a = y ∧ l.b = x))
theorem adj0_iff {ls : List Lnk} {x y : Int} : adj0 ls x y = true ↔ ∃ l ∈ ls, (l.a = x ∧ l.b = y) ∨ (l.a = y ∧ l.b = x) := by
  unfold adj0
  rw [List.any_eq_true]
  constructor
  · rintro ⟨l, h, e⟩
    exact ⟨l, h, of_decide_eq_true e⟩
  · rintro ⟨l, h, e⟩
    exact ⟨l, h, decide_eq_true e⟩
theorem split_at {α : Type} {xs : List α} {i : Nat} {x : α} (h : xs[i]? = some x) : xs = xs.take i ++ x :: xs.drop (i + 1) := by
  have hi := (List.getElem?_eq_some_iff.mp h).1
  have e := List.take_append_drop i xs
  rw [List.drop_eq_getElem_cons hi, (List.getElem?_eq_some_iff.mp h).2] at e
  exact e.symm
theorem near_mem {N : Net} (ok : NetOk N) {a o : Int} : o ∈ nearOf a N.ls ↔ adj0 N.ls a o = true := by
  unfold nearOf
  rw [List.mem_filterMap, adj0_iff]
  constructor
  · rintro ⟨l, h, e⟩
    exact ⟨l, h, (nearF_iff (ok.ok l h).ab).mp e⟩
  · rintro ⟨l, h, e⟩
    exact ⟨l, h, (nearF_iff (ok.ok l h).ab).mpr e⟩
theorem near_lt {N : Net} (ok : NetOk N) (a : Int) : (nearOf a N.ls).Pairwise (· < ·) := by
  unfold nearOf
  rw [List.pairwise_filterMap]
  refine List.Pairwise.imp_of_mem (fun {l m} hl hm hlt x hx y hy => ?_) ok.lt
  have h1 := (ok.ok l hl).ab
  have h2 := (ok.ok m hm).ab
  have hx := (nearF_iff h1).mp hx
  have hy := (nearF_iff h2).mp hy
  unfold LnkLt at hlt
  omega
theorem near_nodup {N : Net} (ok : NetOk N) (a : Int) : (nearOf a N.ls).Nodup := (near_lt ok a).imp fun h z => by omega
theorem adj0_in {N : Net} (ok : NetOk N) {x y : Int} (h : adj0 N.ls x y = true) : (0 ≤ x ∧ x < N.n) ∧ (0 ≤ y ∧ y < N.n) ∧ x ≠ y := by
  obtain ⟨l, hl, e⟩ := adj0_iff.mp h
  have := (ok.ok l hl).a0
  have := (ok.ok l hl).ab
  have := (ok.ok l hl).bn
  omega
theorem adj0_sym {ls : List Lnk} {x y : Int} : adj0 ls x y = adj0 ls y x := by
  rw [Bool.eq_iff_iff, adj0_iff, adj0_iff]
  constructor
  · rintro ⟨l, h, e⟩
    exact ⟨l, h, e.symm⟩
  · rintro ⟨l, h, e⟩
    exact ⟨l, h, e.symm⟩
/-! ### the greedy order -/
def joinB (adj : Int → Int → Bool) (b x y : Int) : Bool := adj x y || (adj b x && (adj b y && !decide (x = y)))
def deg (L : List Int) (adj : Int → Int → Bool) (p : Int) : Nat := (L.filter (adj p)).length
def pick (f : Int → Nat) (b : Int) (xs : List Int) : Int := xs.foldl (fun b p => if f p < f b then p else b) b
def gr : Nat → List Int → (Int → Int → Bool) → List Int
  | 0, _, _ => []
  | _ + 1, [], _ => []
  | k + 1, p :: r, adj => pick (deg (p :: r) adj) p (p :: r) :: gr k ((p :: r).erase (pick (deg (p :: r) adj) p (p :: r))) (joinB adj (pick (deg (p :: r) adj) p (p :: r)))
def greedyOf (N : Net) : List Int := gr N.n.toNat (rng N.n) (adj0 N.ls)
theorem pick_or {f : Int → Nat} : ∀ {xs : List Int} {b : Int}, pick f b xs = b ∨ pick f b xs ∈ xs
  | [], b => .inl rfl
  | x :: xs, b => by
    show pick f (if f x < f b then x else b) xs = b ∨ pick f (if f x < f b then x else b) xs ∈ x :: xs
    by_cases c : f x < f b
    · rw [if_pos c]
      rcases pick_or (f := f) (xs := xs) (b := x) with h | h
      · right
        rw [h]
        exact List.mem_cons_self
      · exact .inr (List.mem_cons_of_mem _ h)
    · rw [if_neg c]
      rcases pick_or (f := f) (xs := xs) (b := b) with h | h
      · exact .inl h
      · exact .inr (List.mem_cons_of_mem _ h)
theorem pick_mem {f : Int → Nat} {p : Int} {r : List Int} : pick f p (p :: r) ∈ p :: r := by
  rcases pick_or (f := f) (xs := p :: r) (b := p) with h | h
  · rw [h]
    exact List.mem_cons_self
  · exact h
theorem pick_congr {f g : Int → Nat} : ∀ {xs : List Int} {b : Int}, (∀ x ∈ b :: xs, f x = g x) → pick f b xs = pick g b xs
  | [], _, _ => rfl
  | x :: xs, b, h => by
    show pick f (if f x < f b then x else b) xs = pick g (if g x < g b then x else b) xs
    rw [h x (List.mem_cons_of_mem _ List.mem_cons_self), h b List.mem_cons_self]
    refine pick_congr fun y hy => ?_
    rcases List.mem_cons.mp hy with e | e
    · by_cases c : g x < g b
      · rw [if_pos c] at e
        rw [e]
        exact h x (List.mem_cons_of_mem _ List.mem_cons_self)
      · rw [if_neg c] at e
        rw [e]
        exact h b List.mem_cons_self
    · exact h y (List.mem_cons_of_mem _ (List.mem_cons_of_mem _ e))
structure AdjOk (adj : Int → Int → Bool) : Prop where
  sym : ∀ x y, adj x y = adj y x
  irr : ∀ x, adj x x = false
theorem AdjOk.join {adj : Int → Int → Bool} (h : AdjOk adj) (b : Int) : AdjOk (joinB adj b) where
  sym := fun x y => by
    unfold joinB
    rw [h.sym x y, Bool.and_left_comm, show decide (x = y) = decide (y = x) by
      rw [Bool.eq_iff_iff, decide_eq_true_eq, decide_eq_true_eq]
      exact eq_comm]
  irr := fun x => by
    unfold joinB
    rw [h.irr x, decide_eq_true rfl]
    simp
theorem adj0_ok {N : Net} (ok : NetOk N) : AdjOk (adj0 N.ls) := ⟨fun _ _ => adj0_sym, fun x => by
  cases e : adj0 N.ls x x with
  | false => rfl
  | true => exact absurd rfl (adj0_in ok e).2.2⟩
/-- lists of neighbours that say what adj says of the places left -/
structure NearOk (L : List Int) (adj : Int → Int → Bool) (near : Int → List Int) : Prop where
  nd : ∀ p ∈ L, (near p).Nodup
  mem : ∀ p ∈ L, ∀ o, o ∈ near p ↔ o ∈ L ∧ adj p o = true
theorem sub_len : ∀ {xs ys : List Int}, xs.Nodup → (∀ x ∈ xs, x ∈ ys) → xs.length ≤ ys.length
  | [], _, _, _ => Nat.zero_le _
  | x :: xs, ys, hn, hs => by
    have hn := List.nodup_cons.mp hn
    have hx := hs x List.mem_cons_self
    have e := List.length_erase_of_mem hx
    have h := sub_len (ys := ys.erase x) hn.2 (fun y hy => (List.mem_erase_of_ne (fun z => hn.1 (by rw [← z]; exact hy))).mpr (hs y (List.mem_cons_of_mem _ hy)))
    have := List.length_pos_of_mem hx
    rw [List.length_cons]
    omega
theorem NearOk.deg {L : List Int} {adj : Int → Int → Bool} {near : Int → List Int} (h : NearOk L adj near) (hL : L.Nodup) {p : Int} (hp : p ∈ L) : (near p).length = Ovc.deg L adj p := by
  unfold Ovc.deg
  have hf : (L.filter (adj p)).Nodup := hL.filter _
  have m : ∀ o, o ∈ near p ↔ o ∈ L.filter (adj p) := fun o => by
    rw [h.mem p hp o, List.mem_filter]
  refine Nat.le_antisymm ?_ ?_
  · exact sub_len (h.nd p hp) fun o ho => (m o).mp ho
  · exact sub_len hf fun o ho => (m o).mpr ho
def nearTo (near : Int → List Int) (b p : Int) : List Int := (near p).filter (fun o => !decide (o = b)) ++ (near b).filter fun o => !decide (o = p) && !decide (o ∈ near p)
theorem NearOk.step {L : List Int} {adj : Int → Int → Bool} {near : Int → List Int} (h : NearOk L adj near) (ha : AdjOk adj) (hL : L.Nodup) {b : Int} (hb : b ∈ L) :
    NearOk (L.erase b) (joinB adj b) (fun p => if p ∈ near b then nearTo near b p else near p) where
  nd := fun p hp => by
    have hp2 := (hL.mem_erase_iff.mp hp).2
    show (if p ∈ near b then nearTo near b p else near p).Nodup
    by_cases c : p ∈ near b
    · rw [if_pos c]
      refine List.nodup_append.mpr ⟨(h.nd p hp2).filter _, (h.nd b hb).filter _, fun x hx y hy e => ?_⟩
      have h1 := (List.mem_filter.mp hx).1
      have h2 := (List.mem_filter.mp hy).2
      rw [Bool.and_eq_true, Bool.not_eq_true', Bool.not_eq_true', decide_eq_false_iff_not, decide_eq_false_iff_not] at h2
      exact h2.2 (by rw [← e]; exact h1)
    · rw [if_neg c]
      exact h.nd p hp2
  mem := fun p hp o => by
    have hpb := (hL.mem_erase_iff.mp hp).1
    have hp2 := (hL.mem_erase_iff.mp hp).2
    show o ∈ (if p ∈ near b then nearTo near b p else near p) ↔ o ∈ L.erase b ∧ joinB adj b p o = true
    have j : joinB adj b p o = true ↔ adj p o = true ∨ (adj b p = true ∧ adj b o = true ∧ o ≠ p) := by
      unfold joinB
      rw [Bool.or_eq_true, Bool.and_eq_true, Bool.and_eq_true, Bool.not_eq_true', decide_eq_false_iff_not]
      constructor
      · rintro (h | ⟨h1, h2, h3⟩)
        · exact .inl h
        · exact .inr ⟨h1, h2, fun z => h3 z.symm⟩
      · rintro (h | ⟨h1, h2, h3⟩)
        · exact .inl h
        · exact .inr ⟨h1, h2, fun z => h3 z.symm⟩
    rw [j, hL.mem_erase_iff]
    by_cases c : p ∈ near b
    · rw [if_pos c]
      unfold nearTo
      have hbp := ((h.mem b hb p).mp c).2
      rw [List.mem_append, List.mem_filter, List.mem_filter, Bool.and_eq_true, Bool.not_eq_true', Bool.not_eq_true', Bool.not_eq_true', decide_eq_false_iff_not, decide_eq_false_iff_not, decide_eq_false_iff_not, h.mem p hp2 o, h.mem b hb o]
      constructor
      · rintro (⟨⟨h1, h2⟩, h3⟩ | ⟨⟨h1, h2⟩, h3, h4⟩)
        · exact ⟨⟨h3, h1⟩, .inl h2⟩
        · have ne : o ≠ b := fun z => by
            rw [z, ha.irr] at h2
            cases h2
          exact ⟨⟨ne, h1⟩, .inr ⟨hbp, h2, h3⟩⟩
      · rintro ⟨⟨h1, h2⟩, h3 | ⟨h3, h4, h5⟩⟩
        · exact .inl ⟨⟨h2, h3⟩, h1⟩
        · by_cases d : adj p o = true
          · exact .inl ⟨⟨h2, d⟩, h1⟩
          · exact .inr ⟨⟨h2, h4⟩, h5, fun z => d z.2⟩
    · rw [if_neg c, h.mem p hp2 o]
      have hbp : adj b p ≠ true := fun z => c ((h.mem b hb p).mpr ⟨hp2, z⟩)
      constructor
      · rintro ⟨h1, h2⟩
        have ne : o ≠ b := fun z => by
          rw [z, ha.sym] at h2
          exact hbp h2
        exact ⟨⟨ne, h1⟩, .inl h2⟩
      · rintro ⟨⟨h1, h2⟩, h3 | ⟨h3, _⟩⟩
        · exact ⟨h2, h3⟩
        · exact absurd h3 hbp
theorem left_snoc {n b : Int} {acc : List Int} : (rng n).filter (fun p => !decide (p ∈ acc ++ [b])) = ((rng n).filter fun p => !decide (p ∈ acc)).erase b := by
  rw [List.Nodup.erase_eq_filter (show List.Nodup _ from nodup_rng.filter _) b, List.filter_filter]
  refine List.filter_congr fun p _ => ?_
  rw [Bool.eq_iff_iff]
  simp only [List.mem_append, List.mem_singleton, Bool.not_eq_true', decide_eq_false_iff_not, Bool.and_eq_true, bne_iff_ne, ne_eq, not_or]
  exact And.comm
abbrev sODue : Stmt := topS 22
theorem scODue : FnScope ["order", "seen", "k", "out", "place"] ["order"] (defScope sODue) := ⟨rfl, rfl, rfl, by decide +kernel, rfl, by decide +kernel, by decide +kernel⟩
def spODue (K : PySem.W.Frag) : Sp := fun vs H Q _ => ∃ (p : Addr) (os : List Int), vs = [.ref p] ∧ SqL K H p (os.map V.int) ∧ os.length ≤ 100 ∧ ∀ H' T, Same H H' → DueAt K H' T os → Q (.ref T) H'
section
variable {P : Program} {w : World} {K : PySem.W.Frag} {mg : Str → Option Value} {base : Heap}
theorem ok_odue {f : Addr} {fd : FuncData} {k : Nat} (F : Fun K "_law_due" "_law_due" sODue f fd) (ml : mg "len" = none) (mr : mg "range" = none) : FnOk P w K mg base CX0 (k + 1) f fd ["order"] (spODue K) := by
  refine F.ok scODue (fun vs H Q E h => ?_) (fun cdv A outer s H vs Q E hr h => ?_)
  · obtain ⟨p, os, rfl, _⟩ := h
    rfl
  · obtain ⟨p, os, rfl, hS, hl, q⟩ := h
    refine ⟨_, pss_cons (ps_set (i := 1) scODue.nd rfl (.inl rfl) (pe_lst pa_nil))
      (pss_cons (ps_for PassesOwn.never rfl (pi_range1 (by rfl) mr (pa_cons (pe_callB call_len_seq (by rfl) ml PySem.boot_len (pa_cons (pv 0) pa_nil)) pa_nil)) (pg_name (i := 2) scODue.nd rfl (.inl rfl))
      (pss_cons (ps_if (PW.pt (pw_or (pt_not (pt_chain op_le op_lt pe_int (pe_ix ix_list (pv 0) (pv 2) (fun _ _ => rfl)) (pe_callB call_len_seq (by rfl) ml PySem.boot_len (pa_cons (pv 0) pa_nil)))) (pw_or1 (pt_cmpR op_in_seq (pe_ix ix_list (pv 0) (pv 2) (fun _ _ => rfl)) (pv 1) (by rfl)))))
        (pss_one (ps_ret (pe_tup (pa_cons pe_str (pa_cons (pv 2) pa_nil)))))
        pss_nil)
        (pss_one (ps_expr (pe_bm PySem.F.plainAttrs_list PySem.F.slot_list_append PySem.F.type_list_append mt_append (pv 1) (pa_cons (pe_ix ix_list (pv 0) (pv 2) (fun _ _ => rfl)) pa_nil))))))
      (pss_cons (ps_setLc (i := 3) (own := [("place", 4)]) (g := gName 4) (tt := tYes) (te := (tC (.int 0))) (by rfl) scODue.nd rfl rfl (sw_true rfl rfl rfl (by decide +kernel)) (pi_list (pv 0)) (blkOk_by (own := [("place", 4)]) (N := ["order", "seen", "k", "out", "place"]) (sc := defScope sODue) (by decide +kernel)) (fun _ _ _ _ _ => pg_name (i := 4) scODue.nd rfl (Or.inl rfl)) (fun _ _ _ _ _ => by exact pts_nil) (fun _ _ _ _ _ => by exact pe_int))
      (pss_cons (ps_for PassesOwn.never rfl (pi_range1 (by rfl) mr (pa_cons (pe_callB call_len_seq (by rfl) ml PySem.boot_len (pa_cons (pv 0) pa_nil)) pa_nil)) (pg_name (i := 2) scODue.nd rfl (.inl rfl))
      (pss_one (ps_asg (pv 2) (pg_sub (pv 3) (pe_ix ix_list (pv 0) (pv 2) (fun _ _ => rfl)) set_list))))
      (pss_one (ps_ret (pe_tup (pa_cons pe_str (pa_cons (pv 3) pa_nil)))))))), ?_⟩
    refine q_lnew fun o no => ?_
    refine q_forR (n := (os.length : Int)) (va_cons (vl_lenI (vl_var rfl) ((same_upd no).seq hS)) va_nil) ⟨by omega, by omega⟩
      (fun i σ H3 => ∃ y2, σ = [some (.ref p), some (.ref o), y2, none, none] ∧ Same H (but H3 o) ∧ H3 o = some (.lst ((os.take i).map V.int)) ∧ badAt os = fb os.length (os.take i) (os.drop i) i)
      ⟨none, rfl, same_but (same_upd no) no, upd_same, rfl⟩ (fun i σ H3 hi hP => ?_) (fun σ H3 hP => ?_)
    · obtain ⟨y2, rfl, s3, ho, eb⟩ := hP
      have hi2 : i < os.length := by omega
      have hg : os[i]? = some os[i] := List.getElem?_eq_getElem hi2
      have ed : os.drop i = os[i] :: os.drop (i + 1) := List.drop_eq_getElem_cons hi2
      rw [ed] at eb
      generalize os[i] = x at hg eb
      have sH := s3.trans but_same
      have hS3 := sH.seq hS
      have eb : badAt os = if (0 ≤ x ∧ x < (os.length : Int)) ∧ x ∉ os.take i then fb os.length (os.take i ++ [x]) (os.drop (i + 1)) (i + 1) else some i := eb
      refine q_when (b := !(decide ((0 : Int) ≤ x) && decide (x < (os.length : Int))) || decide (x ∈ os.take i)) ?_ (fun hb => ?_) (fun hb => ?_)
      · exact an_or (an_not (an_test (vl_chainI vl_c (vl_ixI (vl_var rfl) (vl_var rfl) hS3 hg) (vl_lenI (vl_var rfl) hS3)))) fun _ => an_test (vl_inI (vl_ixI (vl_var rfl) (vl_var rfl) hS3 hg) (vl_var rfl) (.of ho))
      · rw [if_neg (fun c => by
          rw [decide_eq_true c.1.1, decide_eq_true c.1.2, decide_eq_false c.2] at hb
          exact absurd hb (by decide))] at eb
        refine ⟨.int i, rfl, by show 2 ≤ sizeLine; decide, fun T nT => q _ T (sH.trans (same_upd nT)) ?_⟩
        unfold DueAt
        rw [eb]
        exact .of upd_same
      · rw [Bool.or_eq_false_iff, Bool.not_eq_false', Bool.and_eq_true, decide_eq_true_eq, decide_eq_true_eq, decide_eq_false_iff_not] at hb
        rw [if_pos hb] at eb
        refine g_app (vl_var rfl) ho (vl_ixI (vl_var rfl) (vl_var rfl) hS3 hg) ?_ ?_
        · rw [List.length_map, List.length_take]
          exact Nat.lt_of_le_of_lt (m := 10000) (by omega) (by decide)
        · refine ⟨_, rfl, ?_, ?_, ?_⟩
          · rw [but_upd]
            exact s3
          · rw [upd_same, take_snoc hg, List.map_append]
            rfl
          · rw [eb, take_snoc hg]
    · obtain ⟨y2, rfl, s3, ho, eb⟩ := hP
      rw [Int.toNat_natCast, List.take_length, List.drop_length] at eb
      have eb : badAt os = none := eb
      have ok := bad_none eb
      have sH := s3.trans but_same
      have hS3 := sH.seq hS
      refine q_asgN (xs := (outAt os 0).map V.int) (vn_lc (xs := os.map V.int) (vx_list (vl_var rfl) hS3) ?_ ?_ fun i x y H' s' hx hy => ?_) fun r H4 s4 nr er => ?_
      · rw [out_zero, List.length_map, List.length_map, List.length_map]
      · rw [out_zero, List.length_map, List.length_map]
        omega
      · rw [out_zero, List.map_map, List.getElem?_map] at hy
        cases e : os[i]? with
        | none =>
          rw [e] at hy
          cases hy
        | some z =>
          rw [e] at hy
          cases hy
          exact ve_of vl_c
      · have hr4 : H r = none := Same.free sH nr
        refine q_forR (n := (os.length : Int)) (va_cons (vl_lenI (vl_var rfl) (s4.seq hS3)) va_nil) ⟨by omega, by omega⟩
          (fun i σ H5 => ∃ y2, σ = [some (.ref p), some (.ref o), y2, some (.ref r), none] ∧ Same H (but H5 r) ∧ H5 r = some (.lst ((outAt os i).map V.int)))
          ⟨y2, rfl, same_but (sH.trans s4) hr4, er⟩ (fun i σ H5 hi hP => ?_) (fun σ H5 hP => ?_)
        · obtain ⟨y2, rfl, s5, hr5⟩ := hP
          have hi2 : i < os.length := by omega
          have hg : os[i]? = some os[i] := List.getElem?_eq_getElem hi2
          generalize os[i] = x at hg
          have hx := ok.mem.mp (List.mem_of_getElem? hg)
          have hS5 := (s5.trans but_same).seq hS
          refine ⟨.int i, rfl, .ref r, rfl, (vl_ixI (K := K) (vl_var rfl) (vl_var rfl) hS5 hg) _ ⟨r, _, x, x.toNat, rfl, rfl, hr5, ?_, ?_⟩⟩
          · unfold ixN
            rw [if_pos hx.1, List.length_map]
            unfold outAt
            rw [List.length_map, len_rng, if_pos (by omega)]
          · refine ⟨_, rfl, ?_, ?_⟩
            · rw [but_upd]
              exact s5
            · rw [upd_same, out_succ ok hg, List.map_set]
        · obtain ⟨y2, rfl, s5, hr5⟩ := hP
          rw [Int.toNat_natCast, out_end ok] at hr5
          refine ⟨.ref r, rfl, by show 2 ≤ sizeLine; decide, fun T nT => q _ T ((s5.trans but_same).trans (same_upd nT)) ?_⟩
          unfold DueAt
          rw [eb]
          exact ⟨r, .of upd_same, .of (same_upd nT _ _ hr5)⟩
end
/-! ### ranks, told -/
def spRanks (K : PySem.W.Frag) (CN : Addr) : Sp := fun vs H Q E => ∃ (p : Addr) (os : List Int), vs = [.ref p] ∧ SqL K H p (os.map V.int) ∧ os.length ≤ 100 ∧
  match badAt os with
  | some k => RaiseTo E H CN (k : Nat)
  | none => ∀ H' q, Same H H' → H q = none → H' q = some (.lst ((rk os).map V.int)) → Q (.ref q) H'
abbrev sOTold : Stmt := topS 21
theorem scOTold : FnScope ["order", "e"] ["order"] (defScope sOTold) := ⟨rfl, rfl, rfl, by decide +kernel, rfl, by decide +kernel, by decide +kernel⟩
def spOTold (K : PySem.W.Frag) : Sp := fun vs H Q _ => ∃ (p : Addr) (os : List Int), vs = [.ref p] ∧ SqL K H p (os.map V.int) ∧ os.length ≤ 100 ∧ ∀ H' T, Same H H' → Dp K H' (.ref T) (dueD os) → Q (.ref T) H'
section
variable {P : Program} {w : World} {K : PySem.W.Frag} {mg : Str → Option Value} {base : Heap} {CN fI : Addr}
theorem ok_otold {f : Addr} {fd : FuncData} {k : Nat} (F : Fun K "_law_told" "_law_told" sOTold f fd) (hN : PySem.LowX.LowTxt K mg "NotAnOrder" CN fI) (c_ranks : KalX P w K mg base k "ranks" ["order"] (spRanks K CN)) : FnOk P w K mg base CX0 (k + 1) f fd ["order"] (spOTold K) := by
  refine F.ok scOTold (fun vs H Q E h => ?_) (fun cdv A outer s H vs Q E hr h => ?_)
  · obtain ⟨p, os, rfl, _⟩ := h
    rfl
  · obtain ⟨p, os, rfl, hS, hl, q⟩ := h
    refine ⟨_, pss_one (ps_try_cl (tb := fun W => tRet (tTup (tCons (tC (.str "ranks")) (tCons (tCallS (spRanks K CN) (WE W) (tCons (tVar 0) tNil)) tNil)))) (Wout := fun _ _ _ _ => False) rfl rfl takes0 (fun W pn xe tk _ => (pss_one (ps_ret (pe_tup (pa_cons pe_str (pa_cons (pe_ks c_ranks hr (by first | decide | omega) (by rfl) tk (pa_cons (pv 0) pa_nil)) pa_nil)))))) (.named (i := 1) (ts := fun a cls d => tRet (tTup (tCons (tC (.str "bad")) (tCons (tByLow CN a cls d (tVar 1)) tNil)))) scOTold.nd rfl rfl ⟨rfl, by decide, .inl hN.gC⟩ (fun a oe cls d pn hz hf => (pss_one (ps_ret (pe_tup (pa_cons pe_str (pa_cons (pe_byLow hN hz hf (pv 1)) pa_nil)))))) .nil)), ?_⟩
    refine ⟨.ref p, rfl, p, os, rfl, hS, hl, ?_⟩
    unfold dueD at q
    cases e : badAt os with
    | none =>
      intro H' r s' nr er
      rw [e] at q
      exact ⟨by show 2 ≤ sizeLine; decide, fun T nT => q _ T (s'.trans (same_upd nT)) (.tup (.of upd_same) (.cons (.str _) (.cons (Dp.ints (.of (same_upd nT _ _ er))) .nil)))⟩
    | some j =>
      rw [e] at q
      intro H' d s' hd
      refine ⟨true, hN.te, fun _ a0 _ => ?_, fun z => nomatch z⟩
      exact ret_pair (K := K) (vl_byLow (vl_var rfl) hd) (.int (j : Nat)) fun p H2 s2 d2 => q H2 p (s'.trans s2) d2
end
/-! ### the law's greedy order -/
/-- [a + b - i for link in links if i in link[:2]] -/
theorem vn_near {K : PySem.W.Frag} {σ : L2.St} {H : Hp} {tl : TE} {i j : Nat} {c : Addr} {xs : List V} {ls : List Lnk} {a : Int} (hv : ∀ x, ((σ.set j none).set j (some x))[i]? = some (some (V.int a))) (hw : ∀ x, ((σ.set j none).set j (some x))[j]? = some (some x)) (hl : Vl tl σ H (.ref c)) (hx : SqL K H c xs) (hL : DpAll K H xs (ls.map lnkD)) (hz : ls.length ≤ 10000) :
    Vn (tLc (iList K tl) (gName j) (tTest (tOp (rIn K false) (tVar i) (tSl (rSlT K) (tVar j) tNoPart (tPart (tC (.int 2)))))) (tOp (rI0 fun i j => .int (i - j)) (tOp (rI0 fun i j => .int (i + j)) (tOp (rIxT K) (tVar j) (tC (.int 0))) (tOp (rIxT K) (tVar j) (tC (.int 1)))) (tVar i)) [j]) σ H ((nearOf a ls).map V.int) := fun Q q => by
  have lx := DpAll.len hL
  rw [List.length_map] at lx
  refine hl _ ⟨c, rfl, ⟨_, hx⟩, fun D nD => lc_list (K := K) (a := c) (xs := xs) (fun k H' => H' D = some (.lst ((nearOf a (ls.take k)).map V.int)) ∧ Same H H') ⟨upd_same, same_upd nD⟩ (fun k H' _ hP => hP.2.seq hx) (fun k x H' hk hP => ?_) (fun H' hP => ?_)⟩
  · obtain ⟨hDk, s'⟩ := hP
    have hkl := (List.getElem?_eq_some_iff.mp hk).1
    have hg : ls[k]? = some ls[k] := List.getElem?_eq_getElem (by omega)
    generalize ls[k] = lk at hg
    obtain ⟨v', ev, dv⟩ := DpAll.get (i := k) (d := lnkD lk) hL (by
      rw [List.getElem?_map, hg]
      rfl)
    cases hk.symm.trans ev
    obtain ⟨tl, rfl, htl⟩ := Dp.lnk_inv dv
    have en : nearOf a (ls.take (k + 1)) = nearOf a (ls.take k) ++ (nearF a lk).toList := by
      unfold nearOf
      rw [take_snoc hg, List.filterMap_append]
      cases e : nearF a lk <;> simp [e]
    refine ⟨?_, ⟨_, hv _, _, hw _, 2, rfl, tl, lnkV lk, rfl, seqT s' htl, fun z => ?_, fun q2 nq2 => ?_⟩⟩
    · show ((σ.set j none).set j (some (V.ref tl))).set j none = σ.set j none
      rw [List.set_set, List.set_set]
    · have := z.2
      rw [show HT.sIx (lnkV lk).length (lnkV lk).length (some 2) = min 2 4 from HT.sIx_nat 4 4 2] at this
      exact absurd (show (2 : Nat) = 4 from this) (by decide)
    · rw [show cutV (lnkV lk) none (some 2) = [.int lk.a, .int lk.b] from cut_to (xs := lnkV lk) (n := 2) (by show 2 ≤ 4; decide)]
      have sq : Same H' (upd H' q2 (.tup [.int lk.a, .int lk.b])) := same_upd nq2
      have nDq : D ≠ q2 := ne_of_none hDk nq2
      have ein : inV (.int a) [V.int lk.a, V.int lk.b] = decide (lk.a = a ∨ lk.b = a) := by
        show (eqV (.int lk.a) (.int a) || (eqV (.int lk.b) (.int a) || false)) = _
        show ((lk.a == a) || ((lk.b == a) || false)) = _
        rw [Bool.or_false, Bool.eq_iff_iff]
        simp
      refine ⟨q2, _, rfl, .inr (.of upd_same), rfl, rfl, _, rfl, ?_⟩
      rw [if_neg Bool.false_ne_true, ein]
      refine ite2 (fun hb => ?_) (fun hb => ?_)
      · have hb := of_decide_eq_true hb
        have ef : nearF a lk = some (lk.a + lk.b - a) := nearF_sum.trans (if_pos hb)
        refine (vl_I0 (vl_I0 (vl_ixT (K := K) (vl_var (hw _)) vl_c (seqT (s'.trans sq) htl) (atI_nat (j := 0) rfl)) (vl_ixT (K := K) (vl_var (hw _)) vl_c (seqT (s'.trans sq) htl) (atI_nat (j := 1) rfl))) (vl_var (hv _))) _ ?_
        refine ⟨_, sq _ _ hDk, ?_, ?_, same_upd' (s'.trans sq) nD⟩
        · rw [List.length_map]
          refine Nat.lt_of_le_of_lt (List.length_filterMap_le _ _) (Nat.lt_of_le_of_lt (m := 10000) ?_ (by decide))
          rw [List.length_take]
          omega
        · rw [upd_same, en, ef, List.map_append]
          rfl
      · have ef : nearF a lk = none := nearF_sum.trans (if_neg (fun z => hb (decide_eq_true z)))
        refine ⟨?_, s'.trans sq⟩
        rw [sq _ _ hDk, en, ef]
        simp
  · obtain ⟨hDk, s'⟩ := hP
    rw [lx, List.take_length] at hDk
    exact q D H' s' nD hDk
theorem pick_snoc {f : Int → Nat} {b x : Int} {xs : List Int} : pick f b (xs ++ [x]) = if f x < f (pick f b xs) then x else pick f b xs := by
  unfold pick
  rw [List.foldl_append]
  rfl
abbrev sGreedyL : Stmt := topS 23
theorem scGreedyL : FnScope ["net", "near", "place", "order", "turn", "left", "best", "others", "link", "other"] ["net"] (defScope sGreedyL) := ⟨rfl, rfl, rfl, by decide +kernel, rfl, by decide +kernel, by decide +kernel⟩
def spGreedy (K : PySem.W.Frag) : Sp := fun vs H Q _ => ∃ (v : V) (N : Net), vs = [v] ∧ Dp K H v (netD N) ∧ NetOk N ∧ ∀ H' p, Same H H' → H p = none → H' p = some (.lst ((greedyOf N).map V.int)) → Q (.ref p) H'
section
variable {P : Program} {w : World} {K : PySem.W.Frag} {mg : Str → Option Value} {base : Heap}
theorem ok_greedyL {f : Addr} {fd : FuncData} {k : Nat} (F : Fun K "_law_greedy" "_law_greedy" sGreedyL f fd) (ml : mg "len" = none) (mr : mg "range" = none) : FnOk P w K mg base CX0 (k + 1) f fd ["net"] (spGreedy K) := by
  refine F.ok scGreedyL (fun vs H Q E h => ?_) (fun cdv A outer s H vs Q E hr h => ?_)
  · obtain ⟨v, N, rfl, _⟩ := h
    rfl
  · obtain ⟨v, N, rfl, hN, okN, q⟩ := h
    have hu := hu_of hr
    refine ⟨_, pss_cons (ps_set (i := 1) scGreedyL.nd rfl (.inr rfl) pe_dnewK)
      (pss_cons (ps_for PassesOwn.never rfl (pi_range1 (by rfl) mr (pa_cons (pe_ix ix_tup (pv 0) pe_int (fun _ _ => rfl)) pa_nil)) (pg_name (i := 2) scGreedyL.nd rfl (.inr rfl))
      (pss_one (ps_dput hu (pv 1) (pv 2) (pe_lc (own := [("link", 8)]) (g := gName 8) (tt := (tTest (tOp (rIn K false) (tVar 2) (tSl (rSlT K) (tVar 8) tNoPart (tPart (tC (.int 2))))))) (te := (tOp (rI0 fun i j => .int (i - j)) (tOp (rI0 fun i j => .int (i + j)) (tOp (rIxT K) (tVar 8) (tC (.int 0))) (tOp (rIxT K) (tVar 8) (tC (.int 1)))) (tVar 2))) (by rfl) scGreedyL.nd (pi_list (pe_ix ix_tup (pv 0) pe_int (fun _ _ => rfl))) (blkOk_by (own := [("link", 8)]) (N := ["net", "near", "place", "order", "turn", "left", "best", "others", "link", "other"]) (sc := defScope sGreedyL) (by decide +kernel)) (fun _ _ _ _ _ => pg_name (i := 8) scGreedyL.nd rfl (Or.inl rfl)) (fun _ _ _ _ _ => by exact (pts_one (pt_cmpR op_in_seq (pv 2) (pe_slice sl_tup (pv 8) po_none (po_some pe_int)) (by rfl)))) (fun _ _ _ _ _ => by exact (pe_op op_sub (pe_op op_add (pe_ix ix_tup (pv 8) pe_int (fun _ _ => rfl)) (pe_ix ix_tup (pv 8) pe_int (fun _ _ => rfl))) (pv 2)))) rfl)))
      (pss_cons (ps_set (i := 3) scGreedyL.nd rfl (.inr rfl) (pe_lst pa_nil))
      (pss_cons (ps_for PassesOwn.never rfl (pi_range1 (by rfl) mr (pa_cons (pe_ix ix_tup (pv 0) pe_int (fun _ _ => rfl)) pa_nil)) (pg_name (i := 4) scGreedyL.nd rfl (.inl rfl))
      (pss_cons (ps_setLc (i := 5) (own := [("place", 2)]) (g := gName 2) (tt := (tTest (tOp (rIn K true) (tVar 2) (tVar 3)))) (te := (tVar 2)) (by rfl) scGreedyL.nd rfl rfl (sw_true rfl rfl rfl (by decide +kernel)) (pi_range1 (by rfl) mr (pa_cons (pe_ix ix_tup (pv 0) pe_int (fun _ _ => rfl)) pa_nil)) (blkOk_by (own := [("place", 2)]) (N := ["net", "near", "place", "order", "turn", "left", "best", "others", "link", "other"]) (sc := defScope sGreedyL) (by decide +kernel)) (fun _ _ _ _ _ => pg_name (i := 2) scGreedyL.nd rfl (Or.inl rfl)) (fun _ _ _ _ _ => by exact (pts_one (pt_cmpR op_notIn_seq (pv 2) (pv 3) (by rfl)))) (fun _ _ _ _ _ => by exact (pv 2)))
        (pss_cons (ps_set (i := 6) scGreedyL.nd rfl (.inr rfl) (pe_ix ix_list (pv 5) pe_int (fun _ _ => rfl)))
        (pss_cons (ps_for PassesOwn.never rfl (pi_list (pv 5)) (pg_name (i := 2) scGreedyL.nd rfl (.inr rfl))
        (pss_one (ps_if (pt_cmpR op_lt (pe_callB call_len_seq (by rfl) ml PySem.boot_len (pa_cons (pe_dget hu (pv 1) (pv 2) (fun _ _ => rfl)) pa_nil)) (pe_callB call_len_seq (by rfl) ml PySem.boot_len (pa_cons (pe_dget hu (pv 1) (pv 6) (fun _ _ => rfl)) pa_nil)) (nomark _))
          (pss_one (ps_set (i := 6) scGreedyL.nd rfl (.inr rfl) (pv 2)))
          pss_nil)))
        (pss_cons (ps_expr (pe_bm PySem.F.plainAttrs_list PySem.F.slot_list_append PySem.F.type_list_append mt_append (pv 3) (pa_cons (pv 6) pa_nil)))
        (pss_one (ps_for PassesOwn.never rfl (pi_list (pe_dget hu (pv 1) (pv 6) (fun _ _ => rfl))) (pg_name (i := 2) scGreedyL.nd rfl (.inr rfl))
        (pss_cons (ps_setLc (i := 7) (own := [("other", 9)]) (g := gName 9) (tt := (tAnd (tTest (tOp rNe (tVar 9) (tVar 2))) (tTest (tOp (rIn K true) (tVar 9) (tDGet (tVar 1) (tVar 2)))))) (te := (tVar 9)) (by rfl) scGreedyL.nd rfl rfl (sw_true rfl rfl rfl (by decide +kernel)) (pi_list (pe_dget hu (pv 1) (pv 6) (fun _ _ => rfl))) (blkOk_by (own := [("other", 9)]) (N := ["net", "near", "place", "order", "turn", "left", "best", "others", "link", "other"]) (sc := defScope sGreedyL) (by decide +kernel)) (fun _ _ _ _ _ => pg_name (i := 9) scGreedyL.nd rfl (Or.inl rfl)) (fun _ _ _ _ _ => by exact (pts_one (PW.pt (pw_and (pt_cmpR op_ne (pv 9) (pv 2) (nomark _)) (pw_and1 (pt_cmpR op_notIn_seq (pv 9) (pe_dget hu (pv 1) (pv 2) (fun _ _ => rfl)) (by rfl))))))) (fun _ _ _ _ _ => by exact (pv 9)))
          (pss_one (ps_dput hu (pv 1) (pv 2) (pe_op op_cat (pe_lc (own := [("other", 9)]) (g := gName 9) (tt := (tTest (tOp rNe (tVar 9) (tVar 6)))) (te := (tVar 9)) (by rfl) scGreedyL.nd (pi_list (pe_dget hu (pv 1) (pv 2) (fun _ _ => rfl))) (blkOk_by (own := [("other", 9)]) (N := ["net", "near", "place", "order", "turn", "left", "best", "others", "link", "other"]) (sc := defScope sGreedyL) (by decide +kernel)) (fun _ _ _ _ _ => pg_name (i := 9) scGreedyL.nd rfl (Or.inl rfl)) (fun _ _ _ _ _ => by exact (pts_one (pt_cmpR op_ne (pv 9) (pv 6) (nomark _)))) (fun _ _ _ _ _ => by exact (pv 9))) (pv 7)) rfl))))))))))
      (pss_one (ps_ret (pv 3)))))), ?_⟩
    obtain ⟨p, c, xs, rfl, hp, hc, hx⟩ := Dp.net_inv hN
    have n1 := okN.n1
    have n40 := okN.n40
    have l16 := okN.len
    refine q_dnewK fun o no => ?_
    have so : Same H (upd H o (.dK [])) := same_upd no
    refine q_forR (n := N.n) (va_cons (vl_ixT (vl_var rfl) vl_c (seqT so hp) (atI_nat (j := 0) rfl)) va_nil) ⟨by omega, by omega⟩
      (fun i σ H3 => ∃ y2 kvs, σ = [some (.ref p), some (.ref o), y2, none, none, none, none, none, none, none] ∧ H3 o = some (.dK kvs) ∧ Same H (but H3 o) ∧ kvs.length ≤ i ∧ ∀ x : Int, 0 ≤ x → x < i → ∃ a, valV kvs (.inl x) = some (.ref a) ∧ SqL K (but H3 o) a ((nearOf x N.ls).map V.int))
      ⟨none, [], rfl, upd_same, same_but so no, Nat.le_refl _, fun x h0 h1 => by omega⟩ (fun i σ H3 hi hP => ?_) (fun σ H3 hP => ?_)
    · obtain ⟨y2, kvs, rfl, ho, s3, hk, hA⟩ := hP
      have sH := s3.trans but_same
      refine g_dputN (vn_near (i := 2) (j := 8) (a := (i : Int)) (fun _ => rfl) (fun _ => rfl) (vl_ixT (vl_var rfl) vl_c (seqT sH hp) (atI_nat (j := 1) rfl)) (sH.seq hc) (DpAll.to hx sH) (by omega)) (fun _ _ => vl_var rfl) (fun _ _ => vl_var rfl) ho ?_ (fun a H4 s4 na ea => ?_)
      · exact Nat.lt_of_le_of_lt (m := 10000) (by omega) (by decide)
      · have oa : o ≠ a := ne_of_none ho na
        refine ⟨_, _, rfl, upd_same, ?_, Nat.le_trans (length_putK _ _ _) (Nat.succ_le_succ hk), fun x h0 h1 => ?_⟩
        · rw [but_upd]
          exact s3.trans (but_mono s4)
        · rw [valV_put, but_upd]
          by_cases e : x = (i : Int)
          · rw [if_pos (by rw [e])]
            refine ⟨a, rfl, .of ?_⟩
            rw [but_ne oa.symm, ea, e]
          · rw [if_neg (fun z => e (Sum.inl.inj z))]
            obtain ⟨b, hb1, hb2⟩ := hA x h0 (by omega)
            exact ⟨b, hb1, (but_mono s4).seq hb2⟩
    · obtain ⟨y2, kvs, rfl, ho, s3, hk, hA⟩ := hP
      rw [show ((N.n.toNat : Nat) : Int) = N.n by omega] at hA
      have sH := s3.trans but_same
      refine q_lnew fun r nr => ?_
      have orn : o ≠ r := ne_of_none ho nr
      have sr : Same H3 (upd H3 r (.lst [])) := same_upd nr
      have nrH : H r = none := Same.free sH nr
      refine q_forR (n := N.n) (va_cons (vl_ixT (vl_var rfl) vl_c (seqT (sH.trans sr) hp) (atI_nat (j := 0) rfl)) va_nil) ⟨by omega, by omega⟩
        (fun i σ H3 => ∃ y2 y4 y5 y6 y7 kvs acc L adj near, σ = [some (.ref p), some (.ref o), y2, some (.ref r), y4, y5, y6, y7, none, none] ∧ H3 o = some (.dK kvs) ∧ H3 r = some (.lst (acc.map V.int)) ∧ Same H (B2 H3 o r) ∧ kvs.length ≤ 40 ∧
          (∀ x : Int, 0 ≤ x → x < N.n → ∃ a, valV kvs (.inl x) = some (.ref a) ∧ SqL K (B2 H3 o r) a ((near x).map V.int)) ∧ L = (rng N.n).filter (fun p => !decide (p ∈ acc)) ∧ L.length + i = N.n.toNat ∧ acc.length = i ∧ NearOk L adj near ∧ AdjOk adj ∧ greedyOf N = acc ++ gr (N.n.toNat - i) L adj)
        ⟨y2, none, none, none, none, kvs, [], rng N.n, adj0 N.ls, fun x => nearOf x N.ls, rfl, sr _ _ ho, upd_same, same_b2 (sH.trans sr) no nrH, by omega, ?_, ?_, by rw [len_rng]; rfl, rfl, ?_, adj0_ok okN, rfl⟩ (fun i σ H3 hi hP => ?_) (fun σ H3 hP => ?_)
      · intro x h0 h1
        obtain ⟨a, h2, h3⟩ := hA x h0 h1
        refine ⟨a, h2, ?_⟩
        unfold B2
        have hb : Same (but H3 o) (but (but (upd H3 r (.lst [])) o) r) := same_but (but_mono sr) (by rw [but_ne orn.symm]; exact nr)
        exact hb.seq h3
      · exact (List.filter_eq_self.mpr fun x _ => rfl).symm
      · exact ⟨fun x _ => near_nodup okN x, fun x hx o => by
          show o ∈ nearOf x N.ls ↔ _
          rw [near_mem okN]
          exact ⟨fun h => ⟨mem_rng.mpr (adj0_in okN h).2.1, h⟩, fun h => h.2⟩⟩
      · obtain ⟨y2, y4, y5, y6, y7, kvs, acc, L, adj, near, rfl, ho, hr3, s3, hk, hA, eL, hLl, hal, nok, aok, eg⟩ := hP
        have sH := s3.trans b2_same
        have hLn : L.Nodup := by
          rw [eL]
          exact nodup_rng.filter _
        have hLm : ∀ x ∈ L, 0 ≤ x ∧ x < N.n := fun x hx => by
          rw [eL] at hx
          exact mem_rng.mp (List.mem_filter.mp hx).1
        have hnl : ∀ x ∈ L, (near x).length ≤ 40 := fun x hx => by
          have := sub_len (ys := rng N.n) (nok.nd x hx) fun y hy => mem_rng.mpr (hLm y ((nok.mem x hx y).mp hy).1)
          rw [len_rng] at this
          omega
        -- left
        refine q_asgN (xs := L.map V.int) (by
          rw [eL]
          exact vn_lcR (pb := fun p => !decide (p ∈ acc)) (f := V.int) (va_cons (vl_ixT (vl_var rfl) vl_c (seqT sH hp) (atI_nat (j := 0) rfl)) va_nil) (by omega) (by omega) (fun x _ _ H' s' => an_test (vl_notInI (vl_var rfl) (vl_var rfl) (.of (s' _ _ hr3)))) (fun x _ _ H' s' => vl_var rfl)) fun pl H4 s4 npl epl => ?_
        have ho4 := s4 _ _ ho
        have hr4 := s4 _ _ hr3
        have s34 := s3.trans (b2_mono s4)
        have hA4 : ∀ x : Int, 0 ≤ x → x < N.n → ∃ a, valV kvs (.inl x) = some (.ref a) ∧ SqL K (B2 H4 o r) a ((near x).map V.int) := fun x h0 h1 => by
          obtain ⟨a, h2, h3⟩ := hA x h0 h1
          exact ⟨a, h2, (b2_mono s4).seq h3⟩
        clear hA
        obtain ⟨p0, rr, eLc⟩ : ∃ p0 rr, L = p0 :: rr := by
          cases L with
          | nil =>
            have : (0 : Nat) + i = N.n.toNat := hLl
            omega
          | cons p0 rr => exact ⟨p0, rr, rfl⟩
        refine q_asg (vl_ixI (j := 0) (vl_var rfl) vl_c (.of epl) (by rw [eLc]; rfl)) ?_
        -- best
        refine q_forL (xs := L.map V.int) (vl_var rfl) (.of epl)
          (fun j σ' H' => H' = H4 ∧ ∃ y2, σ' = [some (.ref p), some (.ref o), y2, some (.ref r), some (.int i), some (.ref pl), some (.int (pick (deg L adj) p0 (L.take j))), y7, none, none])
          ⟨rfl, _, rfl⟩ (fun j σ' H' hP => ?_) (fun j x σ' H' hx hP => ?_) (fun σ' H' hP => ?_)
        · rw [hP.1]
          exact .of epl
        · obtain ⟨rfl, y2, rfl⟩ := hP
          rw [List.getElem?_map] at hx
          cases hg : L[j]? with
          | none =>
            rw [hg] at hx
            cases hx
          | some z =>
            rw [hg] at hx
            cases hx
            have hz := List.mem_of_getElem? hg
            have hb : pick (deg L adj) p0 (L.take j) ∈ L := by
              rcases pick_or (f := deg L adj) (xs := L.take j) (b := p0) with h | h
              · rw [h, eLc]
                exact List.mem_cons_self
              · exact List.mem_of_mem_take h
            rw [take_snoc hg, pick_snoc]
            generalize pick (deg L adj) p0 (L.take j) = bb at hb ⊢
            obtain ⟨az, hz1, hz2⟩ := hA4 z (hLm z hz).1 (hLm z hz).2
            obtain ⟨ab, hb1, hb2⟩ := hA4 bb (hLm bb hb).1 (hLm bb hb).2
            refine g_when (b := decide (deg L adj z < deg L adj bb)) ((an_test (vl_I0 (vl_lenI (vl_dgetI (vl_var rfl) (vl_var rfl) ho4 hz1) (b2_same.seq hz2)) (vl_lenI (vl_dgetI (vl_var rfl) (vl_var rfl) ho4 hb1) (b2_same.seq hb2)))).is ?_) (fun h => ?_) (fun h => ?_)
            · rw [← nok.deg hLn hz, ← nok.deg hLn hb, Bool.eq_iff_iff, decide_eq_true_eq, decide_eq_true_eq]
              omega
            · rw [if_pos (of_decide_eq_true h)]
              exact g_asg (vl_var rfl) ⟨rfl, _, rfl⟩
            · rw [if_neg (of_decide_eq_false h)]
              exact ⟨rfl, _, rfl⟩
        · obtain ⟨rfl, y2, rfl⟩ := hP
          rw [List.length_map, List.take_length]
          have hbm : pick (deg L adj) p0 L ∈ L := by
            rw [eLc]
            exact pick_mem
          have eg2 : greedyOf N = (acc ++ [pick (deg L adj) p0 L]) ++ gr (N.n.toNat - (i + 1)) (L.erase (pick (deg L adj) p0 L)) (joinB adj (pick (deg L adj) p0 L)) := by
            rw [eg, show N.n.toNat - i = (N.n.toNat - (i + 1)) + 1 by omega, List.append_assoc]
            congr 1
            rw [eLc]
            rfl
          generalize pick (deg L adj) p0 L = b at hbm eg2
          refine q_app (vl_var rfl) hr4 (vl_var rfl) ?_ ?_
          · rw [List.length_map]
            exact Nat.lt_of_le_of_lt (m := 10000) (by omega) (by decide)
          have rpl : r ≠ pl := ne_of_none hr3 npl
          have opl : o ≠ pl := ne_of_none ho npl
          have e5 : (acc.map V.int ++ [V.int b]) = (acc ++ [b]).map V.int := by
            rw [List.map_append]
            rfl
          rw [e5]
          have ho5 : upd H' r (.lst ((acc ++ [b]).map V.int)) o = some (.dK kvs) := by
            rw [upd_ne orn]
            exact ho4
          have hr5 : upd H' r (.lst ((acc ++ [b]).map V.int)) r = some (.lst ((acc ++ [b]).map V.int)) := upd_same
          have s5 : Same H (B2 (upd H' r (.lst ((acc ++ [b]).map V.int))) o r) := by
            rw [b2_upd2]
            exact s34
          have hA5 : ∀ x : Int, 0 ≤ x → x < N.n → ∃ a, valV kvs (.inl x) = some (.ref a) ∧ SqL K (B2 (upd H' r (.lst ((acc ++ [b]).map V.int))) o r) a ((near x).map V.int) := by
            rw [b2_upd2]
            exact hA4
          generalize upd H' r (.lst ((acc ++ [b]).map V.int)) = H5 at ho5 hr5 s5 hA5 ⊢
          obtain ⟨ab, hb1, hb2⟩ := hA5 b (hLm b hbm).1 (hLm b hbm).2
          have hnb := hnl b hbm
          refine g_forL (xs := (near b).map V.int) (vl_dgetI (vl_var rfl) (vl_var rfl) ho5 hb1) (b2_same.seq hb2)
            (fun t σ' H' => ∃ y2 y7 kvs, σ' = [some (.ref p), some (.ref o), y2, some (.ref r), some (.int i), some (.ref pl), some (.int b), y7, none, none] ∧ H' o = some (.dK kvs) ∧ H' r = some (.lst ((acc ++ [b]).map V.int)) ∧ Same H (B2 H' o r) ∧ Same (B2 H5 o r) (B2 H' o r) ∧ kvs.length ≤ 40 ∧
              valV kvs (.inl b) = some (.ref ab) ∧ ∀ x : Int, 0 ≤ x → x < N.n → ∃ a, valV kvs (.inl x) = some (.ref a) ∧ SqL K (B2 H' o r) a ((if x ∈ (near b).take t then nearTo near b x else near x).map V.int))
            ⟨_, _, kvs, rfl, ho5, hr5, s5, Same.refl _, hk, hb1, fun x h0 h1 => by
              rw [List.take_zero, if_neg List.not_mem_nil]
              exact hA5 x h0 h1⟩ (fun t σ' H' hP => ?_) (fun t x σ' H' hx hP => ?_) (fun σ' H' hP => ?_)
          · obtain ⟨_, _, _, _, _, _, _, h5, _⟩ := hP
            exact b2_same.seq (h5.seq hb2)
          · obtain ⟨y2, y7, kvs, rfl, ho6, hr6, s6, s56, hk6, hkb, hA6⟩ := hP
            rw [List.getElem?_map] at hx
            cases hg : (near b)[t]? with
            | none =>
              rw [hg] at hx
              cases hx
            | some z =>
              rw [hg] at hx
              cases hx
              have hzb := List.mem_of_getElem? hg
              have hzL := ((nok.mem b hbm z).mp hzb).1
              have hzr := hLm z hzL
              have znb : z ≠ b := fun e => by
                have := ((nok.mem b hbm z).mp hzb).2
                rw [e, aok.irr] at this
                cases this
              have hzt : z ∉ (near b).take t := fun h => by
                have hn := nok.nd b hbm
                have e := split_at hg
                rw [e] at hn
                exact (List.nodup_append.mp hn).2.2 z h z List.mem_cons_self rfl
              obtain ⟨az, hz1, hz2⟩ := hA6 z hzr.1 hzr.2
              rw [if_neg hzt] at hz2
              have hnz := hnl z hzL
              have hbS := b2_same.seq (s56.seq hb2)
              have hzS := b2_same.seq hz2
              -- others
              refine q_asgN (vn_lcI (ns := near b) (pb := fun o => !decide (o = z) && !decide (o ∈ near z)) (f := V.int) (vx_list (vl_dgetI (vl_var rfl) (vl_var rfl) ho6 hkb) hbS) (by omega) (fun x hx H' s' => an_and ((an_test (vl_ne (vl_var rfl) (vl_var rfl) rfl)).is (by rw [dI])) fun _ => an_test (vl_notInI (vl_var rfl) (vl_dgetI (vl_var rfl) (vl_var rfl) (s' _ _ ho6) hz1) (s'.seq hzS))) (fun x hx H' s' => vl_var rfl)) fun ot H7 s7 not eot => ?_
              have ho7 := s7 _ _ ho6
              have hzS7 := s7.seq hzS
              have fl : ((near z).filter fun o => !decide (o = b)).length ≤ 40 := Nat.le_trans (List.length_filter_le _ _) hnz
              have fl2 : ((near b).filter fun o => !decide (o = z) && !decide (o ∈ near z)).length ≤ 40 := Nat.le_trans (List.length_filter_le _ _) hnb
              refine g_dputN (xs := (nearTo near b z).map V.int) (by
                unfold nearTo
                rw [List.map_append]
                refine vn_catV (K := K) (vn_lcI (ns := near z) (pb := fun o => !decide (o = b)) (f := V.int) (vx_list (vl_dgetI (vl_var rfl) (vl_var rfl) ho7 hz1) hzS7) (by omega) (fun x hx H' s' => (an_test (vl_ne (vl_var rfl) (vl_var rfl) rfl)).is (by rw [dI])) (fun x hx H' s' => vl_var rfl)) (fun _ _ => vl_var rfl) eot ?_
                rw [List.length_map, List.length_map]
                exact Nat.le_trans (show _ ≤ 80 by omega) (by decide)) (fun _ _ => vl_var rfl) (fun _ _ => vl_var rfl) ho7 ?_ (fun a H8 s8 na ea => ?_)
              · exact Nat.lt_of_le_of_lt (m := 10000) (by omega) (by decide)
              · have s78 := s7.trans s8
                have ao : a ≠ o := (ne_of_none ho7 na).symm
                have ar : a ≠ r := (ne_of_none (s7 _ _ hr6) na).symm
                refine ⟨_, _, _, rfl, upd_same, ?_, ?_, ?_, ?_, ?_, fun x h0 h1 => ?_⟩
                · rw [upd_ne orn.symm]
                  exact s78 _ _ hr6
                · rw [b2_upd1]
                  exact s6.trans (b2_mono s78)
                · rw [b2_upd1]
                  exact s56.trans (b2_mono s78)
                · rw [putK_len (by rw [hz1]; rfl)]
                  exact hk6
                · rw [valV_put, if_neg (fun e => znb (Sum.inl.inj e).symm)]
                  exact hkb
                · rw [valV_put, b2_upd1, take_snoc hg]
                  by_cases e : x = z
                  · subst e
                    rw [if_pos rfl, if_pos (List.mem_append.mpr (.inr (List.mem_singleton.mpr rfl)))]
                    exact ⟨a, rfl, .of (b2_get ea ao ar)⟩
                  · rw [if_neg (fun h => e (Sum.inl.inj h))]
                    obtain ⟨a2, h2, h3⟩ := hA6 x h0 h1
                    refine ⟨a2, h2, ?_⟩
                    have e2 : (x ∈ (near b).take t ++ [z]) ↔ x ∈ (near b).take t := by
                      rw [List.mem_append, List.mem_singleton]
                      exact ⟨fun h => h.elim id fun z => absurd z e, .inl⟩
                    simp only [e2]
                    exact (b2_mono s78).seq h3
          · obtain ⟨y2, y7, kvs, rfl, ho6, hr6, s6, s56, hk6, hkb, hA6⟩ := hP
            rw [List.length_map, List.take_length] at hA6
            refine ⟨_, _, _, _, _, kvs, acc ++ [b], L.erase b, joinB adj b, fun x => if x ∈ near b then nearTo near b x else near x, rfl, ho6, hr6, s6, hk6, hA6, ?_, ?_, ?_, nok.step aok hLn hbm, aok.join b, eg2⟩
            · rw [left_snoc, ← eL]
            · have := List.length_erase_of_mem hbm
              have := List.length_pos_of_mem hbm
              omega
            · rw [List.length_append, hal]
              rfl
      · obtain ⟨y2, y4, y5, y6, y7, kvs, acc, L, adj, near, rfl, ho, hr3, s3, hk, hA, eL, hLl, hal, nok, aok, eg⟩ := hP
        rw [Nat.sub_self] at eg
        have eg : greedyOf N = acc ++ [] := eg
        rw [List.append_nil] at eg
        refine g_ret (vl_var rfl) (q H3 r (s3.trans b2_same) nrH ?_)
        rw [eg]
        exact hr3
end
/-! ### the law of orders -/
def spIsOrder (K : PySem.W.Frag) : Sp := fun vs H Q _ => ∃ (v : V) (N : Net) (p : Addr) (os : List Int), vs = [v, .ref p] ∧ Dp K H v (netD N) ∧ NetOk N ∧ SqL K H p (os.map V.int) ∧ os.length ≤ 60 ∧ ∀ H' (b : Bool), Same H H' → (b = true ↔ OrdOk N.n os) → Q (.bl b) H'
theorem ord_iff {n : Int} {os : List Int} (h0 : 0 ≤ n) : OrdOk n os ↔ badAt os = none ∧ (os.length : Int) = n := by
  constructor
  · intro h
    have hl := h.len
    have e : (os.length : Int) = n := by omega
    exact ⟨bad_iff.mpr (by rw [e]; exact h), e⟩
  · rintro ⟨h1, h2⟩
    rw [← h2]
    exact bad_iff.mp h1
abbrev sLaw : Stmt := topS 24
theorem scLaw : FnScope ["script", "draws", "net", "order", "place", "value", "lists", "other", "kept", "due", "told"] ["script"] (defScope sLaw) := ⟨rfl, rfl, rfl, by decide +kernel, rfl, by decide +kernel, by decide +kernel⟩
def spLaw (K : PySem.W.Frag) : Sp := fun vs H Q _ => ∃ (a : Addr) (ns : List Int), vs = [.ref a] ∧ SqL K H a (ns.map V.int) ∧ ns.length ≤ 63 ∧ ∀ H', Q (.bl true) H'
section
variable {P : Program} {w : World} {K : PySem.W.Frag} {mg : Str → Option Value} {base : Heap}
theorem ok_law {f : Addr} {fd : FuncData} {k1 k2 k3 k4 : Nat} (h1 : k1 ≤ 8) (h2 : k2 ≤ 8) (h3 : k3 ≤ 8) (h4 : k4 ≤ 8) (F : Fun K "law" "law" sLaw f fd) (c_law_draws : Kal P w K mg base 1 "_law_draws" ["script"] (spDraws K)) (c_law_at : Kal P w K mg base 1 "_law_at" ["draws", "k", "many"] (spAt K)) (c_law_net : Kal P w K mg base 3 "_law_net" ["draws", "k", "most"] (spNet K))
    (c_law_order : Kal P w K mg base 2 "_law_order" ["draws", "k", "size"] (spOrder K)) (c_law_due : Kal P w K mg base 1 "_law_due" ["order"] (spODue K)) (c_is_order : Kal P w K mg base k1 "is_order" ["net", "order"] (spIsOrder K)) (c_law_told : Kal P w K mg base k2 "_law_told" ["order"] (spOTold K))
    (c_greedy_order : Kal P w K mg base k3 "greedy_order" ["net"] (spGreedy K)) (c_law_greedy : Kal P w K mg base k4 "_law_greedy" ["net"] (spGreedy K)) (mi : mg "int" = none) (mL : mg "list" = none) (mr : mg "range" = none) (ml : mg "len" = none) (ms : mg "isinstance" = none) (mb : mg "bool" = none) : FnOk P w K mg base CX0 9 f fd ["script"] (spLaw K) := by
  refine F.ok scLaw (fun vs H Q E h => ?_) (fun cdv A outer s H vs Q E hr h => ?_)
  · obtain ⟨a, ns, rfl, _⟩ := h
    rfl
  · obtain ⟨a, ns, rfl, hS, hlen, q⟩ := h
    refine ⟨_, pss_cons (ps_set (i := 1) scLaw.nd rfl (.inl rfl) (pe_k c_law_draws hr (by first | decide | omega) (by rfl) (pa_cons (pv 0) pa_nil)))
      (pss_cons (ps_set (i := 2) scLaw.nd rfl (.inl rfl) (pe_k c_law_net hr (by first | decide | omega) (by rfl) (pa_cons (pv 1) (pa_cons pe_int (pa_cons (pe_ix ix_list (pe_lst (pa_cons pe_int (pa_cons pe_int pa_nil))) (pe_callTy call_int1 (by rfl) mi (by decide +kernel) (pa_cons (pe_cmpR op_eq (pe_k c_law_at hr (by first | decide | omega) (by rfl) (pa_cons (pv 1) (pa_cons pe_int (pa_cons pe_int pa_nil)))) pe_int (nomark _)) pa_nil)) (fun _ _ => rfl)) pa_nil)))))
      (pss_cons (ps_set (i := 3) scLaw.nd rfl (.inl rfl) (pe_k c_law_order hr (by first | decide | omega) (by rfl) (pa_cons (pv 1) (pa_cons pe_int (pa_cons (pe_ix ix_tup (pv 2) pe_int (fun _ _ => rfl)) pa_nil)))))
      (pss_cons (ps_set (i := 4) scLaw.nd rfl (.inl rfl) (pe_k c_law_at hr (by first | decide | omega) (by rfl) (pa_cons (pv 1) (pa_cons pe_int (pa_cons (pe_ix ix_tup (pv 2) pe_int (fun _ _ => rfl)) pa_nil)))))
      (pss_cons (ps_set (i := 5) scLaw.nd rfl (.inl rfl) (pe_op op_sub (pe_k c_law_at hr (by first | decide | omega) (by rfl) (pa_cons (pv 1) (pa_cons pe_int (pa_cons (pe_op op_add (pe_ix ix_tup (pv 2) pe_int (fun _ _ => rfl)) pe_int) pa_nil)))) pe_int))
      (pss_cons (ps_set (i := 6) scLaw.nd rfl (.inl rfl) (pe_lst (pa_cons (pv 3) (pa_cons (pe_op op_cat (pe_op op_cat (pe_slice sl_list (pv 3) po_none (po_some (pv 4))) (pe_lst (pa_cons (pv 5) pa_nil))) (pe_slice sl_list (pv 3) (po_some (pe_op op_add (pv 4) pe_int)) po_none)) (pa_cons (pe_op op_cat (pe_slice sl_list (pv 3) po_none (po_some (pv 4))) (pe_slice sl_list (pv 3) (po_some (pe_op op_add (pv 4) pe_int)) po_none)) (pa_cons (pe_lst pa_nil) pa_nil))))))
      (pss_cons (ps_set (i := 6) scLaw.nd rfl (.inl rfl) (pe_op op_cat (pv 6) (pe_lst (pa_cons (pe_op op_cat (pv 3) (pe_lst (pa_cons (pv 5) pa_nil))) (pa_cons (pe_revL (pv 3)) (pa_cons (pe_listRg rfl (by rfl) mL (prg_1 (by rfl) mr (pe_ix ix_tup (pv 2) pe_int (fun _ _ => rfl)))) pa_nil))))))
      (pss_cons (ps_for PassesOwn.never rfl (pi_list (pv 6)) (pg_name (i := 7) scLaw.nd rfl (.inl rfl))
      (pss_cons (ps_set (i := 8) scLaw.nd rfl (.inl rfl) (pe_callTy call_list_of (by rfl) mL (by decide +kernel) (pa_cons (pv 7) pa_nil)))
        (pss_cons (ps_set (i := 9) scLaw.nd rfl (.inl rfl) (pe_k c_law_due hr (by first | decide | omega) (by rfl) (pa_cons (pv 8) pa_nil)))
        (pss_cons (ps_set (i := 10) scLaw.nd rfl (.inl rfl) (pe_k c_is_order hr (by first | decide | omega) (by rfl) (pa_cons (pv 2) (pa_cons (pv 7) pa_nil))))
        (pss_cons (ps_if (PW.pt (pw_or (pt_not (pt_val (pe_callB call_isi (by rfl) ms (by decide +kernel) (pa_cons (pv 10) (pa_cons (pe_bltn (v := .ty "bool") (by rfl) mb (by decide +kernel) rfl) pa_nil))))) (pw_or (pt_cmpR op_ne (pv 10) (pe_and (pe_cmpR op_eq (pe_ix ix_tup (pv 9) pe_int (fun _ _ => rfl)) pe_str (nomark _)) (pe_one (pe_cmpR op_eq (pe_callB call_len_seq (by rfl) ml PySem.boot_len (pa_cons (pv 8) pa_nil)) (pe_ix ix_tup (pv 2) pe_int (fun _ _ => rfl)) (nomark _)))) (nomark _)) (pw_or1 (pt_cmpR (op_neD hr.units) (pv 7) (pv 8) (nomark _))))))
        (pss_one (ps_ret pe_bl))
        pss_nil)
        (pss_one (ps_if (PW.pt (pw_or (pt_cmpR (op_neD hr.units) (pe_k c_law_told hr (by first | decide | omega) (by rfl) (pa_cons (pv 7) pa_nil)) (pv 9) (nomark _)) (pw_or1 (pt_cmpR (op_neD hr.units) (pv 7) (pv 8) (nomark _)))))
        (pss_one (ps_ret pe_bl))
        pss_nil)))))))
      (pss_cons (ps_set (i := 10) scLaw.nd rfl (.inl rfl) (pe_k c_greedy_order hr (by first | decide | omega) (by rfl) (pa_cons (pv 2) pa_nil)))
      (pss_one (ps_ret (pe_and (pe_callB call_isi (by rfl) ms (by decide +kernel) (pa_cons (pv 10) (pa_cons (pe_bltn (v := .ty "list") (by rfl) mL (by decide +kernel) rfl) pa_nil))) (pe_and (pe_cmpR (op_eqD hr.units) (pv 10) (pe_k c_law_greedy hr (by first | decide | omega) (by rfl) (pa_cons (pv 2) pa_nil)) (nomark _)) (pe_one (pe_cmpR (op_eqD hr.units) (pe_k c_greedy_order hr (by first | decide | omega) (by rfl) (pa_cons (pv 2) pa_nil)) (pv 10) (nomark _))))))))))))))), ?_⟩
    -- draws
    refine q_asgE ⟨.ref a, rfl, a, ns, rfl, hS, hlen, fun H1 d ds s1 nd hd hok => ?_⟩
    have hD1 : SqL K H1 d (ds.map V.int) := .of hd
    -- net
    refine q_asgE ⟨.ref d, rfl, by show 2 ≤ sizeLine; decide, fun p0 np0 => ?_⟩
    have sp0 : Same H1 (upd H1 p0 (.lst [.int 9, .int 40])) := same_upd np0
    refine ⟨.ref d, rfl, d, ds, 8, 12, rfl, sp0.seq hD1, by decide, by decide, fun r0 hr0 => ?_⟩
    have hm : ∃ m, (m = 9 ∨ m = 40) ∧ atI [V.int 9, V.int 40] (if decide (V.int r0 = V.int 7) = true then 1 else 0) = some (.int m) := by
      cases decide (V.int r0 = V.int 7) with
      | false => exact ⟨9, .inl rfl, atI_nat (j := 0) rfl⟩
      | true => exact ⟨40, .inr rfl, atI_nat (j := 1) rfl⟩
    obtain ⟨m, hm, gm⟩ := hm
    refine ⟨rfl, .inr ⟨_, rfl, p0, _, _, _, rfl, rfl, .inl (.inl upd_same), gm, ?_⟩⟩
    refine ⟨d, ds, 10, m, rfl, sp0.seq hD1, by decide, by omega, by omega, fun H2 v N s2 hN okN hn => ?_⟩
    have hN' := hN
    obtain ⟨p, c, xs, rfl, hp, hc, hx⟩ := hN'
    have n1 := okN.n1
    have n40 := okN.n40
    have l16 := okN.len
    have hD2 := (sp0.trans s2).seq hD1
    -- order
    refine q_asgE ⟨.ref d, rfl, (vl_ixT (K := K) (vl_var rfl) vl_c (.of hp) (atI_nat (j := 0) rfl)) _ ⟨d, ds, 90, N.n, rfl, hD2, by decide, by omega, by omega, fun H3 po os s3 npo epo oko => ?_⟩⟩
    have ol := oko.len
    have hN3 := hN.to s3
    have hp3 := s3 _ _ hp
    have hD3 := s3.seq hD2
    -- place, value
    refine q_asgI (P := fun r => 0 ≤ r ∧ r < N.n) (vi_call (va_cons (vl_var rfl) (va_cons vl_c (va_cons (vl_ixT (vl_var rfl) vl_c (.of hp3) (atI_nat (j := 0) rfl)) va_nil))) fun Q E q => ⟨d, ds, 0, N.n, rfl, hD3, by decide, by omega, q⟩) (fun pl hpl => ?_)
    obtain ⟨j, rfl⟩ := Int.eq_ofNat_of_zero_le hpl.1
    have hj : j + 1 ≤ os.length := by omega
    refine q_asgI (P := fun _ => True) (vi_I0 (vi_call (P := fun r => 0 ≤ r ∧ r < N.n + 2) (va_cons (vl_var rfl) (va_cons vl_c (va_cons (vl_I0 (vl_ixT (vl_var rfl) vl_c (.of hp3) (atI_nat (j := 0) rfl)) vl_c) va_nil))) fun Q E q => ⟨d, ds, 1, N.n + 2, rfl, hD3, by decide, by omega, q⟩) (vi_of vl_c) (fun _ _ _ _ => trivial)) (fun val _ => ?_)
    -- lists
    have lt := List.length_take_le j os
    have ld := List.length_drop (i := j + 1) (l := os)
    have c1 : ∀ H', Same H3 H' → Vn (tSl (rSlL K) (tVar 3) tNoPart (tPart (tVar 4))) [some (.ref a), some (.ref d), some (.ref p), some (.ref po), some (.int (j : Nat)), some (.int val), none, none, none, none, none] H' ((os.take j).map V.int) := fun H' s' => vn_toI (vl_var rfl) (vl_var rfl) (.of (s' _ _ epo)) (by omega)
    have c2 : ∀ H', Same H3 H' → Vn (tSl (rSlL K) (tVar 3) (tPart (tOp (rI0 fun i j => .int (i + j)) (tVar 4) (tC (.int 1)))) tNoPart) [some (.ref a), some (.ref d), some (.ref p), some (.ref po), some (.int (j : Nat)), some (.int val), none, none, none, none, none] H' ((os.drop (j + 1)).map V.int) := fun H' s' => vn_fromI (vl_var rfl) ((vl_I0 (vl_var rfl) vl_c).is (by
      show V.int ((j : Int) + 1) = V.int ((j + 1 : Nat) : Int)
      rfl)) (.of (s' _ _ epo)) hj
    refine q_asgE ⟨.ref po, rfl, (vn_catI (vn_catI (c1 H3 (Same.refl H3)) (fun H' s' => vn_oneI (vl_var rfl)) ?_) (fun H' s' => c2 H' s') ?_) _ fun p1 H4 s4 np1 e1 => (vn_catI (c1 H4 s4) (fun H' s' => c2 H' (s4.trans s')) ?_) _ fun p2 H5 s5 np2 e2 => ⟨Nat.zero_le _, fun p3 np3 => ⟨by show 4 ≤ sizeLine; decide, fun L1 nL1 => ?_⟩⟩⟩
    · show _ + 1 ≤ 1000000
      omega
    · rw [List.length_append]
      show _ + 1 + _ ≤ 1000000
      omega
    · omega
    have s35 := s4.trans s5
    have s6 : Same H5 (upd H5 p3 (.lst [])) := same_upd np3
    have s7 : Same (upd H5 p3 (.lst [])) (upd (upd H5 p3 (.lst [])) L1 (.lst [.ref po, .ref p1, .ref p2, .ref p3])) := same_upd nL1
    have s57 := s6.trans s7
    have e3 := s7 _ _ (show upd H5 p3 (.lst []) p3 = some (.lst []) from upd_same)
    have eL1 : upd (upd H5 p3 (.lst [])) L1 (.lst [.ref po, .ref p1, .ref p2, .ref p3]) L1 = some (.lst [.ref po, .ref p1, .ref p2, .ref p3]) := upd_same
    have e1 := s57 _ _ (s5 _ _ e1)
    have e2 := s57 _ _ e2
    have s37 := s35.trans s57
    generalize upd (upd H5 p3 (.lst [])) L1 (.lst [.ref po, .ref p1, .ref p2, .ref p3]) = H7 at e3 eL1 e1 e2 s37 ⊢
    have epo7 := s37 _ _ epo
    refine q_asgE ⟨.ref L1, rfl, (vn_catL (vl_var rfl) epo7 (vn_oneI (vl_var rfl)) ?_) _ fun p4 H8 s8 np4 e4 => (vn_rev (K := K) (vl_var rfl) (.of (s8 _ _ epo7))) _ fun p5 H9 s9 np5 e5 => (vn_lstRg (vl_ixT (K := K) (vl_var rfl) vl_c (.of ((s8.trans s9) _ _ (s37 _ _ hp3))) (atI_nat (j := 0) rfl)) (by omega) (by omega)) _ fun p6 H10 s10 np6 e6 => ⟨by show 3 ≤ sizeLine; decide, fun L2 nL2 => ⟨L1, L2, _, _, rfl, rfl, same_upd nL2 _ _ (s10 _ _ (s9 _ _ (s8 _ _ eL1))), upd_same, by show 7 ≤ sizeLine; decide, fun L3 nL3 => ?_⟩⟩⟩
    · show os.length + 1 ≤ 1000000
      omega
    have s1012 : Same H10 (upd (upd H10 L2 (.lst [.ref p4, .ref p5, .ref p6])) L3 (.lst ([.ref po, .ref p1, .ref p2, .ref p3] ++ [.ref p4, .ref p5, .ref p6]))) := (same_upd nL2).trans (same_upd nL3)
    have s712 := (s8.trans (s9.trans s10)).trans s1012
    have items : ∀ x ∈ ([.ref po, .ref p1, .ref p2, .ref p3] ++ [.ref p4, .ref p5, .ref p6] : List V), ∃ (a : Addr) (zs : List Int), x = .ref a ∧ SqL K (upd (upd H10 L2 (.lst [.ref p4, .ref p5, .ref p6])) L3 (.lst ([.ref po, .ref p1, .ref p2, .ref p3] ++ [.ref p4, .ref p5, .ref p6]))) a (zs.map V.int) ∧ zs.length ≤ 50 := by
      intro x hx
      simp only [List.cons_append, List.nil_append, List.mem_cons, List.not_mem_nil, or_false] at hx
      rcases hx with rfl | rfl | rfl | rfl | rfl | rfl | rfl
      · exact ⟨po, os, rfl, .of (s712 _ _ epo7), by omega⟩
      · exact ⟨p1, _, rfl, .of (s712 _ _ e1), by
          rw [List.length_append, List.length_append]
          show _ + 1 + _ ≤ 50
          omega⟩
      · exact ⟨p2, _, rfl, .of (s712 _ _ e2), by
          rw [List.length_append]
          omega⟩
      · exact ⟨p3, [], rfl, .of (s712 _ _ e3), by decide⟩
      · exact ⟨p4, _, rfl, .of (((s9.trans s10).trans s1012) _ _ e4), by
          rw [List.length_append]
          show _ + 1 ≤ 50
          omega⟩
      · exact ⟨p5, os.reverse, rfl, .of (by
          rw [List.map_reverse]
          exact (s10.trans s1012) _ _ e5), by
          rw [List.length_reverse]
          omega⟩
      · exact ⟨p6, rng N.n, rfl, .of (s1012 _ _ e6), by
          rw [len_rng]
          omega⟩
    have eL3 : upd (upd H10 L2 (.lst [.ref p4, .ref p5, .ref p6])) L3 (.lst ([.ref po, .ref p1, .ref p2, .ref p3] ++ [.ref p4, .ref p5, .ref p6])) L3 = some (.lst ([.ref po, .ref p1, .ref p2, .ref p3] ++ [.ref p4, .ref p5, .ref p6])) := upd_same
    have s312 := s37.trans s712
    generalize upd (upd H10 L2 (.lst [.ref p4, .ref p5, .ref p6])) L3 (.lst ([.ref po, .ref p1, .ref p2, .ref p3] ++ [.ref p4, .ref p5, .ref p6])) = Hb at items eL3 s312 ⊢
    have hNb := hN3.to s312
    have hpb := s312 _ _ hp3
    refine q_forL (vl_var rfl) (.of eL3)
      (fun i σ H => ∃ y7 y8 y9 y10, σ = [some (.ref a), some (.ref d), some (.ref p), some (.ref po), some (.int (j : Nat)), some (.int val), some (.ref L3), y7, y8, y9, y10] ∧ Same Hb H)
      ⟨_, _, _, _, rfl, Same.refl _⟩ (fun i σ H3 hP => ?_) (fun i x σ H3 hx hP => ?_) (fun σ H3 hP => ?_)
    · obtain ⟨_, _, _, _, _, sb⟩ := hP
      exact .of (sb _ _ eL3)
    · obtain ⟨y7, y8, y9, y10, rfl, sb⟩ := hP
      obtain ⟨oa, zs, rfl, hz, zl⟩ := items x (List.mem_of_getElem? hx)
      have hz3 := sb.seq hz
      -- kept
      refine q_asgN (vn_listOf (vl_var rfl) hz3) fun kp H4 s4 nkp ekp => ?_
      -- due
      refine q_asgE ⟨.ref kp, rfl, kp, zs, rfl, .of ekp, by omega, fun H5 T s5 hT => ?_⟩
      have s35 := sb.trans (s4.trans s5)
      have ekp5 := s5 _ _ ekp
      have hz5 := s35.seq hz
      -- told
      refine q_asgE ⟨.ref p, rfl, .ref oa, rfl, .ref p, N, oa, zs, rfl, (hNb.to s35).dp, okN, hz5, by omega, fun H6 b s6 hb => ?_⟩
      have s36 := s35.trans s6
      have hT6 : DueAt K H6 T zs := by
        unfold DueAt at hT ⊢
        cases e : badAt zs with
        | some k =>
          rw [e] at hT
          exact seqT s6 hT
        | none =>
          rw [e] at hT
          obtain ⟨r, h1, h2⟩ := hT
          exact ⟨r, seqT s6 h1, s6.seq h2⟩
      have hz6 := s36.seq hz
      have ekp6 := s6 _ _ ekp5
      have hb2 : b = (decide (badAt zs = none) && decide ((zs.length : Int) = N.n)) := by
        rw [Bool.eq_iff_iff, Bool.and_eq_true, decide_eq_true_eq, decide_eq_true_eq, hb]
        exact ord_iff (by omega)
      have hz3' : ∀ H', Same H6 H' → SqL K H' oa (zs.map V.int) := fun H' s' => s'.seq hz6
      refine q_whenx (b := false) (ax_or (k := false) (m := false) (ax_of ((an_not (b := true) (an_B fun Q k => ?_)))) fun _ H7 s7 => ax_or (k := false) (m := false) ((ax_of (an_test (vl_ne (x := .bl b) (y := .bl (decide (badAt zs = none) && decide ((zs.length : Int) = N.n))) (vl_var rfl) (vl_andV ?_ fun _ => ?_) rfl))).is ?_) fun _ H8 s8 => ax_ne (shaped_ints zs) (fun Q k => (vl_var rfl) _ (k _ _ (Same.refl _) (Dp.ints (hz3' _ (s7.trans s8))))) (fun H9 s9 Q k => (vl_var rfl) _ (k _ _ (Same.refl _) (Dp.ints (.of (((s7.trans s8).trans s9) _ _ ekp6)))))) (fun e => nomatch e) (fun _ H7 s7 => ?_)
      · exact ⟨_, rfl, _, .ty "bool", .type "bool", .type "bool", true, rfl, .ty _, .base (.bl _), kit_ty (by decide +kernel), k⟩
      · unfold DueAt at hT6
        cases e : badAt zs with
        | some k =>
          rw [e] at hT6
          exact (vl_eq (vl_ixT (vl_var rfl) vl_c (seqT s7 hT6) (atI_nat (j := 0) rfl)) vl_c rfl).is (by
            rw [decide_eq_false (show ¬ V.str "bad" = V.str "ranks" by decide +kernel), decide_eq_false (fun z => by cases z)])
        | none =>
          rw [e] at hT6
          obtain ⟨r, h1, h2⟩ := hT6
          exact (vl_eq (vl_ixT (vl_var rfl) vl_c (seqT s7 h1) (atI_nat (j := 0) rfl)) vl_c rfl).is (by decide +kernel)
      · exact (vl_eq (vl_lenI (vl_var rfl) (.of (s7 _ _ ekp6))) (vl_ixT (vl_var rfl) vl_c (.of ((s36.trans s7) _ _ hpb)) (atI_nat (j := 0) rfl)) rfl).is (by rw [dI])
      · rw [← hb2, decide_eq_true rfl]
        rfl
      · have s37 := s36.trans s7
        refine g_whenx (b := false) (ax_or (k := false) (m := false) (ax_ne (shaped_due zs) (fun Q k => ?_) (fun H' s' Q k => (vl_var rfl) _ (k _ _ (Same.refl _) ?_))) fun _ H8 s8 => ax_ne (shaped_ints zs) (fun Q k => (vl_var rfl) _ (k _ _ (Same.refl _) (Dp.ints (hz3' _ (s7.trans s8))))) (fun H9 s9 Q k => (vl_var rfl) _ (k _ _ (Same.refl _) (Dp.ints (.of (((s7.trans s8).trans s9) _ _ ekp6)))))) (fun e => nomatch e) (fun _ H8 s8 => ⟨_, _, _, _, rfl, s37.trans s8⟩)
        · exact ⟨.ref oa, rfl, oa, zs, rfl, s37.seq hz, by omega, fun H' T' s' d' => k _ _ s' d'⟩
        · exact Dp.to hT6.dp (s7.trans s')
    · obtain ⟨y7, y8, y9, y10, rfl, sb⟩ := hP
      refine q_asgE ⟨.ref p, rfl, .ref p, N, rfl, (hNb.to sb).dp, okN, fun H4 g s4 ng eg => ?_⟩
      have sb4 := sb.trans s4
      refine ⟨_, rfl, _, .ty "list", .type "list", .type "list", true, rfl, .ty _, .base (.lst eg), kit_ty (by decide +kernel), true, rfl, iteT ?_⟩
      refine ⟨.ref g, rfl, .ref p, rfl, .ref p, N, rfl, (hNb.to sb4).dp, okN, fun H5 g2 s5 ng2 eg2 => ?_⟩
      refine ⟨_, _, Dp.ints (.of (s5 _ _ eg)), Dp.ints (.of eg2), shaped_ints _, shaped_ints _, true, by rw [refl_of (shaped_ints _)], iteT ?_⟩
      refine ⟨.ref p, rfl, .ref p, N, rfl, (hNb.to (sb4.trans s5)).dp, okN, fun H6 g3 s6 ng3 eg3 => ⟨.ref g, rfl, _, _, Dp.ints (.of eg3), Dp.ints (.of (s6 _ _ (s5 _ _ eg))), shaped_ints _, shaped_ints _, ?_⟩⟩
      rw [refl_of (shaped_ints _)]
      exact q _
end
/-! ### the program's ranks -/
def spRk (K : PySem.W.Frag) (CN : Addr) : Sp := fun vs H Q E => ∃ (p : Addr) (os : List Int), vs = [.ref p] ∧ SqL K H p (os.map V.int) ∧ os.length ≤ 100 ∧
  match badAt os with
  | some k => RaiseTo E H CN (k : Nat)
  | none => ∀ H' q, Same H H' → H q = none → H' q = some (.lst ((rk os).map V.int)) → Q (.ref q) H'
theorem posOf_new : ∀ {os : List Int} {i : Nat} {x : Int}, os[i]? = some x → x ∉ os.take i → posOf x os = i
  | [], _, _, h, _ => by simp at h
  | y :: ys, 0, x, h, _ => if_pos (Option.some.inj h)
  | y :: ys, i + 1, x, h, hn => by
    have h : ys[i]? = some x := h
    rw [List.take_succ_cons, List.mem_cons, not_or] at hn
    show (if y = x then 0 else posOf x ys + 1) = i + 1
    rw [if_neg (fun z => hn.1 z.symm), posOf_new h hn.2]
def fnd (os : List Int) (i : Nat) : List V := (rng os.length).map fun p => if p ∈ os.take i then V.int (posOf p os) else V.non
theorem fnd_len {os : List Int} {i : Nat} : (fnd os i).length = os.length := by
  unfold fnd
  rw [List.length_map, len_rng, Int.toNat_natCast]
theorem fnd_zero {os : List Int} : fnd os 0 = List.replicate os.length V.non := by
  refine List.ext_getElem (by rw [fnd_len, List.length_replicate]) fun p h1 h2 => ?_
  simp only [fnd, List.getElem_map, List.take_zero, List.not_mem_nil, if_false, List.getElem_replicate]
theorem fnd_get {os : List Int} {i : Nat} {x : Int} (h0 : 0 ≤ x) (h1 : x < (os.length : Int)) : (fnd os i)[x.toNat]? = some (if x ∈ os.take i then V.int (posOf x os) else V.non) := by
  have hl : x.toNat < (rng os.length).length := by
    rw [len_rng, Int.toNat_natCast]
    omega
  unfold fnd
  rw [List.getElem?_map, List.getElem?_eq_getElem hl, rng_get hl, show ((x.toNat : Nat) : Int) = x by omega]
  rfl
theorem fnd_succ {os : List Int} {i : Nat} {x : Int} (hx : 0 ≤ x ∧ x < (os.length : Int)) (h : os[i]? = some x) (hn : x ∉ os.take i) : fnd os (i + 1) = (fnd os i).set x.toNat (V.int i) := by
  refine List.ext_getElem (by rw [List.length_set, fnd_len, fnd_len]) fun p h1 h2 => ?_
  rw [List.getElem_set]
  simp only [fnd, List.getElem_map, rng_get]
  rw [take_snoc h]
  by_cases e : x.toNat = p
  · have e2 : (p : Int) = x := by omega
    rw [if_pos e, e2, if_pos (List.mem_append.mpr (.inr (List.mem_singleton.mpr rfl))), posOf_new h hn]
  · have e2 : ¬ (p : Int) = x := fun z => e (by omega)
    rw [if_neg e]
    by_cases c : (p : Int) ∈ os.take i
    · rw [if_pos c, if_pos (List.mem_append.mpr (.inl c))]
    · rw [if_neg c, if_neg (fun z => by
        rcases List.mem_append.mp z with z | z
        · exact c z
        · exact e2 (List.mem_singleton.mp z))]
theorem fnd_end {os : List Int} (ok : OrdOk os.length os) : fnd os os.length = (rk os).map V.int := by
  unfold fnd rk
  rw [List.take_length, List.map_map]
  exact List.map_congr_left fun p hp => if_pos (ok.mem.mpr (mem_rng.mp hp))
theorem flat_rep {x : V} : ∀ n : Nat, (List.replicate n [x]).flatten = List.replicate n x
  | 0 => rfl
  | n + 1 => by
    rw [List.replicate_succ, List.flatten_cons, flat_rep n]
    rfl
theorem vn_rep {σ : L2.St} {H : Hp} {ta tb : TE} {x : V} {n : Nat} (ha : Vl ta σ H x) (hb2 : ∀ H', Same H H' → Vl tb σ H' (.int (n : Nat))) (hn : n ≤ 1000) : Vn (tOp rRep (tLst (tCons ta tNil)) tb) σ H (List.replicate n x) := fun Q q =>
  ha _ ⟨by show 1 ≤ sizeLine; decide, fun p np => hb2 _ (same_upd np) _ ⟨p, _, _, rfl, rfl, upd_same, by omega, by omega, by
    rw [Int.toNat_natCast]
    show 1 * n ≤ sizeLine
    rw [Nat.one_mul]
    exact Nat.le_trans hn (by decide), fun t nt => by
    rw [Int.toNat_natCast, flat_rep]
    exact q t _ ((same_upd np).trans (same_upd nt)) (Same.free (same_upd np) nt) upd_same⟩⟩
abbrev sRanks : Stmt := topS 9
theorem scRanks : FnScope ["order", "n", "found", "rank", "place"] ["order"] (defScope sRanks) := ⟨rfl, rfl, rfl, by decide +kernel, rfl, by decide +kernel, by decide +kernel⟩
section
variable {P : Program} {w : World} {K : PySem.W.Frag} {mg : Str → Option Value} {base : Heap} {CN fI : Addr}
theorem ok_ranks {f : Addr} {fd : FuncData} (F : Fun K "ranks" "ranks" sRanks f fd) (hN : PySem.LowX.LowTxt K mg "NotAnOrder" CN fI) (ml : mg "len" = none) (me : mg "enumerate" = none) : FnOk P w K mg base (L2.CX P w) 2 f fd ["order"] (spRk K CN) := by
  refine F.okX scRanks (fun vs H Q E h => ?_) (fun cdv A outer s H vs Q E hr h => ?_)
  · obtain ⟨p, os, rfl, _⟩ := h
    rfl
  · obtain ⟨p, os, rfl, hS, hl, q⟩ := h
    refine ⟨_, pss_cons (ps_set (i := 1) scRanks.nd rfl (.inl rfl) (pe_callB call_len_seq (by rfl) ml PySem.boot_len (pa_cons (pv 0) pa_nil)))
      (pss_cons (ps_set (i := 2) scRanks.nd rfl (.inl rfl) (pe_op op_rep (pe_lst (pa_cons pe_non pa_nil)) (pv 1)))
      (pss_cons (ps_for (passes_of rfl) rfl (pi_enum (by rfl) me (pa_cons (pv 0) pa_nil)) (pg_tup rfl (pgs_cons (pg_name (i := 3) scRanks.nd rfl (.inl rfl)) (pgs_cons (pg_name (i := 4) scRanks.nd rfl (.inl rfl)) pgs_nil)))
      (pss_cons (ps_if (PW.pt (pw_or (pt_not (pt_chain op_le op_lt pe_int (pv 4) (pv 1))) (pw_or1 (pt_cmpR op_notN (pe_ix ix_list (pv 2) (pv 4) (fun _ _ => rfl)) pe_non (nomark _)))))
        (pss_one (ps_raiseLow rfl hN hr (takes_of rfl rfl rfl rfl) (by exact (pa_cons (pv 3) pa_nil))))
        pss_nil)
        (pss_one (ps_asg (pv 3) (pg_sub (pv 2) (pv 4) set_list)))))
      (pss_one (ps_ret (pv 2))))), ?_⟩
    refine q_asg (vl_lenI (vl_var rfl) hS) ?_
    refine q_asgN (xs := fnd os 0) (by
      rw [fnd_zero]
      exact vn_rep vl_c (fun _ _ => vl_var rfl) (by omega)) fun o H2 s2 no ho => ?_
    refine ⟨.ref p, rfl, p, _, rfl, s2.seq hS, for_en (xs := os.map V.int)
      (fun i σ H4 => ∃ y3 y4, σ = [some (.ref p), some (.int os.length), some (.ref o), y3, y4] ∧ Same H (but H4 o) ∧ H4 o = some (.lst (fnd os i)) ∧ badAt os = fb os.length (os.take i) (os.drop i) i)
      ⟨none, none, rfl, same_but s2 no, ho, rfl⟩ (fun i σ H4 hP => ?_) (fun i x T2 σ H4 hi hP nT2 => ?_) (fun σ H4 hP => ?_)⟩
    · obtain ⟨_, _, _, s4, _⟩ := hP
      exact (s4.trans but_same).seq hS
    · obtain ⟨y3, y4, rfl, s4, ho4, eb⟩ := hP
      have hi2 : i < os.length := by
        have := (List.getElem?_eq_some_iff.mp hi).1
        rw [List.length_map] at this
        exact this
      have hg : os[i]? = some os[i] := List.getElem?_eq_getElem hi2
      rw [List.getElem?_map, hg] at hi
      cases hi
      have ed : os.drop i = os[i] :: os.drop (i + 1) := List.drop_eq_getElem_cons hi2
      rw [ed] at eb
      generalize os[i] = x at hg eb ⊢
      have eb : badAt os = if (0 ≤ x ∧ x < (os.length : Int)) ∧ x ∉ os.take i then fb os.length (os.take i ++ [x]) (os.drop (i + 1)) (i + 1) else some i := eb
      have sH := s4.trans but_same
      refine ⟨T2, _, rfl, .of upd_same, rfl, _, _, rfl, _, _, rfl, rfl, ?_⟩
      have s6 : Same H4 (upd H4 T2 (.tup [.int (i : Nat), .int x])) := same_upd nT2
      have ho5 := s6 _ _ ho4
      have s46 : Same (but H4 o) (but (upd H4 T2 (.tup [.int (i : Nat), .int x])) o) := but_mono s6
      generalize upd H4 T2 (.tup [.int (i : Nat), .int x]) = H5 at s6 ho5 s46 ⊢
      refine q_when (b := !(decide ((0 : Int) ≤ x) && decide (x < (os.length : Int))) || decide (x ∈ os.take i)) ?_ (fun hb => ?_) (fun hb => ?_)
      · refine an_or (an_not (an_test (vl_chainI vl_c (vl_var rfl) (vl_var rfl)))) fun hk => ?_
        rw [Bool.not_eq_false', Bool.and_eq_true, decide_eq_true_eq, decide_eq_true_eq] at hk
        have g := atI_nat (fnd_get (i := i) hk.1 hk.2)
        rw [show ((x.toNat : Nat) : Int) = x by omega] at g
        refine (an_test (vl_notN (vl_ixL (K := K) (vl_var rfl) (vl_var rfl) (.of ho5) g))).is ?_
        by_cases c : x ∈ os.take i
        · rw [if_pos c, decide_eq_true c]
          rfl
        · rw [if_neg c, decide_eq_false c]
          rfl
      · rw [if_neg (fun c => by
          rw [decide_eq_true c.1.1, decide_eq_true c.1.2, decide_eq_false c.2] at hb
          exact absurd hb (by decide))] at eb
        rw [eb] at q
        exact raise_now (va_cons (vl_var rfl) va_nil) (q.to (sH.trans s6))
      · rw [Bool.or_eq_false_iff, Bool.not_eq_false', Bool.and_eq_true, decide_eq_true_eq, decide_eq_true_eq, decide_eq_false_iff_not] at hb
        rw [if_pos hb] at eb
        refine ⟨.int i, rfl, .ref o, rfl, .int x, rfl, o, _, x, x.toNat, rfl, rfl, ho5, ?_, ?_⟩
        · unfold ixN
          rw [if_pos hb.1.1, fnd_len, if_pos (by omega)]
        · refine ⟨_, _, rfl, ?_, ?_, ?_⟩
          · rw [but_upd]
            exact s4.trans s46
          · rw [upd_same, fnd_succ hb.1 hg hb.2]
          · rw [eb, take_snoc hg]
    · obtain ⟨y3, y4, rfl, s4, ho4, eb⟩ := hP
      rw [List.length_map] at ho4 eb
      rw [List.take_length, List.drop_length] at eb
      have eb : badAt os = none := eb
      rw [eb] at q
      rw [fnd_end (bad_none eb)] at ho4
      exact g_ret (vl_var rfl) (q H4 o (s4.trans but_same) no ho4)
end
/-! ### is_order -/
theorem eqvAll_ints : ∀ as bs : List Int, PyData.eqvAll (as.map PyData.int) (bs.map PyData.int) = decide (as = bs)
  | [], [] => rfl
  | [], _ :: _ => rfl
  | _ :: _, [] => rfl
  | a :: as, b :: bs => by
    show ((a == b) && PyData.eqvAll (as.map PyData.int) (bs.map PyData.int)) = _
    rw [eqvAll_ints as bs, Bool.eq_iff_iff, Bool.and_eq_true, beq_iff_eq, decide_eq_true_eq, decide_eq_true_eq]
    constructor
    · rintro ⟨h1, h2⟩
      rw [h1, h2]
    · intro h
      injection h with h1 h2
      exact ⟨h1, h2⟩
theorem rng_sorted {n : Int} : (rng n).Pairwise (· ≤ ·) := by
  unfold rng
  rw [List.pairwise_map]
  exact List.Pairwise.imp (fun h => by omega) List.pairwise_lt_range
theorem sort_iff {n : Int} {os ns : List Int} (hp : ns.Perm os) (hs : ns.Pairwise (· ≤ ·)) : ns = rng n ↔ OrdOk n os := by
  constructor
  · intro e
    rw [e] at hp
    exact hp.symm
  · intro h
    exact List.Perm.eq_of_pairwise (le := (· ≤ ·)) (fun a b _ _ h1 h2 => Int.le_antisymm h1 h2) hs rng_sorted (hp.trans h)
abbrev sIsOrder : Stmt := topS 8
theorem scIsOrder : FnScope ["net", "order"] ["net", "order"] (defScope sIsOrder) := ⟨rfl, rfl, rfl, by decide +kernel, rfl, by decide +kernel, by decide +kernel⟩
section
variable {P : Program} {w : World} {K : PySem.W.Frag} {mg : Str → Option Value} {base : Heap}
theorem ok_isOrder {f : Addr} {fd : FuncData} {k : Nat} (F : Fun K "is_order" "is_order" sIsOrder f fd) (mo : mg "sorted" = none) (mL : mg "list" = none) (mr : mg "range" = none) : FnOk P w K mg base CX0 (k + 1) f fd ["net", "order"] (spIsOrder K) := by
  refine F.ok scIsOrder (fun vs H Q E h => ?_) (fun cdv A outer s H vs Q E hr h => ?_)
  · obtain ⟨v, N, p, os, rfl, _⟩ := h
    rfl
  · obtain ⟨v, N, p, os, rfl, hN, okN, hS, hl, q⟩ := h
    have hu := hu_of hr
    refine ⟨_, pss_one (ps_ret (pe_cmpR (op_eqD hr.units) (pe_callB cr_sorted (by rfl) mo (by decide +kernel) (pa_cons (pv 1) pa_nil)) (pe_listRg rfl (by rfl) mL (prg_1 (by rfl) mr (pe_ix ix_tup (pv 0) pe_int (fun _ _ => rfl)))) (nomark _))), ?_⟩
    obtain ⟨p0, c, xs, rfl, hp0, hc, hx⟩ := Dp.net_inv hN
    have n40 := okN.n40
    have n1 := okN.n1
    refine ⟨.ref p, rfl, p, os, rfl, hS, by omega, fun ns r hp hs nr => ?_⟩
    have s1 : Same H (upd H r (.lst (ns.map V.int))) := same_upd nr
    refine (vn_lstRg (σ := [some (.ref p0), some (.ref p)]) (vl_ixT (K := K) (vl_var (v := .ref p0) rfl) vl_c (seqT s1 hp0) (atI_nat (j := 0) rfl)) (by omega) (by omega)) _ fun r2 H2 s2 nr2 er2 => ?_
    refine ⟨_, _, Dp.ints (.of (s2 _ _ upd_same)), Dp.ints (.of er2), shaped_ints _, shaped_ints _, ?_⟩
    refine q H2 _ (s1.trans s2) ?_
    show PyData.eqvAll _ _ = true ↔ _
    rw [eqvAll_ints, decide_eq_true_eq]
    exact sort_iff hp hs
end
end Ovc
namespace L2
open PySem PySem.Spec PyProof.Rows
/-! ### min of a list of pairs of ints -/
def prD (x : Int × Int) : PyData := .tuple [.int x.1, .int x.2]
def prLt (x y : Int × Int) : Bool := decide (x.1 < y.1) || (decide (x.1 = y.1) && decide (x.2 < y.2))
theorem lt_prD (x y : Int × Int) : PySem.W.dataLt (prD x) (prD y) = prLt x y := by
  obtain ⟨a, b⟩ := x
  obtain ⟨c, d⟩ := y
  have e : PySem.W.dataLt (prD (a, b)) (prD (c, d)) = (decide ((1 : Int) < 1) || (!decide ((1 : Int) < 1) && (decide (a < c) || (!decide (c < a) && (decide ((1 : Int) < 1) || (!decide ((1 : Int) < 1) && (decide (b < d) || (!decide (d < b) && (decide ((0 : Int) < 0) || (!decide ((0 : Int) < 0) && false)))))))))) := by rfl
  rw [e]
  unfold prLt
  simp only [Int.lt_irrefl, decide_false, Bool.false_or, Bool.not_false, Bool.true_and, Bool.and_false, Bool.or_false]
  by_cases h1 : a < c
  · rw [decide_eq_true h1, Bool.true_or, Bool.true_or]
  · rw [decide_eq_false h1, Bool.false_or, Bool.false_or]
    by_cases h2 : c < a
    · rw [decide_eq_true h2, decide_eq_false (show ¬ a = c by omega)]
      rfl
    · rw [decide_eq_false h2, decide_eq_true (show a = c by omega)]
      rfl
def minPr (x : Int × Int) (xs : List (Int × Int)) : Int × Int := xs.foldl (fun a y => if prLt y a then y else a) x
theorem minD_prD (x : Int × Int) (xs : List (Int × Int)) : PySem.W.minD (prD x) (xs.map prD) = prD (minPr x xs) := by
  unfold PySem.W.minD minPr
  induction xs generalizing x with
  | nil => rfl
  | cons y ys ih =>
    rw [List.map_cons, List.foldl_cons, List.foldl_cons, lt_prD]
    cases prLt y x with
    | true => exact ih y
    | false => exact ih x
theorem minPr_spec : ∀ (xs : List (Int × Int)) (x : Int × Int), minPr x xs ∈ x :: xs ∧ ∀ y ∈ x :: xs, prLt y (minPr x xs) = false
  | [], x => ⟨List.mem_cons_self, fun y hy => by
    rw [List.mem_singleton.mp hy]
    show (decide (x.1 < x.1) || (decide (x.1 = x.1) && decide (x.2 < x.2))) = false
    simp⟩
  | z :: xs, x => by
    have e : minPr x (z :: xs) = minPr (if prLt z x then z else x) xs := rfl
    rw [e]
    cases h : prLt z x with
    | true =>
      obtain ⟨h1, h2⟩ := minPr_spec xs z
      refine ⟨List.mem_cons_of_mem _ h1, fun y hy => ?_⟩
      rcases List.mem_cons.mp hy with e | e
      · have h3 := h2 z List.mem_cons_self
        rw [e]
        show prLt x (minPr z xs) = false
        generalize minPr z xs = m at h3
        unfold prLt at h h3 ⊢
        simp only [Bool.or_eq_true, Bool.and_eq_true, decide_eq_true_eq, Bool.or_eq_false_iff, Bool.and_eq_false_iff, decide_eq_false_iff_not] at h h3 ⊢
        omega
      · exact h2 y e
    | false =>
      obtain ⟨h1, h2⟩ := minPr_spec xs x
      refine ⟨?_, fun y hy => ?_⟩
      · rcases List.mem_cons.mp h1 with e | e
        · rw [show (if false = true then z else x) = x from rfl, e]
          exact List.mem_cons_self
        · exact List.mem_cons_of_mem _ (List.mem_cons_of_mem _ e)
      · rcases List.mem_cons.mp hy with e | e
        · rw [e]
          exact h2 x List.mem_cons_self
        · rcases List.mem_cons.mp e with e | e
          · have h3 := h2 x List.mem_cons_self
            rw [e]
            show prLt z (minPr x xs) = false
            generalize minPr x xs = m at h3
            unfold prLt at h h3 ⊢
            simp only [Bool.or_eq_true, Bool.and_eq_true, decide_eq_true_eq, Bool.or_eq_false_iff, Bool.and_eq_false_iff, decide_eq_false_iff_not] at h h3 ⊢
            omega
          · exact h2 y (List.mem_cons_of_mem _ e)
theorem depth_prs : ∀ L : List (Int × Int), PyData.depthAll (L.map prD) ≤ 1
  | [] => Nat.zero_le _
  | x :: L => by
    have := depth_prs L
    show max (max 0 (max 0 0) + 1) (PyData.depthAll (L.map prD)) ≤ 1
    omega
def rMinPr (K : PySem.W.Frag) : List V → Hp → VK → Prop := fun vs H Q => ∃ (a : Addr) (xs : List V) (L : List (Int × Int)), vs = [V.ref a] ∧ SqL K H a xs ∧ L ≠ [] ∧ DpAll K H xs (L.map prD) ∧
  ∀ (i : Nat) v m, xs[i]? = some v → L[i]? = some m → (∀ y ∈ L, prLt y m = false) → Q v H
theorem call_minPr {X : Cx} (hc : X.calm = true) (hu : X.A.units + 64 < cLine) : CallR X (.builtin "min") (rMinPr X.K) := by
  intro pins s σ H vs us Q I r h
  obtain ⟨a, xs, L, rfl, hs, hne, hd, q⟩ := h
  obtain ⟨its, rv, hl, _⟩ := I.list hs
  rw [Vals.ref1 r]
  obtain ⟨as, rd⟩ := Dp.readsAll I (L.map prD) xs its hd rv
  cases L with
  | nil => exact absurd rfl hne
  | cons p ps =>
    have hx : rv.length = rv.length := rfl
    refine PySem.W.min_list_data (x := prD p) (xs := ps.map prD) (as := as) (I.ok.hd hc) hl.isList (by simpa using rd) ⟨fun x hx y hy => ?_, fun x hx => ?_⟩ ?_ fun i v h' tk bs hi hr hk => ?_
    · obtain ⟨⟨a1, b1⟩, _, rfl⟩ := List.mem_map.mp (show x ∈ (p :: ps).map prD from hx)
      obtain ⟨⟨a2, b2⟩, _, rfl⟩ := List.mem_map.mp (show y ∈ (p :: ps).map prD from hy)
      rfl
    · obtain ⟨⟨a1, b1⟩, _, rfl⟩ := List.mem_map.mp (show x ∈ (p :: ps).map prD from hx)
      exact fun z => (nomatch z)
    · have := depth_prs (p :: ps)
      show X.A.units + 1 + PyData.depthAll ((p :: ps).map prD) < cLine
      omega
    · have hi2 : its[i]? = some v := by simpa using hi
      obtain ⟨bs2, r2, hlt, _, _⟩ := PySem.W.readsAll_at rd i v hi2
      rw [List.length_map] at hlt
      have eL : (p :: ps)[i]? = some (p :: ps)[i] := List.getElem?_eq_getElem hlt
      have eD : ((p :: ps).map prD).getD i .none = prD (p :: ps)[i] := by
        rw [List.getD_eq_getElem?_getD, List.getElem?_map, eL]
        rfl
      rw [eD] at r2
      rw [minD_prD] at hr
      have e := (PyProof.Rows.reads_det (fun b o z _ => hk b o z) r2 hr).1
      have e2 : minPr p ps = (p :: ps)[i] := by
        unfold prD at e
        injection e with e
        injection e with e3 e4
        injection e3 with e3
        injection e4 with e4
        injection e4 with e4
        exact Prod.ext e3 e4
      have hsp := (minPr_spec ps p).2
      rw [e2] at hsp
      have hxl : i < xs.length := by
        have := rv.length
        have := (List.getElem?_eq_some_iff.mp hi2).1
        omega
      have ex : xs[i]? = some xs[i] := List.getElem?_eq_getElem hxl
      obtain ⟨u, hu2, ru⟩ := rv.get ex
      cases hi2.symm.trans hu2
      exact ⟨xs[i], H, I.kept hk, ru, q i _ _ ex eL hsp⟩
end L2
namespace Ovc
open PySem PySem.Spec PyProof.Rows L2
/-! ### the least place of the fewest neighbours -/
theorem pick_least {f : Int → Nat} : ∀ {xs : List Int} {b : Int}, (b :: xs).Pairwise (· < ·) → pick f b xs ∈ b :: xs ∧ ∀ y ∈ b :: xs, f (pick f b xs) < f y ∨ (f (pick f b xs) = f y ∧ pick f b xs ≤ y)
  | [], b, _ => ⟨List.mem_cons_self, fun y hy => by
    rw [List.mem_singleton.mp hy]
    exact .inr ⟨rfl, Int.le_refl _⟩⟩
  | x :: xs, b, h => by
    have h1 := List.pairwise_cons.mp h
    have h2 := List.pairwise_cons.mp h1.2
    have hbx := h1.1 x List.mem_cons_self
    show pick f (if f x < f b then x else b) xs ∈ b :: x :: xs ∧ _
    show pick f (if f x < f b then x else b) xs ∈ b :: x :: xs ∧ ∀ y ∈ b :: x :: xs, f (pick f (if f x < f b then x else b) xs) < f y ∨ (f (pick f (if f x < f b then x else b) xs) = f y ∧ pick f (if f x < f b then x else b) xs ≤ y)
    by_cases c : f x < f b
    · rw [if_pos c]
      obtain ⟨i1, i2⟩ := pick_least (f := f) h1.2
      refine ⟨List.mem_cons_of_mem _ i1, fun y hy => ?_⟩
      rcases List.mem_cons.mp hy with e | e
      · have := i2 x List.mem_cons_self
        rw [e]
        omega
      · exact i2 y e
    · rw [if_neg c]
      obtain ⟨i1, i2⟩ := pick_least (f := f) (xs := xs) (b := b) (List.pairwise_cons.mpr ⟨fun y hy => h1.1 y (List.mem_cons_of_mem _ hy), h2.2⟩)
      refine ⟨?_, fun y hy => ?_⟩
      · rcases List.mem_cons.mp i1 with e | e
        · rw [e]
          exact List.mem_cons_self
        · exact List.mem_cons_of_mem _ (List.mem_cons_of_mem _ e)
      · rcases List.mem_cons.mp hy with e | e
        · rw [e]
          exact i2 b List.mem_cons_self
        · rcases List.mem_cons.mp e with e | e
          · have := i2 b List.mem_cons_self
            rw [e]
            omega
          · exact i2 y (List.mem_cons_of_mem _ e)
theorem pick_self {f : Int → Nat} {p : Int} {r : List Int} : pick f p (p :: r) = pick f p r := by
  show pick f (if f p < f p then p else p) r = pick f p r
  rw [if_neg (Nat.lt_irrefl _)]
theorem pick_is {f : Int → Nat} {p m : Int} {r : List Int} (h : (p :: r).Pairwise (· < ·)) (hm : m ∈ p :: r) (hl : ∀ y ∈ p :: r, prLt ((f y : Nat), y) ((f m : Nat), m) = false) : pick f p (p :: r) = m := by
  rw [pick_self]
  obtain ⟨h1, h2⟩ := pick_least (f := f) h
  have h3 := hl _ h1
  have h4 := h2 m hm
  generalize pick f p r = k at h1 h2 h3 h4
  unfold prLt at h3
  simp only [Bool.or_eq_false_iff, Bool.and_eq_false_iff, decide_eq_false_iff_not] at h3
  omega
/-! ### neighbours of the program -/
abbrev sNear : Stmt := topS 5
theorem scNear : FnScope ["net", "a", "n", "links", "found", "link"] ["net", "a"] (defScope sNear) := ⟨rfl, rfl, rfl, by decide +kernel, rfl, by decide +kernel, by decide +kernel⟩
def spNb (K : PySem.W.Frag) (CP : Addr) : Sp := fun vs H Q E => ∃ (v : V) (a : Int) (N : Net), vs = [v, .int a] ∧ Dp K H v (netD N) ∧ N.ls.length ≤ 1700 ∧
  (¬ (0 ≤ a ∧ a < N.n) → RaiseTo E H CP a) ∧ (0 ≤ a ∧ a < N.n → ∀ H' p, Same H H' → H p = none → H' p = some (.lst ((nearOf a N.ls).map V.int)) → Q (.ref p) H')
section
variable {P : Program} {w : World} {K : PySem.W.Frag} {mg : Str → Option Value} {base : Heap} {CP fI : Addr}
theorem ok_near {f : Addr} {fd : FuncData} (F : Fun K "neighbours" "neighbours" sNear f fd) (cCp : KalX P w K mg base 2 "check_places" ["n", "places"] (spChkPl K CP)) : FnOk P w K mg base (L2.CX P w) 3 f fd ["net", "a"] (spNb K CP) := by
  refine F.okX scNear (fun vs H Q E h => ?_) (fun cdv A outer s H vs Q E hr h => ?_)
  · obtain ⟨v, a, N, rfl, _⟩ := h
    rfl
  · obtain ⟨v, a, N, rfl, hN, hlen, q1, q2⟩ := h
    refine ⟨_, pss_cons (ps_asg (pv 0) (pg_tup rfl (pgs_cons (pg_name (i := 2) scNear.nd rfl (.inl rfl)) (pgs_cons (pg_name (i := 3) scNear.nd rfl (.inl rfl)) pgs_nil))))
      (pss_cons (ps_expr (pe_kx (E := E) cCp hr (by decide) (by rfl) (takes_of rfl rfl rfl rfl) (pa_cons (pv 2) (pa_cons (pe_lst (pa_cons (pv 1) pa_nil)) pa_nil))))
      (pss_cons (ps_set (i := 4) scNear.nd rfl (.inl rfl) (pe_lst pa_nil))
      (pss_cons (ps_for (passes_of rfl) rfl (pi_list (pv 3)) (pg_name (i := 5) scNear.nd rfl (.inl rfl))
        (pss_one (ps_if (pt_cmpR op_eq (pe_ix ix_tup (pv 5) pe_int (fun _ _ => rfl)) (pv 1) (nomark _))
          (pss_one (ps_expr (pe_bm PySem.F.plainAttrs_list PySem.F.slot_list_append PySem.F.type_list_append mt_append (pv 4) (pa_cons (pe_ix ix_tup (pv 5) pe_int (fun _ _ => rfl)) pa_nil))))
          (pss_one (ps_if (pt_cmpR op_eq (pe_ix ix_tup (pv 5) pe_int (fun _ _ => rfl)) (pv 1) (nomark _))
            (pss_one (ps_expr (pe_bm PySem.F.plainAttrs_list PySem.F.slot_list_append PySem.F.type_list_append mt_append (pv 4) (pa_cons (pe_ix ix_tup (pv 5) pe_int (fun _ _ => rfl)) pa_nil)))) pss_nil)))))
      (pss_one (ps_ret (pv 4)))))), ?_⟩
    obtain ⟨p, c, xs, rfl, hp, hc, hx⟩ := Dp.net_inv hN
    refine q_asgT2 (vl_var rfl) hp ?_
    refine q_chk1 (n := N.n) (a := a) (vl_var rfl) (vl_var rfl) (fun h => ?_) (fun h H0 s0 => ?_)
    · exact q1 h
    · have q := q2 h
      replace hp := seqT s0 hp
      replace hc := s0.seq hc
      replace hx := DpAll.to hx s0
      refine q_lnew fun o no => ?_
      refine q_forLk (j := 5) (Hb := H0) (vl_var rfl) hc hx (same_upd no)
        (fun i σ H3 => ∃ y5, σ = [some (.ref p), some (.int a), some (.int N.n), some (.ref c), some (.ref o), y5] ∧ Same H0 H3 ∧ H3 o = some (.lst ((nearOf a (N.ls.take i)).map V.int)))
        ⟨none, rfl, same_upd no, upd_same⟩ (fun i σ H3 hP => ?_) (fun i l t σ H3 hl ht hP => ?_) (fun σ H3 hP => ?_)
      · obtain ⟨_, _, s3, _⟩ := hP
        exact s3
      · obtain ⟨y5, rfl, s3, ho⟩ := hP
        have hi := (List.getElem?_eq_some_iff.mp hl).1
        have hsz : ((nearOf a (N.ls.take i)).map V.int).length < sizeLine := by
          rw [List.length_map]
          refine Nat.lt_of_le_of_lt (List.length_filterMap_le _ _) (Nat.lt_of_le_of_lt (m := 10000) ?_ (by decide))
          rw [List.length_take]
          omega
        have en : nearOf a (N.ls.take (i + 1)) = nearOf a (N.ls.take i) ++ (nearF a l).toList := by
          unfold nearOf
          rw [take_snoc hl, List.filterMap_append]
          cases e : nearF a l <;> simp [e]
        have e0 : Vl (tOp (rIxT K) (tVar 5) (tC (.int 0))) [some (.ref p), some (.int a), some (.int N.n), some (.ref c), some (.ref o), some (.ref t)] H3 (.int l.a) := vl_ixT (vl_var rfl) vl_c (seqT s3 ht) (atI_nat (j := 0) rfl)
        have e1 : Vl (tOp (rIxT K) (tVar 5) (tC (.int 1))) [some (.ref p), some (.int a), some (.int N.n), some (.ref c), some (.ref o), some (.ref t)] H3 (.int l.b) := vl_ixT (vl_var rfl) vl_c (seqT s3 ht) (atI_nat (j := 1) rfl)
        refine g_if (b := decide (V.int l.a = V.int a)) ?_ (fun h => ?_) (fun h => ?_)
        · exact an_test (vl_eq e0 (vl_var rfl) rfl)
        · have z := V.int.inj (of_decide_eq_true h)
          have ef : nearF a l = some l.b := if_pos z
          refine g_app (vl_var rfl) ho e1 hsz ⟨_, rfl, same_upd' s3 no, ?_⟩
          rw [upd_same, en, ef, List.map_append]
          rfl
        · have z : ¬ l.a = a := fun y => of_decide_eq_false h (congrArg V.int y)
          refine g_when (b := decide (V.int l.b = V.int a)) ?_ (fun h2 => ?_) (fun h2 => ?_)
          · exact an_test (vl_eq e1 (vl_var rfl) rfl)
          · have z2 := V.int.inj (of_decide_eq_true h2)
            have ef : nearF a l = some l.a := by
              unfold nearF
              rw [if_neg z, if_pos z2]
            refine g_app (vl_var rfl) ho e0 hsz ⟨_, rfl, same_upd' s3 no, ?_⟩
            rw [upd_same, en, ef, List.map_append]
            rfl
          · have ef : nearF a l = none := by
              unfold nearF
              rw [if_neg z, if_neg (fun y => of_decide_eq_false h2 (congrArg V.int y))]
            refine ⟨_, rfl, s3, ?_⟩
            rw [ho, en, ef]
            simp
      · obtain ⟨y5, rfl, s3, ho⟩ := hP
        rw [List.take_length] at ho
        exact g_ret (vl_var rfl) (q H3 o (s0.trans s3) (Same.free s0 no) ho)
end
/-! ### comprehensions that make things -/
section
variable {K : PySem.W.Frag} {σ : L2.St} {H : Hp} {te tl t1 t2 : TE} {tr : TA} {D : Ends}
theorem g_retN {xs : List V} (h : Vn te σ H xs) (k : ∀ p H', Same H H' → H p = none → H' p = some (.lst xs) → D.rt (.ref p) H') : tRet te D σ H := h _ k
theorem lc_rowsR {j : Nat} {n : Int} {f : Int → List V} {Q : VK} (hl : Va tr σ H [.int n]) (h0 : 0 ≤ n) (hz : n ≤ 1000)
    (he : ∀ x : Int, 0 ≤ x → x < n → ∀ H', Same H H' → Vn te ((σ.set j none).set j (some (.int x))) H' (f x))
    (q : ∀ D H' (rw : List Addr), Same H H' → H D = none → H' D = some (.lst (rw.map V.ref)) → rw.length = n.toNat → D ∉ rw → (∀ (i : Nat) a, rw[i]? = some a → H a = none ∧ H' a = some (.lst (f (i : Nat)))) → Q (.ref D) H') : tLc (iRng1 tr) (gName j) tYes te [j] σ H Q := by
  refine hl _ ⟨n, rfl, by omega, by omega, fun D nD => lc_range (lo := 0) (n := n.toNat) (fun i H' => ∃ rw : List Addr, H' D = some (.lst (rw.map V.ref)) ∧ Same H H' ∧ rw.length = i ∧ D ∉ rw ∧ ∀ (i : Nat) a, rw[i]? = some a → H a = none ∧ H' a = some (.lst (f (i : Nat))))
    ⟨[], upd_same, same_upd nD, rfl, List.not_mem_nil, fun _ _ h => by simp at h⟩ (fun i H2 hi hP => ?_) (fun H2 hP => ?_)⟩
  · obtain ⟨rw_, hD, s2, hlen, hDn, hr⟩ := hP
    rw [Int.zero_add]
    refine ⟨?_, ?_⟩
    · show ((σ.set j none).set j (some (V.int i))).set j none = σ.set j none
      rw [List.set_set, List.set_set]
    · refine iteT (B := ∃ rw : List Addr, H2 D = some (.lst (rw.map V.ref)) ∧ Same H H2 ∧ rw.length = i + 1 ∧ D ∉ rw ∧ ∀ (i : Nat) a, rw[i]? = some a → H a = none ∧ H2 a = some (.lst (f (i : Nat)))) (he i (by omega) (by omega) H2 s2 _ fun p H3 s3 np hp => ⟨_, s3 _ _ hD, ?_, rw_ ++ [p], ?_, ?_, ?_, ?_, fun b a hb => ?_⟩)
      · rw [List.length_map]
        exact Nat.lt_of_le_of_lt (m := 1000000) (by omega) (by decide)
      · rw [upd_same, List.map_append]
        rfl
      · exact same_upd' (s2.trans s3) nD
      · rw [List.length_append, hlen]
        rfl
      · intro h
        rcases List.mem_append.mp h with h | h
        · exact hDn h
        · have e := List.mem_singleton.mp h
          rw [e, np] at hD
          cases hD
      · by_cases hbi : b < rw_.length
        · rw [List.getElem?_append_left hbi] at hb
          have := hr b a hb
          exact ⟨this.1, by
            rw [upd_ne (fun e => hDn (by rw [← e]; exact List.mem_of_getElem? hb))]
            exact s3 _ _ this.2⟩
        · rw [List.getElem?_append_right (by omega)] at hb
          have e0 : b - rw_.length = 0 := by
            have := (List.getElem?_eq_some_iff.mp hb).1
            simp at this
            exact this
          rw [e0] at hb
          cases hb
          have eb : b = i := by omega
          refine ⟨Same.free s2 np, ?_⟩
          rw [upd_ne (fun z => by rw [← z, np] at hD; cases hD), eb]
          exact hp
  · obtain ⟨rw_, hD, s2, hlen, hDn, hr⟩ := hP
    exact q D H2 rw_ s2 nD hD hlen hDn hr
theorem lc_tupI {j : Nat} {ns : List Int} {f g : Int → Int} {Q : VK} (hl : ∀ Q : VK, (∀ a H1, Same H H1 → SqL K H1 a (ns.map V.int) → Q (.ref a) H1) → tl σ H Q) (hz : ns.length ≤ 1000)
    (h1 : ∀ x ∈ ns, ∀ H', Same H H' → Vl t1 ((σ.set j none).set j (some (.int x))) H' (.int (f x))) (h2 : ∀ x ∈ ns, ∀ H', Same H H' → Vl t2 ((σ.set j none).set j (some (.int x))) H' (.int (g x)))
    (q : ∀ D H' ts, Same H H' → H D = none → H' D = some (.lst ts) → ts.length = ns.length → (∀ (i : Nat) x, ns[i]? = some x → ∃ t, ts[i]? = some (.ref t) ∧ H' t = some (.tup [.int (f x), .int (g x)])) → Q (.ref D) H') :
    tLc (iList K tl) (gName j) tYes (tTup (tCons t1 (tCons t2 tNil))) [j] σ H Q := by
  refine hl _ fun a H1 s1 hx => ⟨a, rfl, ⟨_, hx⟩, fun D nD => lc_list (xs := ns.map V.int) (fun i H' => ∃ ts, H' D = some (.lst ts) ∧ Same H1 H' ∧ ts.length = i ∧ ∀ (k : Nat) x, k < i → ns[k]? = some x → ∃ t, ts[k]? = some (.ref t) ∧ H' t = some (.tup [.int (f x), .int (g x)]))
    ⟨[], upd_same, same_upd nD, rfl, fun _ _ h => absurd h (Nat.not_lt_zero _)⟩ (fun i H' _ hP => hP.choose_spec.2.1.seq hx) (fun i x H2 hi hP => ?_) (fun H2 hP => ?_)⟩
  · obtain ⟨ts, hD, s2, hlen, hts⟩ := hP
    have hi2 : i < ns.length := by
      have := (List.getElem?_eq_some_iff.mp hi).1
      rw [List.length_map] at this
      exact this
    have hg : ns[i]? = some ns[i] := List.getElem?_eq_getElem hi2
    rw [List.getElem?_map, hg] at hi
    generalize ns[i] = n at hg hi
    cases hi
    have hm := List.mem_of_getElem? hg
    refine ⟨?_, ?_⟩
    · show ((σ.set j none).set j (some (V.int n))).set j none = σ.set j none
      rw [List.set_set, List.set_set]
    · refine iteT (B := ∃ ts, H2 D = some (.lst ts) ∧ Same H1 H2 ∧ ts.length = i + 1 ∧ ∀ (k : Nat) x, k < i + 1 → ns[k]? = some x → ∃ t, ts[k]? = some (.ref t) ∧ H2 t = some (.tup [.int (f x), .int (g x)]))
        (h1 n hm H2 (s1.trans s2) _ (h2 n hm H2 (s1.trans s2) _ ⟨by show 2 ≤ sizeLine; decide, fun T nT => ⟨ts, same_upd nT _ _ hD, ?_, ts ++ [.ref T], upd_same, same_upd' (s2.trans (same_upd nT)) nD, by rw [List.length_append, hlen] <;> rfl, fun k x hk hx => ?_⟩⟩))
      · rw [hlen]
        exact Nat.lt_of_le_of_lt (m := 1000000) (by omega) (by decide)
      · have hTD : ∀ t, upd H2 T (.tup [.int (f n), .int (g n)]) t = some (.tup [.int (f x), .int (g x)]) → upd (upd H2 T (.tup [.int (f n), .int (g n)])) D (.lst (ts ++ [.ref T])) t = some (.tup [.int (f x), .int (g x)]) := fun t ht => by
          rw [upd_ne (fun z => by
            rw [z, same_upd nT _ _ hD] at ht
            cases ht)]
          exact ht
        by_cases e : k < i
        · obtain ⟨t, e1, e2⟩ := hts k x e hx
          refine ⟨t, ?_, hTD t (same_upd nT _ _ e2)⟩
          rw [List.getElem?_append_left (by omega)]
          exact e1
        · have ek : k = i := by omega
          subst ek
          cases hg.symm.trans hx
          refine ⟨T, ?_, hTD T upd_same⟩
          rw [List.getElem?_append_right (by omega), hlen, Nat.sub_self]
          rfl
  · obtain ⟨ts, hD, s2, hlen, hts⟩ := hP
    rw [List.length_map] at hlen hts
    exact q D H2 ts (s1.trans s2) (Same.free s1 nD) hD hlen fun i x hx => hts i x (List.getElem?_eq_some_iff.mp hx).1 hx
end
theorem q_asg1 {r : List V → Hp → VK → Prop} {t : TE} {g : TG} {D : Ends} {tw : TS} {σ : L2.St} {H : Hp} (h : t σ H fun x H1 => r [x] H1 fun v H2 => g v σ H2 fun σ2 H3 => tw D σ2 H3) : tSeq (tAsg (tCB r (tCons t tNil)) g) tw D σ H := h
theorem g_asgCall {sp : Sp} {tr : TA} {g : TG} {D : Ends} {σ : L2.St} {H : Hp} {vs : List V} (h : Va tr σ H vs) (k : sp vs H (fun v H1 => g v σ H1 D.nx) E0) : tAsg (tCall sp [] E0 tr) g D σ H := h _ (by
  show sp (vs ++ []) H _ E0
  rw [List.append_nil]
  exact k)
theorem dInt {a b : Int} : decide (V.int a = V.int b) = decide (a = b) := by
  rw [Bool.eq_iff_iff, decide_eq_true_eq, decide_eq_true_eq]
  exact ⟨fun z => V.int.inj z, fun z => by rw [z]⟩
/-! ### the greedy order of the program -/
def joinTo (ns ms : List Int) (b p : Int) : List Int := ns.filter (fun o => !decide (o = b)) ++ ms.filter fun o => !decide (o = p) && !decide (o ∈ ns)
def spJoined (K : PySem.W.Frag) : Sp := fun vs H Q _ => ∃ (na ar : Addr) (ns ms : List Int) (b p : Int), vs = [.ref na, .ref ar, .int b, .int p] ∧ SqL K H na (ns.map V.int) ∧ SqL K H ar (ms.map V.int) ∧ ns.length ≤ 1000 ∧ ms.length ≤ 1000 ∧
  ∀ H' q, Same H H' → H q = none → H' q = some (.lst ((joinTo ns ms b p).map V.int)) → Q (.ref q) H'
abbrev sJoinedG : Stmt := topS 11
theorem scJoinedG : FnScope ["near", "around", "taken", "place", "kept", "other"] ["near", "around", "taken", "place"] (defScope sJoinedG) := ⟨rfl, rfl, rfl, by decide +kernel, rfl, by decide +kernel, by decide +kernel⟩
abbrev sGreedy : Stmt := topS 10
theorem scGreedy : FnScope ["net", "place", "near", "left", "order", "other", "_", "around"] ["net"] (defScope sGreedy) := ⟨rfl, rfl, rfl, by decide +kernel, rfl, by decide +kernel, by decide +kernel⟩
section
variable {P : Program} {w : World} {K : PySem.W.Frag} {mg : Str → Option Value} {base : Heap} {CP fI : Addr}
theorem ok_joined {f : Addr} {fd : FuncData} {k : Nat} (F : Fun K "_joined" "_joined" sJoinedG f fd) : FnOk P w K mg base CX0 (k + 1) f fd ["near", "around", "taken", "place"] (spJoined K) := by
  refine F.ok scJoinedG (fun vs H Q E h => ?_) (fun cdv A outer s H vs Q E hr h => ?_)
  · obtain ⟨na, ar, ns, ms, b, p, rfl, _⟩ := h
    rfl
  · obtain ⟨na, ar, ns, ms, b, p, rfl, hS1, hS2, l1, l2, q⟩ := h
    refine ⟨_, pss_cons (ps_setLc (i := 4) (own := [("other", 5)]) (g := gName 5) (tt := (tTest (tOp rNe (tVar 5) (tVar 2)))) (te := (tVar 5)) (by rfl) scJoinedG.nd rfl rfl (sw_true rfl rfl rfl (by decide +kernel)) (pi_list (pv 0)) (blkOk_by (own := [("other", 5)]) (N := ["near", "around", "taken", "place", "kept", "other"]) (sc := defScope sJoinedG) (by decide +kernel)) (fun _ _ _ _ _ => pg_name (i := 5) scJoinedG.nd rfl (Or.inl rfl)) (fun _ _ _ _ _ => by exact (pts_one (pt_cmpR op_ne (pv 5) (pv 2) (nomark _)))) (fun _ _ _ _ _ => by exact (pv 5)))
      (pss_one (ps_ret (pe_op op_cat (pv 4) (pe_lc (own := [("other", 5)]) (g := gName 5) (tt := (tAnd (tTest (tOp rNe (tVar 5) (tVar 3))) (tTest (tOp (rIn K true) (tVar 5) (tVar 0))))) (te := (tVar 5)) (by rfl) scJoinedG.nd (pi_list (pv 1)) (blkOk_by (own := [("other", 5)]) (N := ["near", "around", "taken", "place", "kept", "other"]) (sc := defScope sJoinedG) (by decide +kernel)) (fun _ _ _ _ _ => pg_name (i := 5) scJoinedG.nd rfl (Or.inl rfl)) (fun _ _ _ _ _ => by exact (pts_one (PW.pt (pw_and (pt_cmpR op_ne (pv 5) (pv 3) (nomark _)) (pw_and1 (pt_cmpR op_notIn_seq (pv 5) (pv 0) (by rfl))))))) (fun _ _ _ _ _ => by exact (pv 5)))))), ?_⟩
    refine q_asgN (xs := (ns.filter fun o => !decide (o = b)).map V.int) (vn_lcI (vx_list (vl_var rfl) hS1) (by omega) (fun x hx H' s' => (an_test (vl_ne (vl_var rfl) (vl_var rfl) rfl)).is (by rw [dInt])) (fun x hx H' s' => vl_var rfl)) fun kp H1 s1 nk ek => ?_
    refine g_retN (xs := (joinTo ns ms b p).map V.int) (vn_catL (vl_var rfl) ek (ns := ms.filter fun o => !decide (o = p) && !decide (o ∈ ns)) (vn_lcI (vx_list (vl_var rfl) (s1.seq hS2)) (by omega) (fun x hx H' s' => an_and ((an_test (vl_ne (vl_var rfl) (vl_var rfl) rfl)).is (by rw [dInt])) fun _ => an_test (vl_notInI (vl_var rfl) (vl_var rfl) ((s1.trans s').seq hS1))) (fun x hx H' s' => vl_var rfl)) ?_) fun r H2 s2 nr er => q H2 r (s1.trans s2) (Same.free s1 nr) er
    have h1 := List.length_filter_le (fun o => !decide (o = b)) ns
    have h2 := List.length_filter_le (fun o => !decide (o = p) && !decide (o ∈ ns)) ms
    omega
theorem ok_greedy {f : Addr} {fd : FuncData} {k k2 : Nat} (hk : k2 ≤ k) (F : Fun K "greedy_order" "greedy_order" sGreedy f fd) (c_neighbours : KalX P w K mg base k "neighbours" ["net", "a"] (spNb K CP)) (c_joined : Kal P w K mg base k2 "_joined" ["near", "around", "taken", "place"] (spJoined K))
    (ml : mg "len" = none) (mr : mg "range" = none) (mL : mg "list" = none) (mm : mg "min" = none) : FnOk P w K mg base CX0 (k + 1) f fd ["net"] (spGreedy K) := by
  refine F.ok scGreedy (fun vs H Q E h => ?_) (fun cdv A outer s H vs Q E hr h => ?_)
  · obtain ⟨v, N, rfl, _⟩ := h
    rfl
  · obtain ⟨v, N, rfl, hN, okN, q⟩ := h
    have hu := hu_of hr
    refine ⟨_, pss_cons (ps_set (i := 2) scGreedy.nd rfl (.inr rfl) (pe_lc (own := [("place", 1)]) (g := gName 1) (tt := tYes) (te := (tCall (spNb K CP) [] (fun _ _ _ => False) (tCons (tVar 0) (tCons (tVar 1) tNil)))) (by rfl) scGreedy.nd (pi_range1 (by rfl) mr (pa_cons (pe_ix ix_tup (pv 0) pe_int (fun _ _ => rfl)) pa_nil)) (blkOk_by (own := [("place", 1)]) (N := ["net", "place", "near", "left", "order", "other", "_", "around"]) (sc := defScope sGreedy) (by decide +kernel)) (fun _ _ _ _ _ => pg_name (i := 1) scGreedy.nd rfl (Or.inl rfl)) (fun _ _ _ _ _ => by exact pts_nil) (fun _ _ _ _ _ => by exact (pe_kx (E := fun _ _ _ => False) c_neighbours hr (by first | decide | omega) (by rfl) takes0 (pa_cons (pv 0) (pa_cons (pv 1) pa_nil))))))
      (pss_cons (ps_set (i := 3) scGreedy.nd rfl (.inl rfl) (pe_listRg rfl (by rfl) mL (prg_1 (by rfl) mr (pe_ix ix_tup (pv 0) pe_int (fun _ _ => rfl)))))
      (pss_cons (ps_set (i := 4) scGreedy.nd rfl (.inl rfl) (pe_lst pa_nil))
      (pss_cons (ps_while PassesOwn.never (pt_truth (pv 3) (by intro _; rfl))
      (pss_cons (ps_asg (pe_callB (call_minPr rfl hr.units) (by rfl) mm (by decide +kernel) (pa_cons (pe_lc (own := [("other", 5)]) (g := gName 5) (tt := tYes) (te := (tTup (tCons (tCB (fun xs H Q => ∃ p ys, xs = [V.ref p] ∧ (SqL K H p ys ∨ SqT K H p ys) ∧ Q (V.int ys.length) H) (tCons (tOp (rIxL K) (tVar 2) (tVar 5)) tNil)) (tCons (tVar 5) tNil)))) (by rfl) scGreedy.nd (pi_list (pv 3)) (blkOk_by (own := [("other", 5)]) (N := ["net", "place", "near", "left", "order", "other", "_", "around"]) (sc := defScope sGreedy) (by decide +kernel)) (fun _ _ _ _ _ => pg_name (i := 5) scGreedy.nd rfl (Or.inl rfl)) (fun _ _ _ _ _ => by exact pts_nil) (fun _ _ _ _ _ => by exact (pe_tup (pa_cons (pe_callB call_len_seq (by rfl) ml PySem.boot_len (pa_cons (pe_ix ix_list (pv 2) (pv 5) (fun _ _ => rfl)) pa_nil)) (pa_cons (pv 5) pa_nil))))) pa_nil)) (pg_tup rfl (pgs_cons (pg_name (i := 6) scGreedy.nd rfl (.inl rfl)) (pgs_cons (pg_name (i := 1) scGreedy.nd rfl (.inl rfl)) pgs_nil))))
        (pss_cons (ps_expr (pe_bm PySem.F.plainAttrs_list PySem.F.slot_list_append PySem.F.type_list_append mt_append (pv 4) (pa_cons (pv 1) pa_nil)))
        (pss_cons (ps_expr (pe_remX rfl takes0 (pv 3) (pv 1)))
        (pss_cons (ps_set (i := 7) scGreedy.nd rfl (.inl rfl) (pe_ix ix_list (pv 2) (pv 1) (fun _ _ => rfl)))
        (pss_one (ps_for PassesOwn.never rfl (pi_list (pv 7)) (pg_name (i := 5) scGreedy.nd rfl (.inl rfl))
        (pss_one (ps_asg (pe_k c_joined hr (by first | decide | omega) (by rfl) (pa_cons (pe_ix ix_list (pv 2) (pv 5) (fun _ _ => rfl)) (pa_cons (pv 7) (pa_cons (pv 1) (pa_cons (pv 5) pa_nil))))) (pg_sub (pv 2) (pv 5) set_list))))))))))
      (pss_one (ps_ret (pv 4)))))), ?_⟩
    obtain ⟨p0, c, xs, rfl, hp0, hc, hx⟩ := Dp.net_inv hN
    have n40 := okN.n40
    have n1 := okN.n1
    have l16 := okN.len
    refine q_asgE (lc_rowsR (n := N.n) (f := fun x => (nearOf x N.ls).map V.int) (va_cons (vl_ixT (K := K) (vl_var rfl) vl_c hp0 (atI_nat (j := 0) rfl)) va_nil) (by omega) (by omega) (fun x h0 h1 H' s' Q q => ⟨_, rfl, .int x, rfl, _, x, N, rfl, Dp.to hN s', by omega, fun h => absurd ⟨h0, h1⟩ h, fun _ H2 p s2 np ep => q p H2 s2 np ep⟩) fun nl H1 rw_ s1 nnl enl rl rnn rr => ?_)
    refine q_asgN (xs := (rng N.n).map V.int) (vn_lstRg (vl_ixT (K := K) (vl_var rfl) vl_c (seqT s1 hp0) (atI_nat (j := 0) rfl)) (by omega) (by omega)) fun lf H2 s2 nlf elf => ?_
    refine q_lnew fun od nod => ?_
    have s3 : Same H2 (upd H2 od (.lst [])) := same_upd nod
    have s13 := s2.trans s3
    have sH := s1.trans s13
    have nflf : lf ≠ nl := fun z => by
      rw [z, enl] at nlf
      cases nlf
    have nodl : od ≠ nl := fun z => by
      rw [z, s2 _ _ enl] at nod
      cases nod
    have nodf : od ≠ lf := fun z => by
      rw [z, elf] at nod
      cases nod
    have nlfH := Same.free s1 nlf
    have nodH := Same.free (s1.trans s2) nod
    have hNk : NearOk (rng N.n) (adj0 N.ls) (fun p => nearOf p N.ls) := ⟨fun p _ => near_nodup okN p, fun p hp o => by
      rw [near_mem okN, mem_rng]
      exact ⟨fun h => ⟨(adj0_in okN h).2.1, h⟩, fun h => h.2⟩⟩
    have hasc : (rng N.n).Pairwise (· < ·) := by
      unfold rng
      rw [List.pairwise_map]
      exact List.Pairwise.imp (fun h => by omega) List.pairwise_lt_range
    refine ⟨fun m σ H3 => ∃ y1 y5 y6 y7 acc L adj nr fs, σ = [some (.ref p0), y1, some (.ref nl), some (.ref lf), some (.ref od), y5, y6, y7] ∧ Same H H3 ∧ H3 od = some (.lst (acc.map V.int)) ∧ H3 lf = some (.lst (L.map V.int)) ∧ H3 nl = some (.lst fs) ∧ fs.length = N.n.toNat ∧
      (∀ p : Int, 0 ≤ p → p < N.n → ∃ a, fs[p.toNat]? = some (.ref a) ∧ a ≠ nl ∧ a ≠ lf ∧ a ≠ od ∧ H3 a = some (.lst ((nr p).map V.int))) ∧ L.Pairwise (· < ·) ∧ (∀ x ∈ L, 0 ≤ x ∧ x < N.n) ∧ AdjOk adj ∧ NearOk L adj nr ∧ greedyOf N = acc ++ gr L.length L adj ∧ m = L.length ∧ acc.length + L.length ≤ 40,
      ⟨_, none, none, none, none, [], rng N.n, adj0 N.ls, fun p => nearOf p N.ls, rw_.map V.ref, rfl, sH, upd_same, s3 _ _ elf, s13 _ _ enl, by rw [List.length_map, rl], fun p h0 h1 => ?_, hasc, fun x h => mem_rng.mp h, adj0_ok okN, hNk, ?_, rfl, by rw [len_rng]; show 0 + _ ≤ 40; omega⟩, fun m σ H3 hW => ?_⟩
    · have hpl : p.toNat < rw_.length := by omega
      have e := List.getElem?_eq_getElem hpl
      have h2 := rr _ _ e
      rw [show ((p.toNat : Nat) : Int) = p by omega] at h2
      refine ⟨rw_[p.toNat], by rw [List.getElem?_map, e] <;> rfl, fun z => rnn (by rw [← z]; exact List.mem_of_getElem? e), fun z => ?_, fun z => ?_, s13 _ _ h2.2⟩
      · rw [← z, h2.2] at nlf
        cases nlf
      · rw [← z, s2 _ _ h2.2] at nod
        cases nod
    · rw [len_rng]
      rfl
    · obtain ⟨y1, y5, y6, y7, acc, L, adj, nr, fs, rfl, s4, eod, elf4, enl4, fl, hfs, hA, hin, hadj, hnk, hgr, rfl, hlen⟩ := hW
      refine ⟨.ref lf, rfl, _, .inl ⟨_, .of elf4, rfl⟩, ?_⟩
      cases L with
      | nil =>
        refine if_false_of (by rfl) ?_
        refine g_ret (vl_var rfl) (q H3 od s4 nodH ?_)
        rw [hgr]
        show H3 od = some (.lst ((acc ++ []).map V.int))
        rw [List.append_nil]
        exact eod
      | cons p r =>
        have hLn : (p :: r).Nodup := hA.imp fun h z => by omega
        refine if_true_of (by rfl) ⟨fun σ H3 => ∃ y1 y5 y6 y7 acc L adj nr fs, σ = [some (.ref p0), y1, some (.ref nl), some (.ref lf), some (.ref od), y5, y6, y7] ∧ Same H H3 ∧ H3 od = some (.lst (acc.map V.int)) ∧ H3 lf = some (.lst (L.map V.int)) ∧ H3 nl = some (.lst fs) ∧ fs.length = N.n.toNat ∧
          (∀ p : Int, 0 ≤ p → p < N.n → ∃ a, fs[p.toNat]? = some (.ref a) ∧ a ≠ nl ∧ a ≠ lf ∧ a ≠ od ∧ H3 a = some (.lst ((nr p).map V.int))) ∧ L.Pairwise (· < ·) ∧ (∀ x ∈ L, 0 ≤ x ∧ x < N.n) ∧ AdjOk adj ∧ NearOk L adj nr ∧ greedyOf N = acc ++ gr L.length L adj ∧ r.length = L.length ∧ acc.length + L.length ≤ 40,
          fun σ' H' h => ⟨r.length, by rw [List.length_cons]; omega, h⟩, ?_⟩
        -- the least
        refine q_asg1 (lc_tupI (f := fun x => ((nr x).length : Int)) (g := fun x => x) (vx_list (vl_var (i := 3) rfl) (.of elf4)) (by omega) (fun x hx' H' s' => ?_) (fun x hx' H' s' => vl_var (i := 5) rfl) fun D H5 ts s5 nD eD htl hts => ?_)
        · obtain ⟨a, e1, _, _, _, e5⟩ := hfs x (hin x hx').1 (hin x hx').2
          have g1 := atI_nat e1
          rw [show ((x.toNat : Nat) : Int) = x by have := hin x hx'; omega] at g1
          exact vl_lenI (K := K) (vl_ixL (K := K) (vl_var (i := 2) rfl) (vl_var (i := 5) rfl) (.of (s' _ _ enl4)) g1) (.of (s' _ _ e5))
        have hdeg : ∀ x ∈ p :: r, ((nr x).length : Nat) = deg (p :: r) adj x := fun x hx' => hnk.deg hLn hx'
        refine ⟨D, ts, (p :: r).map fun x => (((nr x).length : Int), x), rfl, .of eD, by simp, ?_, fun i v m hi hm hl => ?_⟩
        · refine (fun gen => gen (p :: r) ts htl hts : (∀ (L : List Int) (ts : List V), ts.length = L.length → (∀ (i : Nat) (x : Int), L[i]? = some x → ∃ t, ts[i]? = some (V.ref t) ∧ H5 t = some (HO.tup [V.int ((nr x).length : Int), V.int x])) → DpAll K H5 ts ((L.map fun x => (((nr x).length : Int), x)).map prD)) → _) ?_
          intro L
          induction L with
          | nil =>
            intro ts h1 _
            rw [List.eq_nil_of_length_eq_zero h1]
            exact .nil
          | cons x L ih =>
            intro ts h1 h2
            cases ts with
            | nil => exact absurd h1 (by simp)
            | cons y ts =>
              obtain ⟨t, e1, e2⟩ := h2 0 x rfl
              cases Option.some.inj e1
              exact .cons (.tup (.of e2) (.cons (.int _) (.cons (.int _) .nil))) (ih ts (Nat.succ.inj h1) fun i z hz => h2 (i + 1) z hz)
        · rw [List.getElem?_map] at hm
          cases hx' : (p :: r)[i]? with
          | none =>
            rw [hx'] at hm
            cases hm
          | some b =>
            rw [hx'] at hm
            cases hm
            obtain ⟨t, e1, e2⟩ := hts i b hx'
            cases hi.symm.trans e1
            have hb := List.mem_of_getElem? hx'
            have hbr := hin b hb
            have hpk : pick (deg (p :: r) adj) p (p :: r) = b := by
              refine pick_is hA hb fun y hy => ?_
              have := hl _ (List.mem_map.mpr ⟨y, hy, rfl⟩)
              rw [← hdeg y hy, ← hdeg b hb]
              exact this
            refine ⟨t, _, rfl, .of e2, rfl, _, _, rfl, _, _, rfl, rfl, ?_⟩
            have eod5 := s5 _ _ eod
            have elf5 := s5 _ _ elf4
            have enl5 := s5 _ _ enl4
            have s45 := s4.trans s5
            -- order, left
            refine q_app (v := .int b) (vl_var rfl) eod5 (vl_var rfl) (by
              rw [List.length_map]
              exact Nat.lt_of_le_of_lt (m := 1000000) (by omega) (by decide)) ?_
            have elf6 : upd H5 od (.lst (acc.map V.int ++ [V.int b])) lf = some (.lst ((p :: r).map V.int)) := by
              rw [upd_ne (fun z => nodf z.symm)]
              exact elf5
            refine ⟨.ref lf, rfl, .inl ⟨rfl, _, .inl (.inl elf6)⟩, .int b, rfl, lf, p :: r, b, rfl, rfl, elf6, fun _ => ?_, fun h => absurd hb h⟩
            have s7 : Same H (upd (upd H5 od (.lst (acc.map V.int ++ [V.int b]))) lf (.lst (((p :: r).erase b).map V.int))) := same_upd' (same_upd' s45 nodH) nlfH
            have eod7 : upd (upd H5 od (.lst (acc.map V.int ++ [V.int b]))) lf (.lst (((p :: r).erase b).map V.int)) od = some (.lst ((acc ++ [b]).map V.int)) := by
              rw [upd_ne nodf, upd_same, List.map_append]
              rfl
            have elf7 : upd (upd H5 od (.lst (acc.map V.int ++ [V.int b]))) lf (.lst (((p :: r).erase b).map V.int)) lf = some (.lst (((p :: r).erase b).map V.int)) := upd_same
            have enl7 : upd (upd H5 od (.lst (acc.map V.int ++ [V.int b]))) lf (.lst (((p :: r).erase b).map V.int)) nl = some (.lst fs) := by
              rw [upd_ne (fun z => nflf z.symm), upd_ne (fun z => nodl z.symm)]
              exact enl5
            have hfs7 : ∀ p1 : Int, 0 ≤ p1 → p1 < N.n → ∃ a, fs[p1.toNat]? = some (.ref a) ∧ a ≠ nl ∧ a ≠ lf ∧ a ≠ od ∧ upd (upd H5 od (.lst (acc.map V.int ++ [V.int b]))) lf (.lst (((p :: r).erase b).map V.int)) a = some (.lst ((nr p1).map V.int)) := fun p1 h0 h1 => by
              obtain ⟨a, z1, z2, z3, z4, z5⟩ := hfs p1 h0 h1
              refine ⟨a, z1, z2, z3, z4, ?_⟩
              rw [upd_ne z3, upd_ne z4]
              exact s5 _ _ z5
            generalize upd (upd H5 od (.lst (acc.map V.int ++ [V.int b]))) lf (.lst (((p :: r).erase b).map V.int)) = H7 at s7 eod7 elf7 enl7 hfs7 ⊢
            -- around
            obtain ⟨ab, z1, z2, z3, z4, z5⟩ := hfs7 b hbr.1 hbr.2
            have g1 := atI_nat z1
            rw [show ((b.toNat : Nat) : Int) = b by omega] at g1
            refine q_asg (vl_ixL (K := K) (vl_var rfl) (vl_var rfl) (.of enl7) g1) ?_
            have hnlen : ∀ x ∈ p :: r, (nr x).length ≤ 40 := fun x hx2 => by
              have := sub_len (hnk.nd x hx2) fun o ho => ((hnk.mem x hx2 o).mp ho).1
              omega
            have hbn := hnk.nd b hb
            have hbirr : b ∉ nr b := fun h => by
              have := ((hnk.mem b hb b).mp h).2
              rw [hadj.irr] at this
              cases this
            refine g_forL (K := K) (j := 5) (xs := (nr b).map V.int) (vl_var rfl) (.of z5)
              (fun i σ H8 => ∃ y5 fs, σ = [some (.ref p0), some (.int b), some (.ref nl), some (.ref lf), some (.ref od), y5, some (.int ((nr b).length : Int)), some (.ref ab)] ∧ Same H H8 ∧ H8 od = some (.lst ((acc ++ [b]).map V.int)) ∧ H8 lf = some (.lst (((p :: r).erase b).map V.int)) ∧ H8 nl = some (.lst fs) ∧ fs.length = N.n.toNat ∧ H8 ab = some (.lst ((nr b).map V.int)) ∧
                (∀ p1 : Int, 0 ≤ p1 → p1 < N.n → ∃ a, fs[p1.toNat]? = some (.ref a) ∧ a ≠ nl ∧ a ≠ lf ∧ a ≠ od ∧ H8 a = some (.lst ((if p1 ∈ (nr b).take i then nearTo nr b p1 else nr p1).map V.int))))
              ⟨_, fs, rfl, s7, eod7, elf7, enl7, fl, z5, fun p1 h0 h1 => by
                rw [List.take_zero, if_neg List.not_mem_nil]
                exact hfs7 p1 h0 h1⟩ (fun i σ H8 hP => .of hP.choose_spec.choose_spec.2.2.2.2.2.2.1) (fun i x σ H8 hi2 hP => ?_) (fun σ H8 hP => ?_)
            · obtain ⟨y5', fs8, rfl, s8, eod8, elf8, enl8, fl8, eab8, hfs8⟩ := hP
              rw [List.getElem?_map] at hi2
              cases ho : (nr b)[i]? with
              | none =>
                rw [ho] at hi2
                cases hi2
              | some o =>
                rw [ho] at hi2
                cases hi2
                have hob := List.mem_of_getElem? ho
                have hoL := ((hnk.mem b hb o).mp hob).1
                have hor := hin o hoL
                have hnt : o ∉ (nr b).take i := fun h => by
                  obtain ⟨k', hk'⟩ := List.mem_iff_getElem?.mp h
                  have hlt := (List.getElem?_eq_some_iff.mp hk').1
                  rw [List.length_take] at hlt
                  rw [List.getElem?_take, if_pos (by omega), ← ho] at hk'
                  have := (List.getElem?_inj (by omega) hbn).mp hk'
                  omega
                obtain ⟨ao, w1, w2, w3, w4, w5⟩ := hfs8 o hor.1 hor.2
                rw [if_neg hnt] at w5
                have g2 := atI_nat w1
                rw [show ((o.toNat : Nat) : Int) = o by omega] at g2
                refine g_asgCall (va_cons (vl_ixL (K := K) (vl_var (i := 2) rfl) (vl_var (i := 5) rfl) (.of enl8) g2) (va_cons (vl_var (i := 7) rfl) (va_cons (vl_var (i := 1) rfl) (va_cons (vl_var (i := 5) rfl) va_nil)))) ?_
                refine ⟨ao, ab, nr o, nr b, b, o, rfl, .of w5, .of eab8, by have := hnlen o hoL; omega, by have := hnlen b hb; omega, fun H9 rq s9 nrq erq => ?_⟩
                have hrn : rq ≠ nl := fun z => by
                  rw [z, enl8] at nrq
                  cases nrq
                have hrl : rq ≠ lf := fun z => by
                  rw [z, elf8] at nrq
                  cases nrq
                have hro : rq ≠ od := fun z => by
                  rw [z, eod8] at nrq
                  cases nrq
                refine ⟨.ref nl, rfl, .int o, rfl, nl, fs8, o, o.toNat, rfl, rfl, s9 _ _ enl8, ?_, ?_⟩
                · unfold ixN
                  rw [if_pos hor.1, if_pos (by omega)]
                · refine ⟨_, _, rfl, same_upd' (s8.trans s9) nnl, ?_, ?_, upd_same, by rw [List.length_set]; exact fl8, ?_, fun p1 h0 h1 => ?_⟩
                  · rw [upd_ne nodl]
                    exact s9 _ _ eod8
                  · rw [upd_ne nflf]
                    exact s9 _ _ elf8
                  · rw [upd_ne z2]
                    exact s9 _ _ eab8
                  · rw [take_snoc ho]
                    by_cases e : p1 = o
                    · rw [e, if_pos (List.mem_append.mpr (.inr (List.mem_singleton.mpr rfl)))]
                      refine ⟨rq, ?_, hrn, hrl, hro, ?_⟩
                      · rw [List.getElem?_set_self (by omega)]
                      · rw [upd_ne hrn]
                        exact erq
                    · obtain ⟨a, x1, x2, x3, x4, x5⟩ := hfs8 p1 h0 h1
                      refine ⟨a, ?_, x2, x3, x4, ?_⟩
                      · rw [List.getElem?_set_ne (by omega)]
                        exact x1
                      · rw [upd_ne x2]
                        have e2 : (p1 ∈ (nr b).take i ++ [o]) ↔ p1 ∈ (nr b).take i := by
                          rw [List.mem_append, List.mem_singleton]
                          exact ⟨fun h => h.resolve_right e, .inl⟩
                        rw [show (if p1 ∈ (nr b).take i ++ [o] then nearTo nr b p1 else nr p1) = (if p1 ∈ (nr b).take i then nearTo nr b p1 else nr p1) from by
                          by_cases c : p1 ∈ (nr b).take i
                          · rw [if_pos c, if_pos (e2.mpr c)]
                          · rw [if_neg c, if_neg (fun z => c (e2.mp z))]]
                        exact s9 _ _ x5
            · obtain ⟨y5', fs8, rfl, s8, eod8, elf8, enl8, fl8, eab8, hfs8⟩ := hP
              rw [List.length_map] at hfs8
              rw [List.take_length] at hfs8
              have hel := List.length_erase_of_mem hb
              rw [List.length_cons, Nat.add_sub_cancel] at hel
              refine ⟨_, _, _, _, acc ++ [b], (p :: r).erase b, joinB adj b, fun p1 => if p1 ∈ nr b then nearTo nr b p1 else nr p1, fs8, rfl, s8, eod8, elf8, enl8, fl8, hfs8, hA.sublist List.erase_sublist, fun x hx2 => hin x (List.mem_of_mem_erase hx2), hadj.join b, hnk.step hadj hLn hb, ?_, hel.symm, ?_⟩
              · rw [hgr, List.append_assoc, hel]
                show acc ++ (pick (deg (p :: r) adj) p (p :: r) :: gr r.length ((p :: r).erase (pick (deg (p :: r) adj) p (p :: r))) (joinB adj (pick (deg (p :: r) adj) p (p :: r)))) = _
                rw [hpk]
                rfl
              · rw [hel, List.length_append]
                rw [List.length_cons] at hlen
                show _ + 1 + _ ≤ 40
                omega
end
/-! ### what the top has written; the law's own head -/
theorem df_mk {K : PySem.W.Frag} {h : Heap} {mg : Str → Option Value} {x : Str} {st : Stmt} {ps : List Str} {f : Addr} {oc : Value} {od an : Option Addr} {osl : Array (Option Value)} {kV doc pm cdv ct : Value} (X : K.In h) (G : h.Ns mainGlobals mg)
    (a : PySem.W.nsIn K mainGlobals x = some (some (.ref f))) (l : K.lookup f = some ⟨oc, od, .func (PySem.W.fnOf x x (defArgs st) (defBody st) (defScope st) .none kV doc pm an cdv ct), osl⟩) (c : PySem.W.codeIn K cdv x = true) (k : PySem.W.keepIn K (.ref f) = true)
    (hb : ∀ (kV doc pm : Value) (an : Option Addr) (cdv ct : Value) (us : List Value), us.length = ps.length → bindArgs (PySem.W.fnOf x x (defArgs st) (defBody st) (defScope st) .none kV doc pm an cdv ct) ⟨us, []⟩ = pure (ps.zip us)) : Df K mg x st ps :=
  ⟨f, _, fun_mk l c k, PySem.W.mg_of X G a, (fun_mk l c k).binds hb⟩
theorem exm_two {K : PySem.W.Frag} {S : Addr} {c : Value} {b : Bool} (h1 : PySem.W.subIn K (.ref S) (.type "BaseException") = some true) (h2 : PySem.W.isClsIn K S = true) (h3 : PySem.W.typeIn K (.ref S) = some (.type "type")) (h4 : PySem.W.subIn K c (.ref S) = some b) : PySem.W.exmOne K c (.ref S) = some b := by
  have e1 : (PySem.W.subIn K (.ref S) (.type "BaseException") == some true) = true := by rw [h1] <;> rfl
  have e2 : ((PySem.W.clsIn K S).isSome && PySem.W.typeIn K (.ref S) == some (.type "type")) = true := by
    have h2' : (PySem.W.clsIn K S).isSome = true := h2
    rw [h2', h3] <;> rfl
  show (if (PySem.W.subIn K (.ref S) (.type "BaseException") == some true) = true then (if ((PySem.W.clsIn K S).isSome && PySem.W.typeIn K (.ref S) == some (.type "type")) = true then PySem.W.subIn K c (.ref S) else none) else none) = some b
  rw [if_pos e1, if_pos e2]
  exact h4
/-- what is asked of an error's class -/
structure ErrAt (K : PySem.W.Frag) (x : Str) (C CO fI : Addr) : Prop where
  a : PySem.W.nsIn K mainGlobals x = some (some (.ref C))
  xL : ∃ nm q N bs sn sub ab col dd m0 m1 m2 m3 m5, K.lookup C = some (excClassObj nm q C N bs [.ref CO, .type "ValueError", .type "Exception", .type "BaseException", .type "object"] true sn sub ab col dd m0 m1 m2 m3 m5 "ValueError.__new__")
  sa : PySem.W.findIn K (.ref C) "__setattr__" = some (some (.builtin "object.__setattr__"))
  ga : PySem.W.findIn K (.ref C) "__getattribute__" = some (some (.builtin "BaseException.__getattribute__"))
  gg : PySem.W.findIn K (.ref C) "__getattr__" = some none
  nb : PySem.W.findIn K (.ref C) "at" = some none
  ii : PySem.W.findIn K (.ref C) "__init__" = some (some (.ref fI))
  kC : PySem.W.keepIn K (.ref C) = true
  eC : PySem.W.subIn K (.ref C) (.type "BaseException") = some true
  tC : PySem.W.typeIn K (.ref C) = some (.type "type")
  hC : PySem.W.hasDictIn K C = true
  iC : PySem.W.isClsIn K C = true
  sC : PySem.W.subIn K (.ref C) (.ref C) = some true
structure InitAt (K : PySem.W.Frag) (fI : Addr) : Prop where
  t : PySem.W.typeIn K (.ref fI) = some (.type "function")
  l : ∃ oc od dc pm an cd ct sl, K.lookup fI = some ⟨oc, od, .func (PySem.W.fnOf "__init__" "OverpassesError.__init__" (PySem.LowX.iA ⟨4, 17, 4, 21⟩ ⟨4, 23, 4, 25⟩) (PySem.LowX.iB ⟨5, 8, 5, 12⟩ ⟨5, 8, 5, 15⟩ ⟨5, 18, 5, 20⟩ ⟨5, 8, 5, 20⟩) PySem.LowX.iS .none .none dc pm an cd ct), sl⟩ ∧ PySem.W.codeIn K cd "OverpassesError.__init__" = true
theorem low_mk {K : PySem.W.Frag} {h : Heap} {mg : Str → Option Value} {x : Str} {C CO fI : Addr} (X : K.In h) (G : h.Ns mainGlobals mg) (E : ErrAt K x C CO fI) (I : InitAt K fI) : PySem.LowX.LowTxt K mg x C fI := by
  obtain ⟨nm, q, N, bs, sn, sub, ab, col, dd, m0, m1, m2, m3, m5, xL⟩ := E.xL
  obtain ⟨oc, od, dc, pm, an, cd, ct, sl, l1, c1⟩ := I.l
  exact { gC := PySem.W.mg_of X G E.a, cls := ⟨nm, q, N, bs, _, sn, sub, ab, col, dd, m0, m1, m2, m3, m5, xL, rfl⟩, sa := E.sa, ga := E.ga, gg := E.gg, noN := E.nb, iC := E.ii, tC := I.t, kC := E.kC, exC := E.eC, tyC := E.tC, hdC := E.hC, te := exm_two E.eC E.iC E.tC E.sC, fn := ⟨_, _, _, _, _, _, _, _, _, _, _, _, _, _, l1, c1⟩ }
theorem all_mk {l : PySem.W.OpenLaw} {w : World} {K : PySem.W.Frag} {h : Heap} {mg : Str → Option Value} {fa f0 f1 f2 f3 f4 f5 f6 f7 f8 f9 f10 f11 f12 f13 f14 f15 : Addr} (X : K.In h) (G : h.Ns mainGlobals mg) (hfa : mg "law" = some (.ref fa))
    {od0 an0 od1 an1 od2 an2 od3 an3 od4 an4 od5 an5 od6 an6 od7 an7 od8 an8 od9 an9 od10 an10 od11 an11 od12 an12 od13 an13 od14 an14 od15 an15 : Option Addr} {sl0 sl1 sl2 sl3 sl4 sl5 sl6 sl7 sl8 sl9 sl10 sl11 sl12 sl13 sl14 sl15 : Array (Option Value)} {oc0 kV0 dc0 pm0 cd0 ct0 oc1 kV1 dc1 pm1 cd1 ct1 oc2 kV2 dc2 pm2 cd2 ct2 oc3 kV3 dc3 pm3 cd3 ct3 oc4 kV4 dc4 pm4 cd4 ct4 oc5 kV5 dc5 pm5 cd5 ct5 oc6 kV6 dc6 pm6 cd6 ct6 oc7 kV7 dc7 pm7 cd7 ct7 oc8 kV8 dc8 pm8 cd8 ct8 oc9 kV9 dc9 pm9 cd9 ct9 oc10 kV10 dc10 pm10 cd10 ct10 oc11 kV11 dc11 pm11 cd11 ct11 oc12 kV12 dc12 pm12 cd12 ct12 oc13 kV13 dc13 pm13 cd13 ct13 oc14 kV14 dc14 pm14 cd14 ct14 oc15 kV15 dc15 pm15 cd15 ct15 : Value}
    (a0 : PySem.W.nsIn K mainGlobals "neighbours" = some (some (.ref f0))) (l0 : K.lookup f0 = some ⟨oc0, od0, .func (PySem.W.fnOf "neighbours" "neighbours" (defArgs sNear) (defBody sNear) (defScope sNear) .none kV0 dc0 pm0 an0 cd0 ct0), sl0⟩) (c0 : PySem.W.codeIn K cd0 "neighbours" = true) (k0 : PySem.W.keepIn K (.ref f0) = true)
    (a1 : PySem.W.nsIn K mainGlobals "check_places" = some (some (.ref f1))) (l1 : K.lookup f1 = some ⟨oc1, od1, .func (PySem.W.fnOf "check_places" "check_places" (defArgs sChkPl) (defBody sChkPl) (defScope sChkPl) .none kV1 dc1 pm1 an1 cd1 ct1), sl1⟩) (c1 : PySem.W.codeIn K cd1 "check_places" = true) (k1 : PySem.W.keepIn K (.ref f1) = true)
    (a2 : PySem.W.nsIn K mainGlobals "is_order" = some (some (.ref f2))) (l2 : K.lookup f2 = some ⟨oc2, od2, .func (PySem.W.fnOf "is_order" "is_order" (defArgs sIsOrder) (defBody sIsOrder) (defScope sIsOrder) .none kV2 dc2 pm2 an2 cd2 ct2), sl2⟩) (c2 : PySem.W.codeIn K cd2 "is_order" = true) (k2 : PySem.W.keepIn K (.ref f2) = true)
    (a3 : PySem.W.nsIn K mainGlobals "ranks" = some (some (.ref f3))) (l3 : K.lookup f3 = some ⟨oc3, od3, .func (PySem.W.fnOf "ranks" "ranks" (defArgs sRanks) (defBody sRanks) (defScope sRanks) .none kV3 dc3 pm3 an3 cd3 ct3), sl3⟩) (c3 : PySem.W.codeIn K cd3 "ranks" = true) (k3 : PySem.W.keepIn K (.ref f3) = true)
    (a4 : PySem.W.nsIn K mainGlobals "greedy_order" = some (some (.ref f4))) (l4 : K.lookup f4 = some ⟨oc4, od4, .func (PySem.W.fnOf "greedy_order" "greedy_order" (defArgs sGreedy) (defBody sGreedy) (defScope sGreedy) .none kV4 dc4 pm4 an4 cd4 ct4), sl4⟩) (c4 : PySem.W.codeIn K cd4 "greedy_order" = true) (k4 : PySem.W.keepIn K (.ref f4) = true)
    (a5 : PySem.W.nsIn K mainGlobals "_joined" = some (some (.ref f5))) (l5 : K.lookup f5 = some ⟨oc5, od5, .func (PySem.W.fnOf "_joined" "_joined" (defArgs sJoinedG) (defBody sJoinedG) (defScope sJoinedG) .none kV5 dc5 pm5 an5 cd5 ct5), sl5⟩) (c5 : PySem.W.codeIn K cd5 "_joined" = true) (k5 : PySem.W.keepIn K (.ref f5) = true)
    (a6 : PySem.W.nsIn K mainGlobals "_law_draws" = some (some (.ref f6))) (l6 : K.lookup f6 = some ⟨oc6, od6, .func (PySem.W.fnOf "_law_draws" "_law_draws" (defArgs sDraws) (defBody sDraws) (defScope sDraws) .none kV6 dc6 pm6 an6 cd6 ct6), sl6⟩) (c6 : PySem.W.codeIn K cd6 "_law_draws" = true) (k6 : PySem.W.keepIn K (.ref f6) = true)
    (a7 : PySem.W.nsIn K mainGlobals "_law_at" = some (some (.ref f7))) (l7 : K.lookup f7 = some ⟨oc7, od7, .func (PySem.W.fnOf "_law_at" "_law_at" (defArgs sAt) (defBody sAt) (defScope sAt) .none kV7 dc7 pm7 an7 cd7 ct7), sl7⟩) (c7 : PySem.W.codeIn K cd7 "_law_at" = true) (k7 : PySem.W.keepIn K (.ref f7) = true)
    (a8 : PySem.W.nsIn K mainGlobals "_law_mix" = some (some (.ref f8))) (l8 : K.lookup f8 = some ⟨oc8, od8, .func (PySem.W.fnOf "_law_mix" "_law_mix" (defArgs sMix) (defBody sMix) (defScope sMix) .none kV8 dc8 pm8 an8 cd8 ct8), sl8⟩) (c8 : PySem.W.codeIn K cd8 "_law_mix" = true) (k8 : PySem.W.keepIn K (.ref f8) = true)
    (a9 : PySem.W.nsIn K mainGlobals "_law_price" = some (some (.ref f9))) (l9 : K.lookup f9 = some ⟨oc9, od9, .func (PySem.W.fnOf "_law_price" "_law_price" (defArgs sPrice) (defBody sPrice) (defScope sPrice) .none kV9 dc9 pm9 an9 cd9 ct9), sl9⟩) (c9 : PySem.W.codeIn K cd9 "_law_price" = true) (k9 : PySem.W.keepIn K (.ref f9) = true)
    (a10 : PySem.W.nsIn K mainGlobals "_law_net" = some (some (.ref f10))) (l10 : K.lookup f10 = some ⟨oc10, od10, .func (PySem.W.fnOf "_law_net" "_law_net" (defArgs sNet) (defBody sNet) (defScope sNet) .none kV10 dc10 pm10 an10 cd10 ct10), sl10⟩) (c10 : PySem.W.codeIn K cd10 "_law_net" = true) (k10 : PySem.W.keepIn K (.ref f10) = true)
    (a11 : PySem.W.nsIn K mainGlobals "_law_order" = some (some (.ref f11))) (l11 : K.lookup f11 = some ⟨oc11, od11, .func (PySem.W.fnOf "_law_order" "_law_order" (defArgs sOrder) (defBody sOrder) (defScope sOrder) .none kV11 dc11 pm11 an11 cd11 ct11), sl11⟩) (c11 : PySem.W.codeIn K cd11 "_law_order" = true) (k11 : PySem.W.keepIn K (.ref f11) = true)
    (a12 : PySem.W.nsIn K mainGlobals "_law_told" = some (some (.ref f12))) (l12 : K.lookup f12 = some ⟨oc12, od12, .func (PySem.W.fnOf "_law_told" "_law_told" (defArgs sOTold) (defBody sOTold) (defScope sOTold) .none kV12 dc12 pm12 an12 cd12 ct12), sl12⟩) (c12 : PySem.W.codeIn K cd12 "_law_told" = true) (k12 : PySem.W.keepIn K (.ref f12) = true)
    (a13 : PySem.W.nsIn K mainGlobals "_law_due" = some (some (.ref f13))) (l13 : K.lookup f13 = some ⟨oc13, od13, .func (PySem.W.fnOf "_law_due" "_law_due" (defArgs sODue) (defBody sODue) (defScope sODue) .none kV13 dc13 pm13 an13 cd13 ct13), sl13⟩) (c13 : PySem.W.codeIn K cd13 "_law_due" = true) (k13 : PySem.W.keepIn K (.ref f13) = true)
    (a14 : PySem.W.nsIn K mainGlobals "_law_greedy" = some (some (.ref f14))) (l14 : K.lookup f14 = some ⟨oc14, od14, .func (PySem.W.fnOf "_law_greedy" "_law_greedy" (defArgs sGreedyL) (defBody sGreedyL) (defScope sGreedyL) .none kV14 dc14 pm14 an14 cd14 ct14), sl14⟩) (c14 : PySem.W.codeIn K cd14 "_law_greedy" = true) (k14 : PySem.W.keepIn K (.ref f14) = true)
    (a15 : PySem.W.nsIn K mainGlobals "law" = some (some (.ref f15))) (l15 : K.lookup f15 = some ⟨oc15, od15, .func (PySem.W.fnOf "law" "law" (defArgs sLaw) (defBody sLaw) (defScope sLaw) .none kV15 dc15 pm15 an15 cd15 ct15), sl15⟩) (c15 : PySem.W.codeIn K cd15 "law" = true) (k15 : PySem.W.keepIn K (.ref f15) = true)
    {CO fI : Addr} {C0 C1 : Addr} {ocI : Value} {odI anI : Option Addr} {slI : Array (Option Value)} {dcI pmI cdI ctI : Value}
    (tI : PySem.W.typeIn K (.ref fI) = some (.type "function")) (lI : K.lookup fI = some ⟨ocI, odI, .func (PySem.W.fnOf "__init__" "OverpassesError.__init__" (PySem.LowX.iA ⟨4, 17, 4, 21⟩ ⟨4, 23, 4, 25⟩) (PySem.LowX.iB ⟨5, 8, 5, 12⟩ ⟨5, 8, 5, 15⟩ ⟨5, 18, 5, 20⟩ ⟨5, 8, 5, 20⟩) PySem.LowX.iS .none .none dcI pmI anI cdI ctI), slI⟩) (cI : PySem.W.codeIn K cdI "OverpassesError.__init__" = true)
    {nm100 : Str} {q100 : Str} {N100 : Addr} {bs100 : List Value} {sn100 : List Str} {sub100 : List Value} {ab100 : Bool} {col100 : Option Bool} {dd100 : Option Addr} {m0100 : Option Value} {m1100 : Option Value} {m2100 : Option Value} {m3100 : Option Value} {m5100 : Option Value}
    (ea0 : PySem.W.nsIn K mainGlobals "NoPlace" = some (some (.ref C0))) (ex0 : K.lookup C0 = some (excClassObj nm100 q100 C0 N100 bs100 [.ref CO, .type "ValueError", .type "Exception", .type "BaseException", .type "object"] true sn100 sub100 ab100 col100 dd100 m0100 m1100 m2100 m3100 m5100 "ValueError.__new__"))
    (es0 : PySem.W.findIn K (.ref C0) "__setattr__" = some (some (.builtin "object.__setattr__"))) (eg0 : PySem.W.findIn K (.ref C0) "__getattribute__" = some (some (.builtin "BaseException.__getattribute__"))) (eh0 : PySem.W.findIn K (.ref C0) "__getattr__" = some none) (en0 : PySem.W.findIn K (.ref C0) "at" = some none) (ei0 : PySem.W.findIn K (.ref C0) "__init__" = some (some (.ref fI)))
    (ek0 : PySem.W.keepIn K (.ref C0) = true) (eb0 : PySem.W.subIn K (.ref C0) (.type "BaseException") = some true) (et0 : PySem.W.typeIn K (.ref C0) = some (.type "type")) (ed0 : PySem.W.hasDictIn K C0 = true) (ec0 : PySem.W.isClsIn K C0 = true) (ef0 : PySem.W.subIn K (.ref C0) (.ref C0) = some true)
    {nm101 : Str} {q101 : Str} {N101 : Addr} {bs101 : List Value} {sn101 : List Str} {sub101 : List Value} {ab101 : Bool} {col101 : Option Bool} {dd101 : Option Addr} {m0101 : Option Value} {m1101 : Option Value} {m2101 : Option Value} {m3101 : Option Value} {m5101 : Option Value}
    (ea1 : PySem.W.nsIn K mainGlobals "NotAnOrder" = some (some (.ref C1))) (ex1 : K.lookup C1 = some (excClassObj nm101 q101 C1 N101 bs101 [.ref CO, .type "ValueError", .type "Exception", .type "BaseException", .type "object"] true sn101 sub101 ab101 col101 dd101 m0101 m1101 m2101 m3101 m5101 "ValueError.__new__"))
    (es1 : PySem.W.findIn K (.ref C1) "__setattr__" = some (some (.builtin "object.__setattr__"))) (eg1 : PySem.W.findIn K (.ref C1) "__getattribute__" = some (some (.builtin "BaseException.__getattribute__"))) (eh1 : PySem.W.findIn K (.ref C1) "__getattr__" = some none) (en1 : PySem.W.findIn K (.ref C1) "at" = some none) (ei1 : PySem.W.findIn K (.ref C1) "__init__" = some (some (.ref fI)))
    (ek1 : PySem.W.keepIn K (.ref C1) = true) (eb1 : PySem.W.subIn K (.ref C1) (.type "BaseException") = some true) (et1 : PySem.W.typeIn K (.ref C1) = some (.type "type")) (ed1 : PySem.W.hasDictIn K C1 = true) (ec1 : PySem.W.isClsIn K C1 = true) (ef1 : PySem.W.subIn K (.ref C1) (.ref C1) = some true)
    (z0 : PySem.W.nsIn K mainGlobals "range" = some none) (z1 : PySem.W.nsIn K mainGlobals "min" = some none) (z2 : PySem.W.nsIn K mainGlobals "max" = some none) (z3 : PySem.W.nsIn K mainGlobals "len" = some none) (z4 : PySem.W.nsIn K mainGlobals "abs" = some none) (z5 : PySem.W.nsIn K mainGlobals "int" = some none) (z6 : PySem.W.nsIn K mainGlobals "list" = some none) (z7 : PySem.W.nsIn K mainGlobals "isinstance" = some none) (z8 : PySem.W.nsIn K mainGlobals "enumerate" = some none) (z9 : PySem.W.nsIn K mainGlobals "sorted" = some none) (z10 : PySem.W.nsIn K mainGlobals "bool" = some none) :
    ∃ fd : FuncData, (∀ (s : Shared) (v : Value), BindsTo s fd ⟨[v], []⟩ [("script", v)]) ∧ ∀ base : Heap, K.In base → base.Ns mainGlobals mg → FnOk l.prog w K mg base CX0 9 fa fd ["script"] (spLaw K) := by
  have e := hfa.symm.trans (PySem.W.mg_of X G a15)
  cases e
  have D_neighbours : Df K mg "neighbours" sNear ["net", "a"] := df_mk X G a0 l0 c0 k0 (fun _ _ _ _ _ _ us hl => match us, hl with | [_, _], _ => rfl)
  have D_check_places : Df K mg "check_places" sChkPl ["n", "places"] := df_mk X G a1 l1 c1 k1 (fun _ _ _ _ _ _ us hl => match us, hl with | [_, _], _ => rfl)
  have D_is_order : Df K mg "is_order" sIsOrder ["net", "order"] := df_mk X G a2 l2 c2 k2 (fun _ _ _ _ _ _ us hl => match us, hl with | [_, _], _ => rfl)
  have D_ranks : Df K mg "ranks" sRanks ["order"] := df_mk X G a3 l3 c3 k3 (fun _ _ _ _ _ _ us hl => match us, hl with | [_], _ => rfl)
  have D_greedy_order : Df K mg "greedy_order" sGreedy ["net"] := df_mk X G a4 l4 c4 k4 (fun _ _ _ _ _ _ us hl => match us, hl with | [_], _ => rfl)
  have D__joined : Df K mg "_joined" sJoinedG ["near", "around", "taken", "place"] := df_mk X G a5 l5 c5 k5 (fun _ _ _ _ _ _ us hl => match us, hl with | [_, _, _, _], _ => rfl)
  have D__law_draws : Df K mg "_law_draws" sDraws ["script"] := df_mk X G a6 l6 c6 k6 (fun _ _ _ _ _ _ us hl => match us, hl with | [_], _ => rfl)
  have D__law_at : Df K mg "_law_at" sAt ["draws", "k", "many"] := df_mk X G a7 l7 c7 k7 (fun _ _ _ _ _ _ us hl => match us, hl with | [_, _, _], _ => rfl)
  have D__law_mix : Df K mg "_law_mix" sMix ["draws", "k", "many"] := df_mk X G a8 l8 c8 k8 (fun _ _ _ _ _ _ us hl => match us, hl with | [_, _, _], _ => rfl)
  have D__law_price : Df K mg "_law_price" sPrice ["draws", "k"] := df_mk X G a9 l9 c9 k9 (fun _ _ _ _ _ _ us hl => match us, hl with | [_, _], _ => rfl)
  have D__law_net : Df K mg "_law_net" sNet ["draws", "k", "most"] := df_mk X G a10 l10 c10 k10 (fun _ _ _ _ _ _ us hl => match us, hl with | [_, _, _], _ => rfl)
  have D__law_order : Df K mg "_law_order" sOrder ["draws", "k", "size"] := df_mk X G a11 l11 c11 k11 (fun _ _ _ _ _ _ us hl => match us, hl with | [_, _, _], _ => rfl)
  have D__law_told : Df K mg "_law_told" sOTold ["order"] := df_mk X G a12 l12 c12 k12 (fun _ _ _ _ _ _ us hl => match us, hl with | [_], _ => rfl)
  have D__law_due : Df K mg "_law_due" sODue ["order"] := df_mk X G a13 l13 c13 k13 (fun _ _ _ _ _ _ us hl => match us, hl with | [_], _ => rfl)
  have D__law_greedy : Df K mg "_law_greedy" sGreedyL ["net"] := df_mk X G a14 l14 c14 k14 (fun _ _ _ _ _ _ us hl => match us, hl with | [_], _ => rfl)
  have b_range := PySem.W.mg_none_of X G z0
  have b_min := PySem.W.mg_none_of X G z1
  have b_max := PySem.W.mg_none_of X G z2
  have b_len := PySem.W.mg_none_of X G z3
  have b_abs := PySem.W.mg_none_of X G z4
  have b_int := PySem.W.mg_none_of X G z5
  have b_list := PySem.W.mg_none_of X G z6
  have b_isinstance := PySem.W.mg_none_of X G z7
  have b_enumerate := PySem.W.mg_none_of X G z8
  have b_sorted := PySem.W.mg_none_of X G z9
  have b_bool := PySem.W.mg_none_of X G z10
  have E_NoPlace : PySem.LowX.LowTxt K mg "NoPlace" C0 fI := low_mk X G ⟨ea0, ⟨_, _, _, _, _, _, _, _, _, _, _, _, _, _, ex0⟩, es0, eg0, eh0, en0, ei0, ek0, eb0, et0, ed0, ec0, ef0⟩ ⟨tI, _, _, _, _, _, _, _, _, lI, cI⟩
  have E_NotAnOrder : PySem.LowX.LowTxt K mg "NotAnOrder" C1 fI := low_mk X G ⟨ea1, ⟨_, _, _, _, _, _, _, _, _, _, _, _, _, _, ex1⟩, es1, eg1, eh1, en1, ei1, ek1, eb1, et1, ed1, ec1, ef1⟩ ⟨tI, _, _, _, _, _, _, _, _, lI, cI⟩
  have F_law := fun_mk (st := sLaw) l15 c15 k15
  refine ⟨PySem.W.fnOf "law" "law" (defArgs sLaw) (defBody sLaw) (defScope sLaw) .none kV15 dc15 pm15 an15 cd15 ct15, fun s v => .of_eq rfl, fun base _ _ => ?_⟩
  have cD := kal_of D__law_draws (fun f fd F => ok_draws (P := l.prog) (w := w) (base := base) (k := 0) F b_range b_min b_len b_abs b_int)
  have cA := kal_of D__law_at (fun f fd F => ok_at (P := l.prog) (w := w) (base := base) (k := 0) F b_len b_int)
  have cM := kal_of D__law_mix (fun f fd F => ok_mix (P := l.prog) (w := w) (base := base) (k := 0) F b_len b_int)
  have cPr := kal_of D__law_price (fun f fd F => ok_price F cM b_int)
  have cN := kal_of D__law_net (fun f fd F => ok_net F cM cPr b_range)
  have cO := kal_of D__law_order (fun f fd F => ok_order F cM b_range)
  have cRk : KalX l.prog w K mg base 2 "ranks" ["order"] (spRanks K C1) := kalx_of D_ranks (fun f fd F => ok_ranks (P := l.prog) (w := w) (base := base) F E_NotAnOrder b_len b_enumerate)
  have cIs := kal_of D_is_order (fun f fd F => ok_isOrder (P := l.prog) (w := w) (base := base) (k := 0) F b_sorted b_list b_range)
  have cCp := kalx_of D_check_places (fun f fd F => ok_chkPl (P := l.prog) (w := w) (base := base) F E_NoPlace)
  have cNb := kalx_of D_neighbours (fun f fd F => ok_near F cCp)
  have cJ := kal_of D__joined (fun f fd F => ok_joined (P := l.prog) (w := w) (base := base) (K := K) (mg := mg) (k := 0) F)
  have cG := kal_of D_greedy_order (fun f fd F => ok_greedy (by decide) F cNb cJ b_len b_range b_list b_min)
  have cT := kal_of D__law_told (fun f fd F => ok_otold F E_NotAnOrder cRk)
  have cDu := kal_of D__law_due (fun f fd F => ok_odue (P := l.prog) (w := w) (base := base) (k := 0) F b_len b_range)
  have cGL := kal_of D__law_greedy (fun f fd F => ok_greedyL (P := l.prog) (w := w) (base := base) (k := 0) F b_len b_range)
  exact ok_law (by decide) (by decide) (by decide) (by decide) F_law cD cA cN cO cDu cIs cT cG cGL b_int b_list b_range b_len b_isinstance b_bool
end Ovc
open PySem PySem.W PyProof.Rows
set_option maxHeartbeats 0 in
theorem PySem.Challenge.cw_overpasses_k03_orders_and_ranks_holds : PySem.Challenge.rw_overpasses_k03_orders_and_ranks.Holds := by
  w_on; o_law; k_head; (case hw => w_witness2)
  k_fill
  refine L2.walk_of (l := PySem.Challenge.rw_overpasses_k03_orders_and_ranks) (n := 63) (k := 9) (x := "script") (CX := fun _ => L2.CX0) (sp := fun w => Ovc.spLaw _) rfl (by decide) rfl ⟨rfl, by decide, by decide⟩ (fun w h Y => PySem.W.kIn_of Y) ?F (fun _ _ a ns hl _ hS => ⟨a, ns, rfl, hS, hl, fun _ => rfl⟩) (fun _ _ _ _ _ h => h)
  case F =>
    intro w mg fa h KX G hmg
    refine' Ovc.all_mk KX G hmg ?a0 ?l0 ?c0 ?k0 ?a1 ?l1 ?c1 ?k1 ?a2 ?l2 ?c2 ?k2 ?a3 ?l3 ?c3 ?k3 ?a4 ?l4 ?c4 ?k4 ?a5 ?l5 ?c5 ?k5 ?a6 ?l6 ?c6 ?k6 ?a7 ?l7 ?c7 ?k7 ?a8 ?l8 ?c8 ?k8 ?a9 ?l9 ?c9 ?k9 ?a10 ?l10 ?c10 ?k10 ?a11 ?l11 ?c11 ?k11 ?a12 ?l12 ?c12 ?k12 ?a13 ?l13 ?c13 ?k13 ?a14 ?l14 ?c14 ?k14 ?a15 ?l15 ?c15 ?k15 ?tI ?lI ?cI ?ea0 ?ex0 ?es0 ?eg0 ?eh0 ?en0 ?ei0 ?ek0 ?eb0 ?et0 ?ed0 ?ec0 ?ef0 ?ea1 ?ex1 ?es1 ?eg1 ?eh1 ?en1 ?ei1 ?ek1 ?eb1 ?et1 ?ed1 ?ec1 ?ef1 ?z0 ?z1 ?z2 ?z3 ?z4 ?z5 ?z6 ?z7 ?z8 ?z9 ?z10
    (case a0 => k_is)
    (case l0 => k_is)
    (case c0 => k_is)
    (case k0 => k_is)
    (case a1 => k_is)
    (case l1 => k_is)
    (case c1 => k_is)
    (case k1 => k_is)
    (case a2 => k_is)
    (case l2 => k_is)
    (case c2 => k_is)
    (case k2 => k_is)
    (case a3 => k_is)
    (case l3 => k_is)
    (case c3 => k_is)
    (case k3 => k_is)
    (case a4 => k_is)
    (case l4 => k_is)
    (case c4 => k_is)
    (case k4 => k_is)
    (case a5 => k_is)
    (case l5 => k_is)
    (case c5 => k_is)
    (case k5 => k_is)
    (case a6 => k_is)
    (case l6 => k_is)
    (case c6 => k_is)
    (case k6 => k_is)
    (case a7 => k_is)
    (case l7 => k_is)
    (case c7 => k_is)
    (case k7 => k_is)
    (case a8 => k_is)
    (case l8 => k_is)
    (case c8 => k_is)
    (case k8 => k_is)
    (case a9 => k_is)
    (case l9 => k_is)
    (case c9 => k_is)
    (case k9 => k_is)
    (case a10 => k_is)
    (case l10 => k_is)
    (case c10 => k_is)
    (case k10 => k_is)
    (case a11 => k_is)
    (case l11 => k_is)
    (case c11 => k_is)
    (case k11 => k_is)
    (case a12 => k_is)
    (case l12 => k_is)
    (case c12 => k_is)
    (case k12 => k_is)
    (case a13 => k_is)
    (case l13 => k_is)
    (case c13 => k_is)
    (case k13 => k_is)
    (case a14 => k_is)
    (case l14 => k_is)
    (case c14 => k_is)
    (case k14 => k_is)
    (case a15 => k_is)
    (case l15 => k_is)
    (case c15 => k_is)
    (case k15 => k_is)
    (case ea0 => k_is)
    (case ex0 => k_is)
    (case es0 => k_is)
    (case eg0 => k_is)
    (case eh0 => k_is)
    (case en0 => k_is)
    (case ei0 => k_is)
    (case ek0 => k_is)
    (case eb0 => k_is)
    (case et0 => k_is)
    (case ed0 => k_is)
    (case ec0 => k_is)
    (case ef0 => first | rfl | k_is)
    (case ea1 => k_is)
    (case ex1 => k_is)
    (case es1 => k_is)
    (case eg1 => k_is)
    (case eh1 => k_is)
    (case en1 => k_is)
    (case ei1 => k_is)
    (case ek1 => k_is)
    (case eb1 => k_is)
    (case et1 => k_is)
    (case ed1 => k_is)
    (case ec1 => k_is)
    (case ef1 => first | rfl | k_is)
    (case z0 => k_is)
    (case z1 => k_is)
    (case z2 => k_is)
    (case z3 => k_is)
    (case z4 => k_is)
    (case z5 => k_is)
    (case z6 => k_is)
    (case z7 => k_is)
    (case z8 => k_is)
    (case z9 => k_is)
    (case z10 => k_is)
    (case tI => k_is)
    (case lI => k_is)
    (case cI => k_is)
