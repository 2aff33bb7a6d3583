import PyProof.Rows.All
import Wide.All
import OpenK.AllK
import Wide.FinOn
import PySem.Challenge.RW_overpasses_k02_texts_of_nets
import HandS.Base
import HandS.Call
import HandS.List
import HandS.Comp
import HandS.Dict
import HandS.Ends
import HandS.Iter
import HandS.Text
import HandS.Words
import HandS.Evl
import HandS.IsInst
import HandS.Style
import HandS.Exc
import HandS.TryOnly
import HandS.TryMany
import HandS.ExcOwn
import HandS.WordsExc
import HandS.TupLe
import HandS.FStr
import HandS.StrMore
import HandS.StrSplit
import HandS.Walk
import KE.IntTextLaws
import KE.KIntText
set_option Elab.async false
set_option linter.all false
set_option maxRecDepth 100000
set_option maxHeartbeats 2000000
namespace Ovc
open PySem PySem.Spec PyProof.Rows L2
def topS (i : Nat) : Stmt := PySem.Challenge.pw_overpasses_k02_texts_of_nets.main.body.getD i (.Pass ⟨0, 0, 0, 0⟩)
/-! ### heaps -/
theorem same_upd {H : Hp} {p : Addr} {o : HO} (h : H p = none) : Same H (upd H p o) := fun b x e => by
  rw [upd_ne (ne_of_none e h)]
  exact e
theorem same_upd' {G H : Hp} {p : Addr} {o : HO} (s : Same G H) (h : G p = none) : Same G (upd H p o) := fun b x e => by
  rw [upd_ne (ne_of_none e h)]
  exact s b x e
/-- all of H but what stands at o -/
def but (H : Hp) (o : Addr) : Hp := fun b => if b = o then none else H b
theorem but_at {H : Hp} {o : Addr} : but H o o = none := if_pos rfl
theorem but_ne {H : Hp} {o b : Addr} (h : b ≠ o) : but H o b = H b := if_neg h
theorem but_same {H : Hp} {o : Addr} : Same (but H o) H := fun b x e => by
  by_cases h : b = o
  · rw [h, but_at] at e
    cases e
  · rw [but_ne h] at e
    exact e
theorem same_but {G H : Hp} {o : Addr} (s : Same G H) (n : G o = none) : Same G (but H o) := fun b x e => by
  rw [but_ne (ne_of_none e n)]
  exact s b x e
theorem but_mono {H H' : Hp} {o : Addr} (s : Same H H') : Same (but H o) (but H' o) := fun b x e => by
  by_cases h : b = o
  · rw [h, but_at] at e
    cases e
  · rw [but_ne h] at e ⊢
    exact s b x e
theorem but_upd {H : Hp} {o : Addr} {u : HO} : but (upd H o u) o = but H o := by
  funext b
  by_cases h : b = o
  · rw [h, but_at, but_at]
  · rw [but_ne h, but_ne h, upd_ne h]
/-- a store at o, seen from what stands beside it -/
theorem but_upd_same {H : Hp} {o : Addr} {u : HO} : Same (but H o) (upd H o u) := fun b x e => by
  by_cases h : b = o
  · rw [h, but_at] at e
    cases e
  · rw [but_ne h] at e
    rw [upd_ne h]
    exact e
theorem seqT {K : PySem.W.Frag} {H H' : Hp} {a : Addr} {xs : List V} (e : Same H H') (h : SqT K H a xs) : SqT K H' a xs := by
  rcases h with (h | ⟨o, h⟩) | h
  · exact .inl (.inl (e _ _ h))
  · exact .inl (.inr ⟨o, e _ _ h⟩)
  · exact .inr h
mutual
theorem dpS {K : PySem.W.Frag} {H H' : Hp} (s : Same H H') : ∀ (d : PyData) (v : V), Dp K H v d → Dp K H' v d
  | .none, _, h => by
    cases h
    exact .non
  | .bool b, _, h => by
    cases h
    exact .bl b
  | .int i, _, h => by
    cases h
    exact .int i
  | .str x, _, h => by
    cases h
    exact .str x
  | .list ds, _, h => by
    cases h with
    | lst hs ha => exact .lst (s.seq hs) (dpSAll s ds _ ha)
  | .tuple ds, _, h => by
    cases h with
    | tup hs ha => exact .tup (seqT s hs) (dpSAll s ds _ ha)
  | .dict _, _, h => by cases h
theorem dpSAll {K : PySem.W.Frag} {H H' : Hp} (s : Same H H') : ∀ (ds : List PyData) (vs : List V), DpAll K H vs ds → DpAll K H' vs ds
  | [], _, h => by
    cases h
    exact .nil
  | d :: ds, _, h => by
    cases h with
    | cons h1 h2 => exact .cons (dpS s d _ h1) (dpSAll s ds _ h2)
end
theorem Dp.to {K : PySem.W.Frag} {H H' : Hp} {v : V} {d : PyData} (h : Dp K H v d) (s : Same H H') : Dp K H' v d := dpS s d v h
theorem DpAll.to {K : PySem.W.Frag} {H H' : Hp} {vs : List V} {ds : List PyData} (h : DpAll K H vs ds) (s : Same H H') : DpAll K H' vs ds := dpSAll s ds vs h
theorem DpAll.len {K : PySem.W.Frag} {H : Hp} : ∀ {vs : List V} {ds : List PyData}, DpAll K H vs ds → vs.length = ds.length
  | _, _, .nil => rfl
  | _, _, .cons _ t => by
    rw [List.length_cons, List.length_cons, DpAll.len t]
theorem DpAll.get {K : PySem.W.Frag} {H : Hp} : ∀ {vs : List V} {ds : List PyData} {i : Nat} {d : PyData}, DpAll K H vs ds → ds[i]? = some d → ∃ v, vs[i]? = some v ∧ Dp K H v d
  | _, _, i, d, .nil, e => by simp at e
  | _, _, 0, d, .cons h _, e => by
    have e' := Option.some.inj e
    subst e'
    exact ⟨_, rfl, h⟩
  | _, _, i + 1, d, .cons _ t, e => DpAll.get (i := i) t e
theorem DpAll.app {K : PySem.W.Frag} {H : Hp} : ∀ {vs ws : List V} {ds es : List PyData}, DpAll K H vs ds → DpAll K H ws es → DpAll K H (vs ++ ws) (ds ++ es)
  | _, _, _, _, .nil, t => t
  | _, _, _, _, .cons h r, t => .cons h (DpAll.app r t)
theorem DpAll.take {K : PySem.W.Frag} {H : Hp} : ∀ {vs : List V} {ds : List PyData} (n : Nat), DpAll K H vs ds → DpAll K H (vs.take n) (ds.take n)
  | _, _, 0, _ => .nil
  | _, _, _ + 1, .nil => .nil
  | _, _, n + 1, .cons h t => .cons h (DpAll.take n t)
theorem DpAll.drop {K : PySem.W.Frag} {H : Hp} : ∀ {vs : List V} {ds : List PyData} (n : Nat), DpAll K H vs ds → DpAll K H (vs.drop n) (ds.drop n)
  | _, _, 0, h => h
  | _, _, _ + 1, .nil => .nil
  | _, _, n + 1, .cons _ t => DpAll.drop n t
theorem DpAll.one {K : PySem.W.Frag} {H : Hp} {v : V} {d : PyData} (h : Dp K H v d) : DpAll K H [v] [d] := .cons h .nil
theorem Dp.int_inv {K : PySem.W.Frag} {H : Hp} {v : V} {i : Int} (h : Dp K H v (.int i)) : v = .int i := by
  cases h
  rfl
theorem DpAll.ints {K : PySem.W.Frag} {H : Hp} : ∀ ns : List Int, DpAll K H (ns.map V.int) (ns.map PyData.int)
  | [] => .nil
  | n :: ns => .cons (.int n) (DpAll.ints ns)
theorem DpAll.ints_inv {K : PySem.W.Frag} {H : Hp} : ∀ {ns : List Int} {vs : List V}, DpAll K H vs (ns.map PyData.int) → vs = ns.map V.int
  | [], _, h => by
    cases h
    rfl
  | n :: ns, _, h => by
    cases h with
    | cons h1 h2 =>
      rw [Dp.int_inv h1, DpAll.ints_inv h2]
      rfl
theorem Dp.lst_inv {K : PySem.W.Frag} {H : Hp} {v : V} {ds : List PyData} (h : Dp K H v (.list ds)) : ∃ a xs, v = .ref a ∧ SqL K H a xs ∧ DpAll K H xs ds := by
  cases h with
  | lst hs ha => exact ⟨_, _, rfl, hs, ha⟩
theorem Dp.tup_inv {K : PySem.W.Frag} {H : Hp} {v : V} {ds : List PyData} (h : Dp K H v (.tuple ds)) : ∃ a xs, v = .ref a ∧ SqT K H a xs ∧ DpAll K H xs ds := by
  cases h with
  | tup hs ha => exact ⟨_, _, rfl, hs, ha⟩
/-! ### an int or None -/
def oV : Option Int → V
  | none => .non
  | some i => .int i
def oD : Option Int → PyData
  | none => .none
  | some i => .int i
theorem Dp.o {K : PySem.W.Frag} {H : Hp} : ∀ o : Option Int, Dp K H (oV o) (oD o)
  | none => .non
  | some i => .int i
theorem Dp.o_inv {K : PySem.W.Frag} {H : Hp} {v : V} : ∀ {o : Option Int}, Dp K H v (oD o) → v = oV o
  | none, h => by
    cases h
    rfl
  | some i, h => by
    cases h
    rfl
theorem oV_non {o : Option Int} : decide (oV o = .non) = o.isNone := by
  cases o <;> rfl
theorem eqv_o : ∀ a b : Option Int, PyData.eqv (oD a) (oD b) = decide (a = b)
  | none, none => by rfl
  | none, some _ => by rfl
  | some _, none => by rfl
  | some a, some b => by
    show (a == b) = _
    by_cases h : a = b
    · subst h
      rw [decide_eq_true rfl]
      exact beq_self_eq_true a
    · rw [decide_eq_false (fun e => h (Option.some.inj e))]
      exact beq_eq_false_iff_ne.mpr h
theorem shaped_o (a : Option Int) : SeqAt.shaped (oD a) = true := by
  cases a <;> rfl
/-! ### links and nets -/
structure Lnk where
  a : Int
  b : Int
  t : Option Int
  k : Option Int
structure Net where
  n : Int
  ls : List Lnk
def lnkV (l : Lnk) : List V := [.int l.a, .int l.b, oV l.t, oV l.k]
def lnkD (l : Lnk) : PyData := .tuple [.int l.a, .int l.b, oD l.t, oD l.k]
def netD (N : Net) : PyData := .tuple [.int N.n, .list (N.ls.map lnkD)]
theorem Dp.lnk_inv {K : PySem.W.Frag} {H : Hp} {v : V} {l : Lnk} (h : Dp K H v (lnkD l)) : ∃ a, v = .ref a ∧ SqT K H a (lnkV l) := by
  obtain ⟨a, xs, rfl, hs, ha⟩ := Dp.tup_inv h
  cases ha with
  | cons h1 r1 =>
    cases r1 with
    | cons h2 r2 =>
      cases r2 with
      | cons h3 r3 =>
        cases r3 with
        | cons h4 r4 =>
          cases r4
          rw [Dp.int_inv h1, Dp.int_inv h2, Dp.o_inv h3, Dp.o_inv h4] at hs
          exact ⟨a, rfl, hs⟩
theorem Dp.lnk {K : PySem.W.Frag} {H : Hp} {a : Addr} {l : Lnk} (h : SqT K H a (lnkV l)) : Dp K H (.ref a) (lnkD l) :=
  .tup h (.cons (.int _) (.cons (.int _) (.cons (Dp.o _) (.cons (Dp.o _) .nil))))
theorem Dp.net_inv {K : PySem.W.Frag} {H : Hp} {v : V} {N : Net} (h : Dp K H v (netD N)) : ∃ p q xs, v = .ref p ∧ SqT K H p [.int N.n, .ref q] ∧ SqL K H q xs ∧ DpAll K H xs (N.ls.map lnkD) := by
  obtain ⟨a, xs, rfl, hs, ha⟩ := Dp.tup_inv h
  cases ha with
  | cons h1 r1 =>
    cases r1 with
    | cons h2 r2 =>
      cases r2
      obtain ⟨q, ys, rfl, hl, hy⟩ := Dp.lst_inv h2
      rw [Dp.int_inv h1] at hs
      exact ⟨a, q, ys, rfl, hs, hl, hy⟩
theorem Dp.net {K : PySem.W.Frag} {H : Hp} {p q : Addr} {xs : List V} {N : Net} (h : SqT K H p [.int N.n, .ref q]) (hq : SqL K H q xs) (hx : DpAll K H xs (N.ls.map lnkD)) : Dp K H (.ref p) (netD N) :=
  .tup h (.cons (.int _) (.cons (.lst hq hx) .nil))
/-! ### pure expressions: what they evaluate to, the heap as it is -/
def Vl (te : TE) (σ : L2.St) (H : Hp) (v : V) : Prop := ∀ Q : VK, Q v H → te σ H Q
def An (t : TT) (σ : L2.St) (H : Hp) (b : Bool) : Prop := ∀ Q : Bool → Hp → Prop, Q b H → t σ H Q
def Va (ta : TA) (σ : L2.St) (H : Hp) (vs : List V) : Prop := ∀ Q : List V → Hp → Prop, Q vs H → ta σ H Q
section
variable {K : PySem.W.Frag} {σ : L2.St} {H : Hp} {i : Nat} {v x y z : V} {ta tb te tv : TE} {b : Bool} {a : Addr} {t u c : TT} {tr : TA} {D : Ends} {tz tw : TS}
theorem va_nil : Va tNil σ H [] := fun _ q => q
theorem va_cons {vs : List V} (h : Vl ta σ H x) (hr : Va tr σ H vs) : Va (tCons ta tr) σ H (x :: vs) := fun Q q => h _ (hr _ q)
theorem vl_var (h : σ[i]? = some (some v)) : Vl (tVar i) σ H v := fun _ q => ⟨v, h, q⟩
theorem vl_c : Vl (tC v) σ H v := fun _ q => q
theorem vl_op {r : R2} (ha : Vl ta σ H x) (hb : Vl tb σ H y) (hr : ∀ Q : VK, Q z H → r x y H Q) : Vl (tOp r ta tb) σ H z := fun Q q => ha _ (hb _ (hr _ q))
theorem vl_I0 {g : Int → Int → V} {p q : Int} (ha : Vl ta σ H (.int p)) (hb : Vl tb σ H (.int q)) : Vl (tOp (rI0 g) ta tb) σ H (g p q) := vl_op ha hb fun _ k => ⟨p, q, rfl, rfl, k⟩
theorem vl_I {C : Int → Int → Prop} {g : Int → Int → V} {p q : Int} (ha : Vl ta σ H (.int p)) (hb : Vl tb σ H (.int q)) (hc : C p q) : Vl (tOp (rI C g) ta tb) σ H (g p q) := vl_op ha hb fun _ k => ⟨p, q, rfl, rfl, hc, k⟩
theorem vl_un {r : V → Hp → VK → Prop} (ha : Vl ta σ H x) (hr : ∀ Q : VK, Q z H → r x H Q) : Vl (tUn r ta) σ H z := fun Q q => ha _ (hr _ q)
theorem vl_neg {p : Int} (ha : Vl ta σ H (.int p)) : Vl (tUn (rU fun i => .int (-i)) ta) σ H (.int (-p)) := vl_un ha fun _ k => ⟨p, rfl, k⟩
theorem vl_cb {r : List V → Hp → VK → Prop} {vs : List V} (h : Va tr σ H vs) (hr : ∀ Q : VK, Q z H → r vs H Q) : Vl (tCB r tr) σ H z := fun Q q => h _ (hr _ q)
theorem vl_int1 {p : Int} (ha : Vl ta σ H (.int p)) : Vl (tCB (fun xs H Q => (∃ i, xs = [V.int i] ∧ Q (V.int i) H) ∨ ∃ k, xs = [V.bl k] ∧ Q (V.int (if k then 1 else 0)) H) (tCons ta tNil)) σ H (.int p) :=
  vl_cb (va_cons ha va_nil) fun _ k => .inl ⟨p, rfl, k⟩
theorem vl_int1b {k : Bool} (ha : Vl ta σ H (.bl k)) : Vl (tCB (fun xs H Q => (∃ i, xs = [V.int i] ∧ Q (V.int i) H) ∨ ∃ k, xs = [V.bl k] ∧ Q (V.int (if k then 1 else 0)) H) (tCons ta tNil)) σ H (.int (if k then 1 else 0)) :=
  vl_cb (va_cons ha va_nil) fun _ q => .inr ⟨k, rfl, q⟩
theorem vl_abs {p : Int} (ha : Vl ta σ H (.int p)) : Vl (tCB (fun xs H Q => ∃ i, xs = [V.int i] ∧ Q (V.int (if i < 0 then -i else i)) H) (tCons ta tNil)) σ H (.int (if p < 0 then -p else p)) :=
  vl_cb (va_cons ha va_nil) fun _ k => ⟨p, rfl, k⟩
theorem vl_min2 {p q : Int} (ha : Vl ta σ H (.int p)) (hb : Vl tb σ H (.int q)) : Vl (tCB (fun xs H Q => ∃ i j, xs = [V.int i, V.int j] ∧ Q (V.int (if j < i then j else i)) H) (tCons ta (tCons tb tNil))) σ H (.int (if q < p then q else p)) :=
  vl_cb (va_cons ha (va_cons hb va_nil)) fun _ k => ⟨p, q, rfl, k⟩
theorem vl_max2 {p q : Int} (ha : Vl ta σ H (.int p)) (hb : Vl tb σ H (.int q)) : Vl (tCB (fun xs H Q => ∃ i j, xs = [V.int i, V.int j] ∧ Q (V.int (if j > i then j else i)) H) (tCons ta (tCons tb tNil))) σ H (.int (if q > p then q else p)) :=
  vl_cb (va_cons ha (va_cons hb va_nil)) fun _ k => ⟨p, q, rfl, k⟩
theorem vl_lenL {xs : List V} (ha : Vl ta σ H (.ref a)) (h : SqL K H a xs) : Vl (tCB (fun xs H Q => ∃ p ys, xs = [V.ref p] ∧ (SqL K H p ys ∨ SqT K H p ys) ∧ Q (V.int ys.length) H) (tCons ta tNil)) σ H (.int xs.length) :=
  vl_cb (va_cons ha va_nil) fun _ k => ⟨a, xs, rfl, .inl h, k⟩
theorem vl_ixL {xs : List V} {p : Int} (ha : Vl ta σ H (.ref a)) (hb : Vl tb σ H (.int p)) (h : SqL K H a xs) (hg : atI xs p = some z) : Vl (tOp (rIxL K) ta tb) σ H z :=
  vl_op ha hb fun _ k => ⟨a, xs, p, z, rfl, rfl, h, hg, k⟩
theorem vl_ixT {xs : List V} {p : Int} (ha : Vl ta σ H (.ref a)) (hb : Vl tb σ H (.int p)) (h : SqT K H a xs) (hg : atI xs p = some z) : Vl (tOp (rIxT K) ta tb) σ H z :=
  vl_op ha hb fun _ k => ⟨a, xs, p, z, rfl, rfl, h, hg, k⟩
theorem vl_eq (ha : Vl ta σ H x) (hb : Vl tb σ H y) (hs : scal x y = true) : Vl (tOp rEq ta tb) σ H (.bl (decide (x = y))) := vl_op ha hb fun _ k => ⟨hs, k⟩
theorem vl_ne (ha : Vl ta σ H x) (hb : Vl tb σ H y) (hs : scal x y = true) : Vl (tOp rNe ta tb) σ H (.bl (!decide (x = y))) := vl_op ha hb fun _ k => ⟨hs, k⟩
theorem vl_isN (ha : Vl ta σ H x) : Vl (tOp (fun x y H Q => y = V.non ∧ Q (V.bl (decide (x = V.non))) H) ta (tC .non)) σ H (.bl (decide (x = .non))) := vl_op ha vl_c fun _ k => ⟨rfl, k⟩
theorem vl_notN (ha : Vl ta σ H x) : Vl (tOp (fun x y H Q => y = V.non ∧ Q (V.bl (!decide (x = V.non))) H) ta (tC .non)) σ H (.bl (!decide (x = .non))) := vl_op ha vl_c fun _ k => ⟨rfl, k⟩
theorem vl_chain {r r' : R2} {tc : TE} {w : V} {k m : Bool} (ha : Vl ta σ H x) (hb : Vl tb σ H y) (hr : ∀ Q : VK, Q (.bl k) H → r x y H Q) (hc : Vl tc σ H w) (hr' : ∀ Q : VK, Q (.bl m) H → r' y w H Q) : Vl (tChain r r' ta tb tc) σ H (.bl (k && m)) := fun Q q =>
  ha _ (hb _ (hr _ ⟨k, rfl, by
    cases k with
    | true => exact iteT (hc _ (hr' _ q))
    | false => exact iteF q⟩))
theorem vl_chainI {g g' : Int → Int → Bool} {tc : TE} {p q s : Int} (ha : Vl ta σ H (.int p)) (hb : Vl tb σ H (.int q)) (hc : Vl tc σ H (.int s)) :
    Vl (tChain (rI0 fun i j => .bl (g i j)) (rI0 fun i j => .bl (g' i j)) ta tb tc) σ H (.bl (g p q && g' q s)) :=
  vl_chain ha hb (fun _ k => ⟨p, q, rfl, rfl, k⟩) hc (fun _ k => ⟨q, s, rfl, rfl, k⟩)
theorem vl_if {b : Bool} (h : An t σ H b) (h1 : b = true → Vl ta σ H v) (h2 : b = false → Vl tb σ H v) : Vl (tIf t ta tb) σ H v := fun Q q => h _ (by
  cases b with
  | true => exact iteT (h1 rfl _ q)
  | false => exact iteF (h2 rfl _ q))
theorem an_test {b : Bool} (h : Vl te σ H (.bl b)) : An (tTest te) σ H b := fun Q q => h _ ⟨b, rfl, q⟩
theorem an_B {b : Bool} (h : Vl te σ H (.bl b)) : An (tB te) σ H b := fun Q q => h _ ⟨b, rfl, q⟩
theorem an_not (h : An t σ H b) : An (tNot t) σ H (!b) := fun Q q => h _ q
theorem an_and {k m : Bool} (h1 : An t σ H k) (h2 : k = true → An u σ H m) : An (tAnd t u) σ H (k && m) := fun Q q => h1 _ (by
  cases k with
  | true => exact iteT (h2 rfl _ q)
  | false => exact iteF q)
theorem an_or {k m : Bool} (h1 : An t σ H k) (h2 : k = false → An u σ H m) : An (tOr t u) σ H (k || m) := fun Q q => h1 _ (by
  cases k with
  | true => exact iteT q
  | false => exact iteF (h2 rfl _ q))
theorem An.is {k m : Bool} (h : An t σ H k) (e : k = m) : An t σ H m := e ▸ h
theorem Vl.is {v w : V} (h : Vl te σ H v) (e : v = w) : Vl te σ H w := e ▸ h
/-! ### statements over them -/
theorem g_seq (h : tz { D with nx := tw D } σ H) : tSeq tz tw D σ H := h
theorem g_asg {i : Nat} (h : Vl te σ H v) (k : D.nx (σ.set i (some v)) H) : tAsg te (gName i) D σ H := h _ k
theorem g_ret (h : Vl te σ H v) (k : D.rt v H) : tRet te D σ H := h _ k
theorem g_if {b : Bool} (h : An t σ H b) (h1 : b = true → tz D σ H) (h2 : b = false → tw D σ H) : tIfS t tz tw D σ H := h _ (by
  cases b with
  | true => exact iteT (h1 rfl)
  | false => exact iteF (h2 rfl))
theorem g_app {l : Addr} {xs : List V} (ho : Vl ta σ H (.ref l)) (hl : H l = some (.lst xs)) (h : Vl te σ H v) (hz : xs.length < sizeLine) (k : D.nx σ (upd H l (.lst (xs ++ [v])))) :
    tDrop (tBM K "list" rAppend ta (tCons te tNil)) D σ H := ho _ ⟨.inl ⟨rfl, _, .inl (.inl hl)⟩, h _ ⟨l, xs, v, rfl, rfl, hl, hz, k⟩⟩
theorem at_int {ds : List Int} {k : Int} (h0 : 0 ≤ k) (h1 : k < (ds.length : Int)) : ∃ d, atI (ds.map V.int) k = some (.int d) ∧ ds[k.toNat]? = some d := by
  have hj : k.toNat < ds.length := by omega
  have g : (ds.map V.int)[k.toNat]? = some (.int ds[k.toNat]) := by
    rw [List.getElem?_map, List.getElem?_eq_getElem hj]
    rfl
  have g2 := atI_nat g
  rw [show ((k.toNat : Nat) : Int) = k by omega] at g2
  exact ⟨ds[k.toNat], g2, List.getElem?_eq_getElem hj⟩
/-! ### loops -/
theorem g_forR {j : Nat} {n : Int} (h : Va tr σ H [.int n]) (hn : -(2 ^ 62) ≤ n ∧ n < 2 ^ 62) (Pv : Nat → L2.St → Hp → Prop) (h0 : Pv 0 σ H)
    (hs : ∀ (i : Nat) σ H, (i : Int) < n → Pv i σ H → tz { D with nx := Pv (i + 1), ct := Pv (i + 1), bk := D.nx } (σ.set j (some (.int i))) H) (hd : ∀ σ H, Pv n.toNat σ H → D.nx σ H) :
    tFor (iRng1 tr) (gName j) tz D σ H := h _ ⟨n, rfl, hn.1, hn.2, for_range (lo := 0) (n := n.toNat) Pv h0 (fun i σ H hi p => by
      show tz _ (σ.set j (some (.int (0 + i)))) H
      rw [Int.zero_add]
      exact hs i σ H (by omega) p) hd⟩
theorem g_forR2 {j : Nat} {lo n : Int} (h : Va tr σ H [.int lo, .int n]) (hn : -(2 ^ 62) ≤ lo ∧ lo < 2 ^ 62 ∧ -(2 ^ 62) ≤ n ∧ n < 2 ^ 62) (Pv : Nat → L2.St → Hp → Prop) (h0 : Pv 0 σ H)
    (hs : ∀ (i : Nat) σ H, lo + (i : Int) < n → Pv i σ H → tz { D with nx := Pv (i + 1), ct := Pv (i + 1), bk := D.nx } (σ.set j (some (.int (lo + i)))) H) (hd : ∀ σ H, Pv (n - lo).toNat σ H → D.nx σ H) :
    tFor (iRng2 tr) (gName j) tz D σ H := h _ ⟨lo, n, rfl, hn, for_range (lo := lo) (n := (n - lo).toNat) Pv h0 (fun i σ H hi p => hs i σ H (by omega) p) hd⟩
theorem g_forL {j : Nat} {xs : List V} {tl : TE} (h : Vl tl σ H (.ref a)) (hx : SqL K H a xs) (Pv : Nat → L2.St → Hp → Prop) (h0 : Pv 0 σ H) (hl : ∀ i σ' H', Pv i σ' H' → SqL K H' a xs)
    (hs : ∀ (i : Nat) x σ H, xs[i]? = some x → Pv i σ H → tz { D with nx := Pv (i + 1), ct := Pv (i + 1), bk := D.nx } (σ.set j (some x)) H) (hd : ∀ σ H, Pv xs.length σ H → D.nx σ H) :
    tFor (iList K tl) (gName j) tz D σ H := h _ ⟨a, rfl, ⟨_, hx⟩, for_list (xs := xs) Pv h0 (fun i σ H _ p => hl i σ H p) hs hd⟩
/-- for a, b, there, back in links -/
theorem g_forLnk {j1 j2 j3 j4 : Nat} {Hb : Hp} {xs : List V} {ls : List Lnk} {tl : TE} (h : Vl tl σ H (.ref a)) (hx : SqL K Hb a xs) (hL : DpAll K Hb xs (ls.map lnkD)) (hb : Same Hb H) (Pv : Nat → L2.St → Hp → Prop) (h0 : Pv 0 σ H) (hl : ∀ i σ' H', Pv i σ' H' → Same Hb H')
    (hs : ∀ (i : Nat) l σ H, ls[i]? = some l → Pv i σ H → tz { D with nx := Pv (i + 1), ct := Pv (i + 1), bk := D.nx } ((((σ.set j1 (some (.int l.a))).set j2 (some (.int l.b))).set j3 (some (oV l.t))).set j4 (some (oV l.k))) H) (hd : ∀ σ H, Pv ls.length σ H → D.nx σ H) :
    tFor (iList K tl) (gTup K 4 (gCons (gName j1) (gCons (gName j2) (gCons (gName j3) (gCons (gName j4) gNil))))) tz D σ H := h _ ⟨a, rfl, ⟨_, hb.seq hx⟩, for_list (xs := xs) Pv h0 (fun i σ H _ p => (hl i σ H p).seq hx) (fun i x σ H hi p => by
      have e := DpAll.len hL
      rw [List.length_map] at e
      have hlt : i < xs.length := by
        by_cases hlt : i < xs.length
        · exact hlt
        · rw [List.getElem?_eq_none (by omega)] at hi
          cases hi
      have hg : ls[i]? = some ls[i] := List.getElem?_eq_getElem (by omega)
      obtain ⟨v, hv, dv⟩ := DpAll.get (i := i) (d := lnkD ls[i]) hL (by
        rw [List.getElem?_map, hg]
        rfl)
      cases hi.symm.trans hv
      obtain ⟨t, rfl, ht⟩ := Dp.lnk_inv dv
      exact ⟨t, _, rfl, seqT (hl i σ H p) ht, rfl, _, _, rfl, _, _, rfl, _, _, rfl, _, _, rfl, rfl, hs i _ σ H hg p⟩) (fun σ H p => by
      have e := DpAll.len hL
      rw [List.length_map] at e
      rw [e] at p
      exact hd σ H p)⟩
/-! ### the same with what follows -/
theorem q_asg {i : Nat} (h : Vl te σ H v) (k : tw D (σ.set i (some v)) H) : tSeq (tAsg te (gName i)) tw D σ H := h _ k
theorem q_if {b : Bool} {tu : TS} (h : An t σ H b) (h1 : b = true → tz { D with nx := tw D } σ H) (h2 : b = false → tu { D with nx := tw D } σ H) : tSeq (tIfS t tz tu) tw D σ H := g_if (D := { D with nx := tw D }) h h1 h2
/-- an if without else whose body leaves the def (or the turn) -/
theorem q_when {b : Bool} (h : An t σ H b) (h1 : b = true → tz { D with nx := tw D } σ H) (h2 : b = false → tw D σ H) : tSeq (tIfS t tz tNext) tw D σ H := g_if (D := { D with nx := tw D }) h h1 h2
theorem g_when {b : Bool} (h : An t σ H b) (h1 : b = true → tz D σ H) (h2 : b = false → D.nx σ H) : tIfS t tz tNext D σ H := g_if h h1 h2
theorem q_app {l : Addr} {xs : List V} (ho : Vl ta σ H (.ref l)) (hl : H l = some (.lst xs)) (h : Vl te σ H v) (hz : xs.length < sizeLine) (k : tw D σ (upd H l (.lst (xs ++ [v])))) :
    tSeq (tDrop (tBM K "list" rAppend ta (tCons te tNil))) tw D σ H := g_app (D := { D with nx := tw D }) ho hl h hz k
theorem q_forR {j : Nat} {n : Int} (h : Va tr σ H [.int n]) (hn : -(2 ^ 62) ≤ n ∧ n < 2 ^ 62) (Pv : Nat → L2.St → Hp → Prop) (h0 : Pv 0 σ H)
    (hs : ∀ (i : Nat) σ H, (i : Int) < n → Pv i σ H → tz { D with nx := Pv (i + 1), ct := Pv (i + 1), bk := tw D } (σ.set j (some (.int i))) H) (hd : ∀ σ H, Pv n.toNat σ H → tw D σ H) :
    tSeq (tFor (iRng1 tr) (gName j) tz) tw D σ H := g_forR (D := { D with nx := tw D }) h hn Pv h0 hs hd
theorem q_forR2 {j : Nat} {lo n : Int} (h : Va tr σ H [.int lo, .int n]) (hn : -(2 ^ 62) ≤ lo ∧ lo < 2 ^ 62 ∧ -(2 ^ 62) ≤ n ∧ n < 2 ^ 62) (Pv : Nat → L2.St → Hp → Prop) (h0 : Pv 0 σ H)
    (hs : ∀ (i : Nat) σ H, lo + (i : Int) < n → Pv i σ H → tz { D with nx := Pv (i + 1), ct := Pv (i + 1), bk := tw D } (σ.set j (some (.int (lo + i)))) H) (hd : ∀ σ H, Pv (n - lo).toNat σ H → tw D σ H) :
    tSeq (tFor (iRng2 tr) (gName j) tz) tw D σ H := g_forR2 (D := { D with nx := tw D }) h hn Pv h0 hs hd
theorem q_forL {j : Nat} {xs : List V} {tl : TE} (h : Vl tl σ H (.ref a)) (hx : SqL K H a xs) (Pv : Nat → L2.St → Hp → Prop) (h0 : Pv 0 σ H) (hl : ∀ i σ' H', Pv i σ' H' → SqL K H' a xs)
    (hs : ∀ (i : Nat) x σ H, xs[i]? = some x → Pv i σ H → tz { D with nx := Pv (i + 1), ct := Pv (i + 1), bk := tw D } (σ.set j (some x)) H) (hd : ∀ σ H, Pv xs.length σ H → tw D σ H) :
    tSeq (tFor (iList K tl) (gName j) tz) tw D σ H := g_forL (D := { D with nx := tw D }) h hx Pv h0 hl hs hd
theorem q_forLnk {j1 j2 j3 j4 : Nat} {Hb : Hp} {xs : List V} {ls : List Lnk} {tl : TE} (h : Vl tl σ H (.ref a)) (hx : SqL K Hb a xs) (hL : DpAll K Hb xs (ls.map lnkD)) (hb : Same Hb H) (Pv : Nat → L2.St → Hp → Prop) (h0 : Pv 0 σ H) (hl : ∀ i σ' H', Pv i σ' H' → Same Hb H')
    (hs : ∀ (i : Nat) l σ H, ls[i]? = some l → Pv i σ H → tz { D with nx := Pv (i + 1), ct := Pv (i + 1), bk := tw D } ((((σ.set j1 (some (.int l.a))).set j2 (some (.int l.b))).set j3 (some (oV l.t))).set j4 (some (oV l.k))) H) (hd : ∀ σ H, Pv ls.length σ H → tw D σ H) :
    tSeq (tFor (iList K tl) (gTup K 4 (gCons (gName j1) (gCons (gName j2) (gCons (gName j3) (gCons (gName j4) gNil))))) tz) tw D σ H := g_forLnk (D := { D with nx := tw D }) h hx hL hb Pv h0 hl hs hd
theorem q_asgT2 {i j : Nat} {p : Addr} (h : Vl te σ H (.ref p)) (hp : SqT K H p [x, y]) (k : tw D ((σ.set i (some x)).set j (some y)) H) : tSeq (tAsg te (gTup K 2 (gCons (gName i) (gCons (gName j) gNil)))) tw D σ H :=
  h _ ⟨p, _, rfl, hp, rfl, _, _, rfl, _, _, rfl, rfl, k⟩
theorem q_dnewT {i : Nat} (k : ∀ p, H p = none → tw D (σ.set i (some (.ref p))) (upd H p (.dT []))) : tSeq (tAsg tDNewT (gName i)) tw D σ H := k
theorem q_lnew {i : Nat} (k : ∀ p, H p = none → tw D (σ.set i (some (.ref p))) (upd H p (.lst []))) : tSeq (tAsg (tLst tNil) (gName i)) tw D σ H := ⟨Nat.zero_le _, k⟩
theorem q_dput {td ty : TE} {o : Addr} {kvs : List (List Key × V)} {y1 y2 : Int} (hv : Vl te σ H v) (ho : Vl td σ H (.ref o)) (h1 : Vl ta σ H (.int y1)) (h2 : Vl tb σ H (.int y2)) (hd : H o = some (.dT kvs)) (hl : kvs.length < sizeLine)
    (k : ∀ T, H T = none → o ≠ T → tw D σ (upd (upd H T (.tup [.int y1, .int y2])) o (.dT (putK kvs [.inl y1, .inl y2] v)))) : tSeq (sDPut td (tTup (tCons ta (tCons tb tNil))) te) tw D σ H :=
  hv _ (ho _ (h1 _ (h2 _ ⟨by show 2 ≤ sizeLine; decide, fun T nT => by
    have oT : o ≠ T := ne_of_none hd nT
    exact ⟨o, _, rfl, DPut.t (k := [.inl y1, .inl y2]) (by rw [upd_ne oT]; exact hd) upd_same hl, k T nT oT⟩⟩)))
theorem q_dgetT {i : Nat} {td : TE} {o : Addr} {kvs : List (List Key × V)} {y1 y2 : Int} (ho : Vl td σ H (.ref o)) (h1 : ∀ H, Vl ta σ H (.int y1)) (h2 : ∀ H, Vl tb σ H (.int y2)) (hd : H o = some (.dT kvs))
    (k : ∀ T, H T = none → tw D (σ.set i (some ((valV kvs [.inl y1, .inl y2]).getD .non))) (upd H T (.tup [.int y1, .int y2]))) : tSeq (tAsg (tDGet1 td (tTup (tCons ta (tCons tb tNil)))) (gName i)) tw D σ H :=
  ho _ ⟨o, rfl, .inr ⟨_, .inl hd⟩, h1 _ _ (h2 _ _ ⟨by show 2 ≤ sizeLine; decide, fun T nT => by
    have oT : o ≠ T := ne_of_none hd nT
    exact ⟨_, DGet.t (k := [.inl y1, .inl y2]) (by rw [upd_ne oT]; exact hd) upd_same, k T nT⟩⟩)⟩
theorem q_asgE {i : Nat} (h : te σ H fun v H' => tw D (σ.set i (some v)) H') : tSeq (tAsg te (gName i)) tw D σ H := h
theorem g_asgE {i : Nat} (h : te σ H fun v H' => D.nx (σ.set i (some v)) H') : tAsg te (gName i) D σ H := h
theorem q_cut {M : L2.St → Hp → Prop} (h : tz { D with nx := M } σ H) (k : ∀ σ' H', M σ' H' → tw D σ' H') : Evl.tCut tz tw D σ H := ⟨M, h, k⟩
end
/-! ### defs that may be called by their names -/
structure Df (K : PySem.W.Frag) (mg : Str → Option Value) (x : Str) (st : Stmt) (ps : List Str) : Prop where
  ex : ∃ (f : Addr) (fd : FuncData), Fun K x x st f fd ∧ mg x = some (.ref f) ∧ Binds K fd ps []
structure Kal (P : Program) (w : World) (K : PySem.W.Frag) (mg : Str → Option Value) (base : Heap) (k : Nat) (x : Str) (ps : List Str) (sp : Sp) : Prop where
  ex : ∃ (f : Addr) (fd : FuncData), FnOk P w K mg base CX0 k f fd ps sp ∧ mg x = some (.ref f) ∧ PySem.W.keepIn K (.ref f) = true ∧ Binds K fd ps []
theorem kal_of {P : Program} {w : World} {K : PySem.W.Frag} {mg : Str → Option Value} {base : Heap} {k : Nat} {x : Str} {st : Stmt} {ps : List Str} {sp : Sp} (A : Df K mg x st ps)
    (ok : ∀ f fd, Fun K x x st f fd → FnOk P w K mg base CX0 k f fd ps sp) : Kal P w K mg base k x ps sp := by
  obtain ⟨f, fd, F, g, b⟩ := A.ex
  exact ⟨f, fd, ok f fd F, g, F.kp, b⟩
theorem pe_k {X : Cx} {k j : Nat} {x : Str} {ps : List Str} {sp : Sp} {p pos : Pos} {e : Expr} {es : List Expr} {t : TA} (c : Kal X.prog X.w X.K X.mg X.base k x ps sp) (hr : Room j X.A) (hk : k ≤ j) (hg : Gl X x) (ha : PA X (e :: es) t)
    (hdb : (x == ("__debug__" : Str)) = false := by decide) (he : starEach (e :: es) X.env = (false, eval e X.env) :: starEach es X.env := by rfl) (hpl : (backTo pos (starEach es X.env)).any (·.1) = false := by rfl) :
    PE X (.Call (.Name x p) (e :: es) [] pos) (tCall sp [] E0 t) := by
  obtain ⟨f, fd, F, hm, kp, b⟩ := c.ex
  exact pe_call F (hr.mono hk) hg hm kp b .nil pass0 ha hdb he hpl
/-! ### values that are not told: ints of which P holds -/
def Vi (te : TE) (σ : L2.St) (H : Hp) (P : Int → Prop) : Prop := ∀ Q : VK, (∀ r, P r → Q (.int r) H) → te σ H Q
section
variable {K : PySem.W.Frag} {σ : L2.St} {H : Hp} {i : Nat} {ta tb te : TE} {tr : TA} {D : Ends} {tz tw tu : TS} {P P1 P2 : Int → Prop}
theorem vi_of {n : Int} (h : Vl te σ H (.int n)) : Vi te σ H (fun r => r = n) := fun _ q => h _ (q n rfl)
theorem vi_I0 {g : Int → Int → Int} (ha : Vi ta σ H P1) (hb : Vi tb σ H P2) (h : ∀ p q, P1 p → P2 q → P (g p q)) : Vi (tOp (rI0 fun i j => .int (g i j)) ta tb) σ H P := fun _ k =>
  ha _ fun p hp => hb _ fun q hq => ⟨p, q, rfl, rfl, k _ (h p q hp hq)⟩
theorem vi_call {sp : Sp} {vs : List V} (h : Va tr σ H vs) (hs : ∀ Q E, (∀ r, P r → Q (.int r) H) → sp vs H Q E) : Vi (tCall sp [] E0 tr) σ H P := fun Q q => h _ (by
  show sp (vs ++ []) H Q E0
  rw [List.append_nil]
  exact hs Q E0 q)
theorem vi_mono (h : Vi te σ H P1) (hh : ∀ r, P1 r → P r) : Vi te σ H P := fun Q q => h Q fun r hr => q r (hh r hr)
theorem g_asgI {i : Nat} (h : Vi te σ H P) (k : ∀ r, P r → D.nx (σ.set i (some (.int r))) H) : tAsg te (gName i) D σ H := h _ k
theorem q_asgI {i : Nat} (h : Vi te σ H P) (k : ∀ r, P r → tw D (σ.set i (some (.int r))) H) : tSeq (tAsg te (gName i)) tw D σ H := h _ k
theorem g_retI (h : Vi te σ H P) (k : ∀ r, P r → D.rt (.int r) H) : tRet te D σ H := h _ k
end
local macro_rules
  | `(tactic| walk_at "ev") => `(tactic| repeat' (first
    | exact vl_c | exact vl_var rfl | apply vl_I0 | apply vl_I | apply vl_int1 | apply vl_abs | apply vl_min2 | apply vl_max2 | apply vl_neg | apply vl_chainI
    | apply vl_lenL | apply vl_ixL | apply vl_ixT | apply vl_isN | apply vl_notN | apply vl_eq | apply vl_ne
    | apply an_test | apply an_B | apply an_not
    | exact (show (0 : Int) < _ by decide) | exact (show (0 : Int) < _ ∧ _ < (1073741824 : Int) from ⟨by decide, by decide⟩)))
abbrev sDraws : Stmt := topS 21
theorem scDraws : FnScope ["script", "draws", "k", "rest", "turn", "mixed"] ["script"] (defScope sDraws) := ⟨rfl, rfl, rfl, by decide +kernel, rfl, by decide +kernel, by decide +kernel⟩
structure DrawsOk (m : Nat) (ds : List Int) : Prop where
  len : ds.length ≤ m
  all : ∀ d ∈ ds, 0 ≤ d ∧ d < 65536
theorem DrawsOk.app {m : Nat} {ds : List Int} {d : Int} (h : DrawsOk m ds) (h0 : 0 ≤ d) (h1 : d < 65536) : DrawsOk (m + 1) (ds ++ [d]) where
  len := by
    rw [List.length_append]
    exact Nat.succ_le_succ h.len
  all := fun e he => by
    rcases List.mem_append.mp he with h' | h'
    · exact h.all e h'
    · rw [List.mem_singleton.mp h']
      exact ⟨h0, h1⟩
theorem DrawsOk.mono {m n : Nat} {ds : List Int} (h : DrawsOk m ds) (le : m ≤ n) : DrawsOk n ds := ⟨Nat.le_trans h.len le, h.all⟩
def spDraws (K : PySem.W.Frag) : Sp := fun vs H Q _ => ∃ (a : Addr) (ns : List Int), vs = [.ref a] ∧ SqL K H a (ns.map V.int) ∧ ns.length ≤ 63 ∧
  ∀ H' p ds, Same H H' → H p = none → H' p = some (.lst (ds.map V.int)) → DrawsOk 3780 ds → Q (.ref p) H'
section
variable {P : Program} {w : World} {K : PySem.W.Frag} {mg : Str → Option Value} {base : Heap}
theorem ok_draws {f : Addr} {fd : FuncData} {k : Nat} (F : Fun K "_law_draws" "_law_draws" sDraws f fd) (mr : mg "range" = none) (mm : mg "min" = none) (ml : mg "len" = none) (ma : mg "abs" = none) (mi : mg "int" = none) :
    FnOk P w K mg base CX0 (k + 1) f fd ["script"] (spDraws K) := by
  refine F.ok scDraws (fun vs H Q E h => ?_) (fun cdv A outer s H vs Q E hr h => ?_)
  · obtain ⟨a, ns, rfl, _⟩ := h
    rfl
  · obtain ⟨a, ns, rfl, hS, hlen, q⟩ := h
    refine ⟨_, pss_cons (ps_set (i := 1) scDraws.nd rfl (.inl rfl) (pe_lst pa_nil))
      (pss_cons (ps_for PassesOwn.never rfl (pi_range1 (by rfl) mr (pa_cons (pe_callB (call_min2 rfl) (by rfl) mm (by decide +kernel) (pa_cons pe_int (pa_cons (pe_callB call_len_seq (by rfl) ml PySem.boot_len (pa_cons (pv 0) pa_nil)) pa_nil))) pa_nil)) (pg_name (i := 2) scDraws.nd rfl (.inl rfl))
        (pss_cons (ps_set (i := 3) scDraws.nd rfl (.inl rfl) (pe_callB call_abs (by rfl) ma (by decide +kernel) (pa_cons (pe_ix ix_list (pv 0) (pv 2) (fun _ _ => rfl)) pa_nil)))
        (pss_one (ps_if (pt_cmpR op_ge (pv 3) (pe_op op_pow pe_int pe_int) (nomark _))
          (pss_one (ps_for PassesOwn.never rfl (pi_range1 (by rfl) mr (pa_cons pe_int pa_nil)) (pg_name (i := 4) scDraws.nd rfl (.inl rfl))
            (pss_one (ps_if (pt_cmpR op_gt (pv 3) pe_int (nomark _))
              (pss_cons (ps_expr (pe_bm PySem.F.plainAttrs_list PySem.F.slot_list_append PySem.F.type_list_append mt_append (pv 1) (pa_cons (pe_op op_mod (pe_callTy call_int1 (by rfl) mi (by decide +kernel) (pa_cons (pv 3) pa_nil)) pe_int) pa_nil)))
              (pss_one (ps_set (i := 3) scDraws.nd rfl (.inl rfl) (pe_op op_fdiv (pv 3) pe_int)))) pss_nil))))
          (pss_cons (ps_set (i := 5) scDraws.nd rfl (.inl rfl) (pe_op op_mod (pe_callTy call_int1 (by rfl) mi (by decide +kernel) (pa_cons (pe_op op_add (pe_op op_mul (pv 3) pe_int) (pe_op op_mul (pe_op op_add (pv 2) pe_int) pe_int)) pa_nil)) pe_int))
          (pss_cons (ps_set (i := 5) scDraws.nd rfl (.inl rfl) (pe_op op_mod (pe_callTy call_int1 (by rfl) mi (by decide +kernel) (pa_cons (pe_op op_add (pe_op op_add (pe_op op_mul (pv 5) pe_int) (pe_op op_mul pe_int (pv 2))) pe_int) pa_nil)) pe_int))
          (pss_cons (ps_expr (pe_bm PySem.F.plainAttrs_list PySem.F.slot_list_append PySem.F.type_list_append mt_append (pv 1) (pa_cons (pe_op op_mod (pe_callTy call_int1 (by rfl) mi (by decide +kernel) (pa_cons (pv 5) pa_nil)) pe_int) pa_nil)))
          (pss_one (ps_expr (pe_bm PySem.F.plainAttrs_list PySem.F.slot_list_append PySem.F.type_list_append mt_append (pv 1) (pa_cons (pe_op op_mod (pe_callTy call_int1 (by rfl) mi (by decide +kernel) (pa_cons (pe_op op_fdiv (pv 5) pe_int) pa_nil)) pe_int) pa_nil)))))))))))
      (pss_one (ps_ret (pv 1)))), ?_⟩
    -- draws = []
    refine ⟨Nat.zero_le _, fun o no => ?_⟩
    have s1 : Same H (upd H o (.lst [])) := same_upd no
    have hS1 := s1.seq hS
    refine (q_forR (n := if (ns.length : Int) < 63 then (ns.length : Int) else 63) (va_cons (vl_min2 vl_c ((vl_lenL (vl_var rfl) hS1).is (by rw [List.length_map]))) va_nil) ⟨by split <;> omega, by split <;> omega⟩
      (fun i σ H3 => ∃ y2 y3 y4 y5 ds, σ = [some (.ref a), some (.ref o), y2, y3, y4, y5] ∧ Same H H3 ∧ H3 o = some (.lst (ds.map V.int)) ∧ DrawsOk (60 * i) ds)
      ⟨none, none, none, none, [], rfl, s1, upd_same, Nat.zero_le _, fun _ h => by cases h⟩ (fun i σ H3 hi hP => ?_) (fun σ H3 hP => ?_))
    · obtain ⟨y2, y3, y4, y5, ds, rfl, sm, ho, hd⟩ := hP
      have hi2 : i < ns.length := by
        split at hi <;> omega
      have hA := sm.seq hS
      have g1 : (ns.map V.int)[i]? = some (.int ns[i]) := by
        rw [List.getElem?_map, List.getElem?_eq_getElem hi2]
        rfl
      -- rest = abs(script[k])
      refine (q_asg (v := .int (if ns[i] < 0 then -ns[i] else ns[i])) (vl_abs (vl_ixL (vl_var rfl) (vl_var rfl) hA (atI_nat g1))) ?_)
      generalize hr0 : (if ns[i] < 0 then -ns[i] else ns[i]) = r
      have hr1 : 0 ≤ r := by
        rw [← hr0]
        split <;> omega
      refine g_if (b := decide ((10 : Int) ^ (18 : Int).toNat ≤ r)) (by exact an_test (vl_I0 (vl_var rfl) (vl_I vl_c vl_c ⟨by decide, by decide, by decide⟩))) (fun _ => ?_) (fun hlt => ?_)
      · refine g_forR (n := 60) (va_cons vl_c va_nil) ⟨by decide, by decide⟩
          (fun j σ H4 => ∃ y4 r ds', σ = [some (.ref a), some (.ref o), some (.int i), some (.int r), y4, y5] ∧ Same H H4 ∧ H4 o = some (.lst (ds'.map V.int)) ∧ DrawsOk (60 * i + j) ds')
          ⟨y4, r, ds, rfl, sm, ho, hd⟩ (fun j σ H4 hj hP => ?_) (fun σ H4 hP => ?_)
        · obtain ⟨z4, r', ds', rfl, sm', ho', hd'⟩ := hP
          refine g_if (by walk_at "ev") (fun _ => ?_) (fun _ => ?_)
          · have h0 : 0 ≤ r' % 65536 := Int.emod_nonneg _ (by decide)
            have h1 : r' % 65536 < 65536 := Int.emod_lt_of_pos _ (by decide)
            refine (q_app (vl_var rfl) ho' (v := .int (r' % 65536)) (by walk_at "ev") ?_ ?_)
            · rw [List.length_map]
              have := hd'.len
              exact Nat.lt_of_le_of_lt this (Nat.lt_of_le_of_lt (show 60 * i + j ≤ 10000 by omega) (by decide))
            · refine g_asg (v := .int (r' / 65536)) (by walk_at "ev") ?_
              refine ⟨_, _, ds' ++ [r' % 65536], rfl, same_upd' sm' no, ?_, hd'.app h0 h1⟩
              rw [upd_same, List.map_append]
              rfl
          · exact ⟨_, _, ds', rfl, sm', ho', hd'.mono (Nat.le_succ _)⟩
        · obtain ⟨z4, r', ds', rfl, sm', ho', hd'⟩ := hP
          exact ⟨_, _, _, _, ds', rfl, sm', ho', hd'⟩
      · have hlt : r < 1000000000000000000 := by
          have := of_decide_eq_false hlt
          have e : (10 : Int) ^ (18 : Int).toNat = 1000000000000000000 := by decide
          omega
        refine (q_asg (v := .int ((r * 48271 + ((i : Int) + 1) * 69621) % 2147483647)) (by walk_at "ev"; exact .inl ⟨by omega, by omega⟩; exact .inl ⟨by omega, by omega⟩) ?_)
        generalize hm : (r * 48271 + ((i : Int) + 1) * 69621) % 2147483647 = m
        have hm0 : 0 ≤ m := by
          rw [← hm]
          exact Int.emod_nonneg _ (by decide)
        have hm1 : m < 2147483647 := by
          rw [← hm]
          exact Int.emod_lt_of_pos _ (by decide)
        refine (q_asg (v := .int ((m * 16807 + 11 * (i : Int) + 5) % 2147483629)) (by walk_at "ev"; exact .inl ⟨by omega, by omega⟩; exact .inl ⟨by decide, by decide⟩) ?_)
        generalize (m * 16807 + 11 * (i : Int) + 5) % 2147483629 = m2
        have h0 : 0 ≤ m2 % 65536 := Int.emod_nonneg _ (by decide)
        have h1 : m2 % 65536 < 65536 := Int.emod_lt_of_pos _ (by decide)
        have h2 : 0 ≤ (m2 / 65536) % 32768 := Int.emod_nonneg _ (by decide)
        have h3 : (m2 / 65536) % 32768 < 65536 := Int.lt_trans (Int.emod_lt_of_pos _ (by decide)) (by decide)
        have hl := hd.len
        refine (q_app (vl_var rfl) ho (v := .int (m2 % 65536)) (by walk_at "ev") ?_ ?_)
        · rw [List.length_map]
          exact Nat.lt_of_le_of_lt (show ds.length ≤ 10000 by omega) (by decide)
        · refine g_app (vl_var rfl) upd_same (v := .int ((m2 / 65536) % 32768)) (by walk_at "ev") ?_ ?_
          · rw [List.length_append, List.length_map]
            exact Nat.lt_of_le_of_lt (show ds.length + 1 ≤ 10000 by omega) (by decide)
          · refine ⟨_, _, _, _, (ds ++ [m2 % 65536]) ++ [(m2 / 65536) % 32768], rfl, same_upd' (same_upd' sm no) no, ?_, ((hd.app h0 h1).app h2 h3).mono (by omega)⟩
            rw [upd_same, List.map_append, List.map_append]
            rfl
    · obtain ⟨y2, y3, y4, y5, ds, rfl, sm, ho, hd⟩ := hP
      refine g_ret (vl_var rfl) (q H3 o ds sm no ho (hd.mono ?_))
      split <;> omega
end
abbrev sAt : Stmt := topS 22
abbrev sIsI : Stmt := topS 23
abbrev sMix : Stmt := topS 24
abbrev sPrice : Stmt := topS 25
theorem scAt : FnScope ["draws", "k", "many"] ["draws", "k", "many"] (defScope sAt) := ⟨rfl, rfl, rfl, by decide +kernel, rfl, by decide +kernel, by decide +kernel⟩
theorem scIsI : FnScope ["actual"] ["actual"] (defScope sIsI) := ⟨rfl, rfl, rfl, by decide +kernel, rfl, by decide +kernel, by decide +kernel⟩
theorem scMix : FnScope ["draws", "k", "many", "value"] ["draws", "k", "many"] (defScope sMix) := ⟨rfl, rfl, rfl, by decide +kernel, rfl, by decide +kernel, by decide +kernel⟩
theorem scPrice : FnScope ["draws", "k", "word"] ["draws", "k"] (defScope sPrice) := ⟨rfl, rfl, rfl, by decide +kernel, rfl, by decide +kernel, by decide +kernel⟩
local macro_rules
  | `(tactic| walk_at "ev") => `(tactic| repeat' (first
    | exact vl_c | exact vl_var rfl | apply vl_I0 | apply vl_I | apply vl_int1 | apply vl_abs | apply vl_min2 | apply vl_max2 | apply vl_neg | apply vl_chainI
    | apply vl_lenL | apply vl_ixL | apply vl_ixT | apply vl_isN | apply vl_notN | apply vl_eq | apply vl_ne
    | apply an_test | apply an_B | apply an_not
    | exact (show (0 : Int) < _ by decide) | exact (show (0 : Int) < _ ∧ _ < (1073741824 : Int) from ⟨by decide, by decide⟩)))
/-- an int in [0, m) for draws, k, m -/
def spAt (K : PySem.W.Frag) : Sp := fun vs H Q _ => ∃ (a : Addr) (ds : List Int) (k m : Int), vs = [.ref a, .int k, .int m] ∧ SqL K H a (ds.map V.int) ∧ 0 ≤ k ∧ 0 < m ∧ ∀ r, 0 ≤ r ∧ r < m → Q (.int r) H
def spIsI : Sp := fun vs H Q _ => ∃ i : Int, vs = [.int i] ∧ Q (.bl true) H
section
variable {P : Program} {w : World} {K : PySem.W.Frag} {mg : Str → Option Value} {base : Heap}
theorem ok_isI {f : Addr} {fd : FuncData} {k : Nat} (F : Fun K "_law_is_integer" "_law_is_integer" sIsI f fd) (ms : mg "isinstance" = none) (mi : mg "int" = none) (mb : mg "bool" = none) :
    FnOk P w K mg base CX0 (k + 1) f fd ["actual"] spIsI := by
  refine F.ok scIsI (fun vs H Q E h => ?_) (fun cdv A outer s H vs Q E hr h => ?_)
  · obtain ⟨i, rfl, _⟩ := h
    rfl
  · obtain ⟨i, rfl, q⟩ := h
    refine ⟨_, pss_one (ps_ret (pe_and (pe_callB call_isi (by rfl) ms (by decide +kernel) (pa_cons (pv 0) (pa_cons (pe_bltn (v := .ty "int") (by rfl) mi (by decide +kernel) rfl) pa_nil)))
      (pe_one (pe_not (pe_callB call_isi (by rfl) ms (by decide +kernel) (pa_cons (pv 0) (pa_cons (pe_bltn (v := .ty "bool") (by rfl) mb (by decide +kernel) rfl) pa_nil))))))), ?_⟩
    refine ⟨.int i, rfl, .int i, .ty "int", .type "int", .type "int", true, rfl, .ty _, .base (.int _), kit_ty (by decide +kernel), true, rfl, iteT ?_⟩
    exact ⟨.int i, rfl, .int i, .ty "bool", .type "int", .type "bool", false, rfl, .ty _, .base (.int _), kit_ty (by decide +kernel), false, rfl, q⟩
theorem ok_at {f : Addr} {fd : FuncData} {k : Nat} (F : Fun K "_law_at" "_law_at" sAt f fd) (ml : mg "len" = none) (mi : mg "int" = none) :
    FnOk P w K mg base CX0 (k + 1) f fd ["draws", "k", "many"] (spAt K) := by
  refine F.ok scAt (fun vs H Q E h => ?_) (fun cdv A outer s H vs Q E hr h => ?_)
  · obtain ⟨a, ds, k, m, rfl, _⟩ := h
    rfl
  · obtain ⟨a, ds, k, m, rfl, hS, hk, hm, q⟩ := h
    refine ⟨_, pss_cons (ps_if (pt_cmpR op_lt (pv 1) (pe_callB call_len_seq (by rfl) ml PySem.boot_len (pa_cons (pv 0) pa_nil)) (nomark _))
        (pss_one (ps_ret (pe_op op_mod (pe_callTy call_int1 (by rfl) mi (by decide +kernel) (pa_cons (pe_ix ix_list (pv 0) (pv 1) (fun _ _ => rfl)) pa_nil)) (pv 2)))) pss_nil)
      (pss_one (ps_ret pe_int)), ?_⟩
    refine q_when (b := decide (k < (ds.length : Int))) (by exact an_test (vl_I0 (vl_var rfl) ((vl_lenL (vl_var rfl) hS).is (by rw [List.length_map])))) (fun hb => ?_) (fun _ => ?_)
    · have hb := of_decide_eq_true hb
      obtain ⟨d, g', _⟩ := at_int hk hb
      refine g_ret (v := .int (d % m)) ?_ (q _ ⟨Int.emod_nonneg _ (by omega), Int.emod_lt_of_pos _ hm⟩)
      exact vl_I (vl_int1 (vl_ixL (vl_var rfl) (vl_var rfl) hS g')) (vl_var rfl) hm
    · exact g_ret vl_c (q 0 ⟨by omega, by omega⟩)
theorem ok_mix {f : Addr} {fd : FuncData} {k : Nat} (F : Fun K "_law_mix" "_law_mix" sMix f fd) (ml : mg "len" = none) (mi : mg "int" = none) :
    FnOk P w K mg base CX0 (k + 1) f fd ["draws", "k", "many"] (spAt K) := by
  refine F.ok scMix (fun vs H Q E h => ?_) (fun cdv A outer s H vs Q E hr h => ?_)
  · obtain ⟨a, ds, k, m, rfl, _⟩ := h
    rfl
  · obtain ⟨a, ds, k, m, rfl, hS, hk, hm, q⟩ := h
    refine ⟨_, pss_cons (ps_set (i := 3) scMix.nd rfl (.inl rfl) pe_int)
      (Evl.pss_cut (ps_if (pt_cmpR op_gt (pe_callB call_len_seq (by rfl) ml PySem.boot_len (pa_cons (pv 0) pa_nil)) pe_int (nomark _))
        (pss_one (ps_set (i := 3) scMix.nd rfl (.inl rfl) (pe_ix ix_list (pv 0) (pe_op op_mod (pe_callTy call_int1 (by rfl) mi (by decide +kernel) (pa_cons (pv 1) pa_nil)) (pe_callB call_len_seq (by rfl) ml PySem.boot_len (pa_cons (pv 0) pa_nil))) (fun _ _ => rfl)))) pss_nil)
      (pss_cons (ps_if (pt_cmpR op_lt (pv 1) (pe_callB call_len_seq (by rfl) ml PySem.boot_len (pa_cons (pv 0) pa_nil)) (nomark _))
        (pss_one (ps_ret (pe_op op_mod (pe_callTy call_int1 (by rfl) mi (by decide +kernel) (pa_cons (pv 3) pa_nil)) (pv 2)))) pss_nil)
      (pss_one (ps_ret (pe_op op_mod (pe_callTy call_int1 (by rfl) mi (by decide +kernel) (pa_cons (pe_op op_fdiv (pe_callTy call_int1 (by rfl) mi (by decide +kernel) (pa_cons (pe_op op_add (pe_op op_mul (pv 3) pe_int) (pe_op op_mul (pv 1) pe_int)) pa_nil)) pe_int) pa_nil)) (pv 2)))))), ?_⟩
    refine q_asg vl_c ?_
    refine q_cut (M := fun σ' H' => ∃ v : Int, σ' = [some (.ref a), some (.int k), some (.int m), some (.int v)] ∧ H' = H) ?_ ?_
    · refine g_when (b := decide ((0 : Int) < (ds.length : Int))) (by exact an_test (vl_I0 ((vl_lenL (vl_var rfl) hS).is (by rw [List.length_map])) vl_c)) (fun hb => ?_) (fun _ => ⟨0, rfl, rfl⟩)
      have hb := of_decide_eq_true hb
      have h0 : 0 ≤ k % (ds.length : Int) := Int.emod_nonneg _ (by omega)
      have h1 : k % (ds.length : Int) < (ds.length : Int) := Int.emod_lt_of_pos _ hb
      obtain ⟨d, g', _⟩ := at_int h0 h1
      exact g_asg (vl_ixL (vl_var rfl) (vl_I (vl_int1 (vl_var rfl)) ((vl_lenL (vl_var rfl) hS).is (by rw [List.length_map])) hb) hS g') ⟨_, rfl, rfl⟩
    · rintro σ' H' ⟨v, rfl, rfl⟩
      refine q_when (b := decide (k < (ds.length : Int))) (by exact an_test (vl_I0 (vl_var rfl) ((vl_lenL (vl_var rfl) hS).is (by rw [List.length_map])))) (fun hb => ?_) (fun _ => ?_)
      · exact g_ret (v := .int (v % m)) (vl_I (vl_int1 (vl_var rfl)) (vl_var rfl) hm) (q _ ⟨Int.emod_nonneg _ (by omega), Int.emod_lt_of_pos _ hm⟩)
      · refine g_ret (v := .int ((v * 7919 + k * 104729) / 3 % m)) (vl_I (vl_int1 (vl_I (vl_int1 (vl_I0 (vl_I (vl_var rfl) vl_c (.inr ⟨by decide, by decide⟩)) (vl_I (vl_var rfl) vl_c (.inr ⟨by decide, by decide⟩)))) vl_c ⟨by decide, by decide⟩)) (vl_var rfl) hm) (q _ ⟨Int.emod_nonneg _ (by omega), Int.emod_lt_of_pos _ hm⟩)
end
def PriceOk (o : Option Int) : Prop := ∀ x, o = some x → 1 ≤ x ∧ x ≤ 1000000
structure LnkOk (n : Int) (l : Lnk) : Prop where
  a0 : 0 ≤ l.a
  ab : l.a < l.b
  bn : l.b < n
  t : PriceOk l.t
  k : PriceOk l.k
def LnkLt (x y : Lnk) : Prop := x.a < y.a ∨ (x.a = y.a ∧ x.b < y.b)
structure NetOk (N : Net) : Prop where
  n1 : 1 ≤ N.n
  n40 : N.n ≤ 40
  ok : ∀ l ∈ N.ls, LnkOk N.n l
  lt : N.ls.Pairwise LnkLt
  len : N.ls.length ≤ 1600
/-- a net that stands in H by itself -/
def NetAt (K : PySem.W.Frag) (H : Hp) (v : V) (N : Net) : Prop := ∃ p q xs, v = .ref p ∧ H p = some (.tup [.int N.n, .ref q]) ∧ H q = some (.lst xs) ∧ DpAll K H xs (N.ls.map lnkD)
theorem NetAt.dp {K : PySem.W.Frag} {H : Hp} {v : V} {N : Net} (h : NetAt K H v N) : Dp K H v (netD N) := by
  obtain ⟨p, q, xs, rfl, hp, hq, hx⟩ := h
  exact Dp.net (.of hp) (.of hq) hx
theorem NetAt.to {K : PySem.W.Frag} {H H' : Hp} {v : V} {N : Net} (h : NetAt K H v N) (s : Same H H') : NetAt K H' v N := by
  obtain ⟨p, q, xs, rfl, hp, hq, hx⟩ := h
  exact ⟨p, q, xs, rfl, s _ _ hp, s _ _ hq, DpAll.to hx s⟩
def spPrice (K : PySem.W.Frag) : Sp := fun vs H Q _ => ∃ (a : Addr) (ds : List Int) (k : Int), vs = [.ref a, .int k] ∧ SqL K H a (ds.map V.int) ∧ 0 ≤ k ∧ ∀ H' o, Same H H' → PriceOk o → Q (oV o) H'
def spNet (K : PySem.W.Frag) : Sp := fun vs H Q _ => ∃ (a : Addr) (ds : List Int) (k m : Int), vs = [.ref a, .int k, .int m] ∧ SqL K H a (ds.map V.int) ∧ 0 ≤ k ∧ 1 ≤ m ∧ m ≤ 40 ∧
  ∀ H' v N, Same H H' → NetAt K H' v N → NetOk N → N.n ≤ m → Q v H'
section
variable {P : Program} {w : World} {K : PySem.W.Frag} {mg : Str → Option Value} {base : Heap}
theorem ok_price {f : Addr} {fd : FuncData} (F : Fun K "_law_price" "_law_price" sPrice f fd) (M : Kal P w K mg base 1 "_law_mix" ["draws", "k", "many"] (spAt K)) (mi : mg "int" = none) :
    FnOk P w K mg base CX0 2 f fd ["draws", "k"] (spPrice K) := by
  refine F.ok scPrice (fun vs H Q E h => ?_) (fun cdv A outer s H vs Q E hr h => ?_)
  · obtain ⟨a, ds, k, rfl, _⟩ := h
    rfl
  · obtain ⟨a, ds, k, rfl, hS, hk, q⟩ := h
    refine ⟨_, pss_cons (ps_set (i := 2) scPrice.nd rfl (.inl rfl) (pe_k M hr (by decide) (by rfl) (pa_cons (pv 0) (pa_cons (pv 1) (pa_cons pe_int pa_nil)))))
      (pss_cons (ps_if (pt_cmpR op_eq (pv 2) pe_int (nomark _)) (pss_one (ps_ret pe_non)) pss_nil)
      (pss_cons (ps_if (pt_cmpR op_eq (pv 2) pe_int (nomark _))
        (pss_one (ps_ret (pe_op op_sub pe_int (pe_k M hr (by decide) (by rfl) (pa_cons (pv 0) (pa_cons (pe_op op_add (pv 1) pe_int) (pa_cons pe_int pa_nil))))))) pss_nil)
      (pss_one (ps_ret (pe_op op_add pe_int (pe_k M hr (by decide) (by rfl) (pa_cons (pv 0) (pa_cons (pe_op op_add (pv 1) pe_int)
        (pa_cons (pe_ix ix_list (pe_lst (pa_cons pe_int (pa_cons pe_int (pa_cons pe_int pa_nil)))) (pe_op op_mod (pe_callTy call_int1 (by rfl) mi (by decide +kernel) (pa_cons (pv 2) pa_nil)) pe_int) (fun _ _ => rfl)) pa_nil))))))))), ?_⟩
    refine q_asgI (vi_call (P := fun r => 0 ≤ r ∧ r < 7) (va_cons (vl_var rfl) (va_cons (vl_var rfl) (va_cons vl_c va_nil))) fun Q E q => ⟨a, ds, k, 7, rfl, hS, hk, by decide, q⟩) (fun wd hw => ?_)
    refine q_when (b := decide (V.int wd = V.int 0)) (by exact an_test (vl_eq (vl_var rfl) vl_c rfl)) (fun _ => ?_) (fun _ => ?_)
    · exact g_ret vl_c (q H none (Same.refl H) (fun x e => by cases e))
    · refine q_when (b := decide (V.int wd = V.int 1)) (by exact an_test (vl_eq (vl_var rfl) vl_c rfl)) (fun _ => ?_) (fun _ => ?_)
      · refine g_retI (P := fun r => 1 ≤ r ∧ r ≤ 1000000) (vi_I0 (vi_of vl_c) (vi_call (P := fun r => 0 ≤ r ∧ r < 3) (va_cons (vl_var rfl) (va_cons (vl_I0 (vl_var rfl) vl_c) (va_cons vl_c va_nil))) fun Q E q => ⟨a, ds, k + 1, 3, rfl, hS, by omega, by decide, q⟩) (fun p r hp hr => ?_)) (fun r hr => ?_)
        · omega
        · exact q H (some r) (Same.refl H) (fun x e => by
            cases e
            exact hr)
      · refine ⟨.ref a, rfl, .int k, rfl, k, 1, rfl, rfl, by show 3 ≤ sizeLine; decide, fun p np => ?_⟩
        refine (vl_I (vl_int1 (vl_var rfl)) vl_c (by decide)) _ ?_
        obtain ⟨d, g', hd⟩ := at_int (ds := [4, 30, 1000000]) (k := wd % 3) (by omega) (by show wd % 3 < 3; omega)
        have hd1 : 1 ≤ d ∧ d ≤ 1000000 := by
          have := List.mem_of_getElem? hd
          simp only [List.mem_cons, List.not_mem_nil, or_false] at this
          omega
        refine ⟨p, _, _, _, rfl, rfl, .inl (.inl upd_same), g', ?_⟩
        refine ⟨a, ds, k + 1, d, rfl, (same_upd np).seq hS, by omega, by omega, fun r hr => ?_⟩
        exact ⟨1, r, rfl, rfl, q _ (some (1 + r)) (same_upd np) (fun x e => by
          cases e
          omega)⟩
end
abbrev sNet : Stmt := topS 26
theorem scNet : FnScope ["draws", "k", "most", "size", "dense", "links", "a", "b", "at"] ["draws", "k", "most"] (defScope sNet) := ⟨rfl, rfl, rfl, by decide +kernel, rfl, by decide +kernel, by decide +kernel⟩
/-- the links made so far: all of them before (i, c) -/
structure LsAt (n i c : Int) (ls : List Lnk) : Prop where
  ok : ∀ l ∈ ls, LnkOk n l
  to : ∀ l ∈ ls, l.a < i ∨ (l.a = i ∧ l.b < c)
  lt : ls.Pairwise LnkLt
theorem LsAt.nil {n i c : Int} : LsAt n i c [] := ⟨fun _ h => (nomatch h), fun _ h => (nomatch h), .nil⟩
theorem LsAt.mono {n i c i' c' : Int} {ls : List Lnk} (h : LsAt n i c ls) (e : i < i' ∨ (i = i' ∧ c ≤ c')) : LsAt n i' c' ls :=
  ⟨h.ok, fun l hl => by
    have := h.to l hl
    omega, h.lt⟩
theorem LsAt.app {n i c : Int} {ls : List Lnk} {t k : Option Int} (h : LsAt n i c ls) (h0 : 0 ≤ i) (h1 : i < c) (h2 : c < n) (ht : PriceOk t) (hk : PriceOk k) : LsAt n i (c + 1) (ls ++ [⟨i, c, t, k⟩]) where
  ok := fun l hl => by
    rcases List.mem_append.mp hl with h' | h'
    · exact h.ok l h'
    · rw [List.mem_singleton.mp h']
      exact ⟨h0, h1, h2, ht, hk⟩
  to := fun l hl => by
    rcases List.mem_append.mp hl with h' | h'
    · have := h.to l h'
      omega
    · rw [List.mem_singleton.mp h']
      exact .inr ⟨rfl, Int.lt_succ c⟩
  lt := List.pairwise_append.mpr ⟨h.lt, List.pairwise_singleton _ _, fun x hx y hy => by
    rw [List.mem_singleton.mp hy]
    exact h.to x hx⟩
section
variable {P : Program} {w : World} {K : PySem.W.Frag} {mg : Str → Option Value} {base : Heap}
theorem ok_net {f : Addr} {fd : FuncData} (F : Fun K "_law_net" "_law_net" sNet f fd) (M : Kal P w K mg base 1 "_law_mix" ["draws", "k", "many"] (spAt K)) (C : Kal P w K mg base 2 "_law_price" ["draws", "k"] (spPrice K)) (mr : mg "range" = none) :
    FnOk P w K mg base CX0 3 f fd ["draws", "k", "most"] (spNet K) := by
  refine F.ok scNet (fun vs H Q E h => ?_) (fun cdv A outer s H vs Q E hr h => ?_)
  · obtain ⟨a, ds, k, m, rfl, _⟩ := h
    rfl
  · obtain ⟨a, ds, k, m, rfl, hS, hk, hm1, hm2, q⟩ := h
    refine ⟨_, pss_cons (ps_set (i := 3) scNet.nd rfl (.inl rfl) (pe_op op_add pe_int (pe_k M hr (by decide) (by rfl) (pa_cons (pv 0) (pa_cons (pv 1) (pa_cons (pv 2) pa_nil))))))
      (pss_cons (ps_set (i := 4) scNet.nd rfl (.inl rfl) (pe_op op_add pe_int (pe_k M hr (by decide) (by rfl) (pa_cons (pv 0) (pa_cons (pe_op op_add (pv 1) pe_int) (pa_cons pe_int pa_nil))))))
      (pss_cons (ps_set (i := 5) scNet.nd rfl (.inl rfl) (pe_lst pa_nil))
      (pss_cons (ps_for PassesOwn.never rfl (pi_range1 (by rfl) mr (pa_cons (pv 3) pa_nil)) (pg_name (i := 6) scNet.nd rfl (.inl rfl))
        (pss_one (ps_for PassesOwn.never rfl (pi_range2 (by rfl) mr (pa_cons (pe_op op_add (pv 6) pe_int) (pa_cons (pv 3) pa_nil))) (pg_name (i := 7) scNet.nd rfl (.inl rfl))
          (pss_cons (ps_set (i := 8) scNet.nd rfl (.inl rfl) (pe_op op_add (pe_op op_add (pv 1) pe_int) (pe_op op_mul pe_int (pe_op op_add (pe_op op_mul (pv 6) (pv 3)) (pv 7)))))
          (pss_one (ps_if (pt_cmpR op_eq (pe_k M hr (by decide) (by rfl) (pa_cons (pv 0) (pa_cons (pv 8)
              (pa_cons (pe_ix ix_list (pe_lst (pa_cons pe_int (pa_cons pe_int (pa_cons pe_int (pa_cons (pv 3) (pa_cons (pv 3) pa_nil)))))) (pe_op op_sub (pv 4) pe_int) (fun _ _ => rfl)) pa_nil)))) pe_int (nomark _))
            (pss_one (ps_expr (pe_bm PySem.F.plainAttrs_list PySem.F.slot_list_append PySem.F.type_list_append mt_append (pv 5)
              (pa_cons (pe_tup (pa_cons (pv 6) (pa_cons (pv 7) (pa_cons (pe_k C hr (by decide) (by rfl) (pa_cons (pv 0) (pa_cons (pe_op op_add (pv 8) pe_int) pa_nil)))
                (pa_cons (pe_k C hr (by decide) (by rfl) (pa_cons (pv 0) (pa_cons (pe_op op_add (pv 8) pe_int) pa_nil))) pa_nil))))) pa_nil)))) pss_nil))))))
      (pss_one (ps_ret (pe_tup (pa_cons (pv 3) (pa_cons (pv 5) pa_nil)))))))), ?_⟩
    refine q_asgI (P := fun r => 1 ≤ r ∧ r ≤ m) (vi_I0 (vi_of vl_c) (vi_call (P := fun r => 0 ≤ r ∧ r < m) (va_cons (vl_var rfl) (va_cons (vl_var rfl) (va_cons (vl_var rfl) va_nil))) fun Q E q => ⟨a, ds, k, m, rfl, hS, hk, by omega, q⟩) (fun p r hp hr => by omega)) (fun n hn => ?_)
    refine q_asgI (P := fun r => 1 ≤ r ∧ r ≤ 5) (vi_I0 (vi_of vl_c) (vi_call (P := fun r => 0 ≤ r ∧ r < 5) (va_cons (vl_var rfl) (va_cons (vl_I0 (vl_var rfl) vl_c) (va_cons vl_c va_nil))) fun Q E q => ⟨a, ds, k + 1, 5, rfl, hS, by omega, by decide, q⟩) (fun p r hp hr => by omega)) (fun dn hdn => ?_)
    refine ⟨Nat.zero_le _, fun o no => ?_⟩
    refine q_forR (n := n) (va_cons (vl_var rfl) va_nil) ⟨by omega, by omega⟩
      (fun i σ H3 => ∃ y6 y7 y8 xs ls, σ = [some (.ref a), some (.int k), some (.int m), some (.int n), some (.int dn), some (.ref o), y6, y7, y8] ∧ H3 o = some (.lst xs) ∧ Same H (but H3 o) ∧ DpAll K (but H3 o) xs (ls.map lnkD) ∧ LsAt n i 0 ls ∧ ls.length ≤ i * 40)
      ⟨none, none, none, [], [], rfl, upd_same, same_but (same_upd no) no, .nil, .nil, by simp⟩ (fun i σ H3 hi hP => ?_) (fun σ H3 hP => ?_)
    · obtain ⟨y6, y7, y8, xs, ls, rfl, ho, sm, hx, hl, hlen⟩ := hP
      refine g_forR2 (lo := (i : Int) + 1) (n := n) (va_cons (vl_I0 (vl_var rfl) vl_c) (va_cons (vl_var rfl) va_nil)) ⟨by omega, by omega, by omega, by omega⟩
        (fun j σ H3 => ∃ y7 y8 xs ls, σ = [some (.ref a), some (.int k), some (.int m), some (.int n), some (.int dn), some (.ref o), some (.int i), y7, y8] ∧ H3 o = some (.lst xs) ∧ Same H (but H3 o) ∧ DpAll K (but H3 o) xs (ls.map lnkD) ∧ LsAt n i ((i : Int) + 1 + j) ls ∧ ls.length ≤ i * 40 + j)
        ⟨y7, y8, xs, ls, rfl, ho, sm, hx, hl.mono (.inr ⟨rfl, by omega⟩), hlen⟩ (fun j σ H3 hj hP => ?_) (fun σ H3 hP => ?_)
      · obtain ⟨y7, y8, xs, ls, rfl, ho, sm, hx, hl, hlen⟩ := hP
        refine q_asg (v := .int (k + 3 + 2 * (i * n + ((i : Int) + 1 + j)))) (vl_I0 (vl_I0 (vl_var rfl) vl_c) (vl_I vl_c (vl_I0 (vl_I (vl_var rfl) (vl_var rfl) (.inl ⟨by omega, by omega⟩)) (vl_var rfl)) (.inl ⟨by decide, by decide⟩))) ?_
        have hin : 0 ≤ (i : Int) * n := Int.mul_nonneg (by omega) (by omega)
        generalize hat : k + 3 + 2 * ((i : Int) * n + ((i : Int) + 1 + j)) = at_
        have hat0 : 0 ≤ at_ := by omega
        refine ⟨.ref a, rfl, .int at_, rfl, .int n, rfl, .int n, rfl, by show 5 ≤ sizeLine; decide, fun p np => ?_⟩
        refine (vl_I0 (vl_var rfl) vl_c) _ ?_
        have npo : o ≠ p := ne_of_none ho np
        obtain ⟨d, g', hd⟩ := at_int (ds := [2, 3, 4, n, n]) (k := dn - 1) (by omega) (by show dn - 1 < 5; omega)
        have hd1 : 1 ≤ d := by
          have := List.mem_of_getElem? hd
          simp only [List.mem_cons, List.not_mem_nil, or_false] at this
          omega
        have s3 : Same H3 (upd H3 p (.lst [.int 2, .int 3, .int 4, .int n, .int n])) := same_upd np
        have sH : Same H H3 := sm.trans but_same
        refine ⟨p, _, _, _, rfl, rfl, .inl (.inl upd_same), g', ?_⟩
        refine ⟨a, ds, at_, d, rfl, (sH.trans s3).seq hS, hat0, by omega, fun r hr => ?_⟩
        refine ⟨rfl, _, rfl, ite2 (fun _ => ?_) (fun _ => ?_)⟩
        · -- links.append
          have ho4 := s3 _ _ ho
          refine ⟨.ref o, rfl, .inl ⟨rfl, _, .inl (.inl ho4)⟩, .int i, rfl, .int ((i : Int) + 1 + j), rfl, ?_⟩
          refine ⟨.ref a, rfl, .int at_, rfl, at_, 1, rfl, rfl, a, ds, at_ + 1, rfl, (sH.trans s3).seq hS, by omega, fun H5 t s5 ht => ?_⟩
          refine ⟨.ref a, rfl, .int at_, rfl, at_, 2, rfl, rfl, a, ds, at_ + 2, rfl, ((sH.trans s3).trans s5).seq hS, by omega, fun H6 u s6 hu => ?_⟩
          refine ⟨by show 4 ≤ sizeLine; decide, fun T nT => ?_⟩
          have s36 : Same H3 H6 := (s3.trans s5).trans s6
          have ho6 := s36 _ _ ho
          have nTo : o ≠ T := ne_of_none ho6 nT
          have s7 : Same H6 (upd H6 T (.tup [.int i, .int ((i : Int) + 1 + j), oV t, oV u])) := same_upd nT
          refine ⟨o, xs, .ref T, rfl, rfl, s7 _ _ ho6, ?_, ?_⟩
          · rw [DpAll.len hx, List.length_map]
            exact Nat.lt_of_le_of_lt (show ls.length ≤ 10000 by omega) (by decide)
          · have sb : Same (but H3 o) (but (upd (upd H6 T (.tup [.int i, .int ((i : Int) + 1 + j), oV t, oV u])) o (.lst (xs ++ [.ref T]))) o) := by
              rw [but_upd]
              exact but_mono (s36.trans s7)
            refine ⟨_, _, xs ++ [.ref T], ls ++ [⟨i, (i : Int) + 1 + j, t, u⟩], rfl, upd_same, sm.trans sb, ?_, ?_, ?_⟩
            · rw [List.map_append]
              refine DpAll.app (DpAll.to hx sb) (DpAll.one (Dp.lnk (l := ⟨i, (i : Int) + 1 + j, t, u⟩) (.of ?_)))
              rw [but_upd, but_ne nTo.symm, upd_same]
              rfl
            · rw [show (i : Int) + 1 + ((j + 1 : Nat) : Int) = (i : Int) + 1 + j + 1 by omega]
              exact hl.app (by omega) (by omega) (by omega) ht hu
            · rw [List.length_append]
              show ls.length + 1 ≤ i * 40 + (j + 1)
              omega
        · have sb : Same (but H3 o) (but (upd H3 p (.lst [.int 2, .int 3, .int 4, .int n, .int n])) o) := but_mono s3
          exact ⟨_, _, xs, ls, rfl, s3 _ _ ho, sm.trans sb, DpAll.to hx sb, hl.mono (.inr ⟨rfl, by omega⟩), by omega⟩
      · obtain ⟨y7, y8, xs, ls, rfl, ho, sm, hx, hl, hlen⟩ := hP
        exact ⟨_, _, _, xs, ls, rfl, ho, sm, hx, hl.mono (.inl (by omega)), by omega⟩
    · obtain ⟨y6, y7, y8, xs, ls, rfl, ho, sm, hx, hl, hlen⟩ := hP
      refine ⟨.int n, rfl, .ref o, rfl, by show 2 ≤ sizeLine; decide, fun T nT => ?_⟩
      have s3 : Same H3 (upd H3 T (.tup [.int n, .ref o])) := same_upd nT
      exact q _ _ ⟨n, ls⟩ ((sm.trans but_same).trans s3) ⟨T, o, xs, rfl, upd_same, s3 _ _ ho, DpAll.to hx (but_same.trans s3)⟩ ⟨by show 1 ≤ n; omega, by show n ≤ 40; omega, hl.ok, hl.lt, by show ls.length ≤ 1600; omega⟩ (by show n ≤ m; omega)
end
/-! ### data that is the same is equal -/
theorem lay_o : ∀ o : Option Int, (oD o).canLay0 = true ∧ (oD o).depth = 0
  | none => ⟨rfl, rfl⟩
  | some _ => ⟨rfl, rfl⟩
theorem lay_lnks : ∀ ls : List Lnk, PyData.canLayAll0 (ls.map lnkD) = true ∧ PyData.depthAll (ls.map lnkD) ≤ 1
  | [] => ⟨rfl, Nat.zero_le _⟩
  | l :: ls => by
    have h1 := lay_o l.t
    have h2 := lay_o l.k
    have ih := lay_lnks ls
    constructor
    · show (((true && (true && ((oD l.t).canLay0 && ((oD l.k).canLay0 && true)))) && PyData.canLayAll0 (ls.map lnkD)) = true)
      rw [h1.1, h2.1, ih.1]
      rfl
    · show max (max 0 (max 0 (max (oD l.t).depth (max (oD l.k).depth 0))) + 1) (PyData.depthAll (ls.map lnkD)) ≤ 1
      rw [h1.2, h2.2]
      have := ih.2
      simp only [Nat.max_self, Nat.zero_add]
      omega
theorem shaped_net (N : Net) : SeqAt.shaped (netD N) = true := by
  have h := lay_lnks N.ls
  show ((true && (PyData.canLayAll0 (N.ls.map lnkD) && true)) && decide (max 0 (max (PyData.depthAll (N.ls.map lnkD) + 1) 0) + 1 ≤ 64)) = true
  rw [h.1, decide_eq_true (show max 0 (max (PyData.depthAll (N.ls.map lnkD) + 1) 0) + 1 ≤ 64 by
    have := h.2
    omega)]
  rfl
theorem eqv_net (N : Net) : PyData.eqv (netD N) (netD N) = true := SeqAt.eqv_refl _ (Bool.and_eq_true_iff.mp (shaped_net N)).1
/-! ### new lists -/
def Vn (te : TE) (σ : L2.St) (H : Hp) (xs : List V) : Prop := ∀ Q : VK, (∀ p H', Same H H' → H p = none → H' p = some (.lst xs) → Q (.ref p) H') → te σ H Q
section
variable {K : PySem.W.Frag} {σ : L2.St} {H : Hp} {ta tb te : TE} {tr : TA} {xs ys : List V} {a : Addr} {D : Ends} {tw : TS}
theorem vn_lst (h : Va tr σ H xs) (hz : xs.length ≤ sizeLine) : Vn (tLst tr) σ H xs := fun Q q => h _ ⟨hz, fun p np => q p _ (same_upd np) np upd_same⟩
theorem vn_slice {tl th : TO} {lo hi : Option Int} (h : Vl te σ H (.ref a)) (hl : ∀ Q : Option Int → Hp → Prop, Q lo H → tl σ H Q) (hh : ∀ Q : Option Int → Hp → Prop, Q hi H → th σ H Q) (hx : SqL K H a xs) : Vn (tSl (rSlL K) te tl th) σ H (cutV xs lo hi) := fun Q q =>
  h _ (hl _ (hh _ ⟨a, xs, rfl, hx, fun p np => q p _ (same_upd np) np upd_same⟩))
theorem vn_rev (h : Vl te σ H (.ref a)) (hx : SqL K H a xs) : Vn (tRevL K te) σ H xs.reverse := fun Q q => h _ ⟨a, xs, rfl, hx, fun p np => q p _ (same_upd np) np upd_same⟩
theorem vn_cat (ha : Vn ta σ H xs) (hb : ∀ H', Same H H' → Vn tb σ H' ys) (hz : xs.length + ys.length ≤ sizeLine) : Vn (tOp rCat ta tb) σ H (xs ++ ys) := fun Q q => ha _ fun p H1 s1 np hp => hb H1 s1 _ fun r H2 s2 nr hr =>
  ⟨p, r, xs, ys, rfl, rfl, s2 _ _ hp, hr, hz, fun t nt => q t _ ((s1.trans s2).trans (same_upd nt)) (Same.free (s1.trans s2) nt) upd_same⟩
theorem vn_listOf (h : Vl te σ H (.ref a)) (hx : SqL K H a xs) : Vn (tCB (fun xs H Q => ∃ p ys, xs = [V.ref p] ∧ (SqL K H p ys ∨ SqT K H p ys) ∧ ∀ l, H l = none → Q (V.ref l) (upd H l (.lst ys))) (tCons te tNil)) σ H xs := fun Q q =>
  h _ ⟨a, xs, rfl, .inl hx, fun p np => q p _ (same_upd np) np upd_same⟩
theorem q_asgN {i : Nat} (h : Vn te σ H xs) (k : ∀ p H', Same H H' → H p = none → H' p = some (.lst xs) → tw D (σ.set i (some (.ref p))) H') : tSeq (tAsg te (gName i)) tw D σ H := h _ k
end
theorem cut_to {xs : List V} {n : Nat} (h : n ≤ xs.length) : cutV xs none (some (n : Int)) = xs.take n := by
  unfold cutV
  rw [HT.sIx_none, HT.sIx_nat, Nat.min_eq_left h, Nat.sub_zero, List.drop_zero]
theorem cut_from {xs : List V} {n : Nat} (h : n ≤ xs.length) : cutV xs (some (n : Int)) none = xs.drop n := by
  unfold cutV
  rw [HT.sIx_none, HT.sIx_nat, Nat.min_eq_left h]
  exact List.take_of_length_le (by rw [List.length_drop]; exact Nat.le_refl _)
/-- lists of lists of ints -/
theorem Dp.ints {K : PySem.W.Frag} {H : Hp} {p : Addr} {ns : List Int} (h : SqL K H p (ns.map V.int)) : Dp K H (.ref p) (.list (ns.map PyData.int)) := .lst h (DpAll.ints ns)
theorem Dp.ints_inv {K : PySem.W.Frag} {H : Hp} {v : V} {ns : List Int} (h : Dp K H v (.list (ns.map PyData.int))) : ∃ p, v = .ref p ∧ SqL K H p (ns.map V.int) := by
  obtain ⟨a, xs, rfl, hs, ha⟩ := Dp.lst_inv h
  rw [DpAll.ints_inv ha] at hs
  exact ⟨a, rfl, hs⟩
end Ovc
namespace PySem
namespace LowX
open PySem.W PySem.Calls PyProof.Rows PySem.HandSPX
/-! ### the text of __init__ -/
def iA (p1 p2 : Pos) : Arguments := { posonlyargs := [], args := [{ arg := "self", annotation := none, pos := p1 }, { arg := "at", annotation := none, pos := p2 }], vararg := none, kwonlyargs := [], kw_defaults := [], kwarg := none, defaults := [] }
def iB (q1 q2 q3 q4 : Pos) : List Stmt := [.Assign [.Attribute (.Name "self" q1) "at" q2] (.Name "at" q3) q4]
def iS : Scope := { kind := .function, names := [(PySem.Str.ofString "self", .local), (PySem.Str.ofString "at", .local)], isGenerator := false, isCoroutine := false, more := [] }
/-- what the written part says of Low, at C, and of its __init__, at fI -/
structure LowTxt (K : Frag) (mg : Str → Option Value) (xN : Str) (C fI : Addr) : Prop where
  gC : mg xN = some (.ref C)
  cls : ∃ nm q N bs bm sn sub ab col dd k0 k1 k2 k3 k5, K.lookup C = some (excClassObj nm q C N bs bm true sn sub ab col dd k0 k1 k2 k3 k5 "ValueError.__new__") ∧ refsVE bm = true
  sa : findIn K (.ref C) "__setattr__" = some (some (.builtin "object.__setattr__"))
  ga : findIn K (.ref C) "__getattribute__" = some (some (.builtin "BaseException.__getattribute__"))
  gg : findIn K (.ref C) "__getattr__" = some none
  noN : findIn K (.ref C) "at" = some none
  iC : findIn K (.ref C) "__init__" = some (some (.ref fI))
  tC : typeIn K (.ref fI) = some (.type "function")
  kC : keepIn K (.ref C) = true
  exC : subIn K (.ref C) (.type "BaseException") = some true
  tyC : typeIn K (.ref C) = some (.type "type")
  hdC : hasDictIn K C = true
  te : exmOne K (.ref C) (.ref C) = some true
  fn : ∃ (oc : Value) (od : Option Addr) (doc pm : Value) (an : Option Addr) (cdv ct : Value) (osl : Array (Option Value)) (p1 p2 q1 q2 q3 q4 : Pos),
    K.lookup fI = some ⟨oc, od, .func (fnOf "__init__" "OverpassesError.__init__" (iA p1 p2) (iB q1 q2 q3 q4) iS .none .none doc pm an cdv ct), osl⟩ ∧ codeIn K cdv "OverpassesError.__init__" = true
theorem one_size (v : Value) : [v].length ≤ sizeLine := by
  rw [sizeLine_eq]
  exact (by decide : 1 ≤ 16777216)
theorem kept_but {K : Frag} {h h' : Heap} {x : Addr} (X : K.In h) (hx : K.lookup x = none) (k : ∀ b o, b ≠ x → h.get? b = some o → h'.get? b = some o) : K.In h' := fun a o e =>
  k a o (fun z => by rw [z, hx] at e; cases e) (X a o e)
theorem ldC {M : Model} {s : Shared} {name : Str} {scope : Scope} {L a : Addr} {cd : Value} {m : Str → Option Value} {x : Str} {pos : Pos} {v : Value} {Q : Value → Shared → Prop} {A : Around} {E : Value → Shared → Prop} (hn : s.heap.Ns L m) (hv : m x = some v) (h : Q v s)
    (hk : scope.kind = .function := by rfl) (hl : (envOfC name scope L a cd).kindOf x = some .local := by rfl) (hd : (x == ("__debug__" : Str)) = false := by decide) :
    wpAny M A (eval (.Name x pos) (envOfC name scope L a cd)) Q E s := wpAny_Name (wpAny_loadName_local hk hl hn hv h) hd
/-- what __init__ leaves of a fresh exception at x -/
structure InitEnd (h h' : Heap) (x C dx t1 : Addr) (v : Value) : Prop where
  keep : ∀ b o, b ≠ x → h.get? b = some o → h'.get? b = some o
  obj : h'.get? x = some { cls := .ref C, dict := some dx, data := .fields #[.ref t1, .none, .none, .none, .bool false, .none] }
  dbig : h.objs.size ≤ dx
  dne : dx ≠ x
  ns : h'.Ns1 dx (fun y => if y = "at" then some v else none)
/-- a made Low -/
structure OwnMade (h h' : Heap) (e C d : Addr) (v : Value) : Prop where
  keep : ∀ b o, h.get? b = some o → h'.get? b = some o
  new : h.objs.size ≤ e
  obj : ∃ oe vs, h'.get? e = some oe ∧ oe.cls = .ref C ∧ oe.dict = some d ∧ oe.data = .fields vs ∧ vs[1]? = some .none
  dbig : h.objs.size ≤ d
  dne : d ≠ e
  ns : h'.Ns1 d (fun y => if y = "at" then some v else none)
section
variable {prog : Program} {w : World} {A : Around} {E : Value → Shared → Prop} {R : Result → Shared → Prop} {s : Shared} {K : Frag} {mg : Str → Option Value} {xN : Str} {C fI : Addr}
theorem low_init (T : LowTxt K mg xN C fI) {x t0 : Addr} {v : Value} (X : K.In s.heap) (hlim : s.heap.NoLimit) (hx : s.heap.get? x = some (excO C t0)) (hnx : K.lookup x = none) (hroom : A.depth < recursionLimit)
    (hq : ∀ h' tk dx, InitEnd s.heap h' x C dx t0 v → R (.ok (.ret .none)) { s with heap := h', toks := tk }) :
    codeAny (model prog w) A (.call (.ref fI) ⟨[.ref x, v], []⟩) R s := by
  obtain ⟨oc, od, doc, pm, an, cdv, ct, osl, p1, p2, q1, q2, q3, q4, ho, hcd⟩ := T.fn
  obtain ⟨nm, q, N, bs, bm, sn, sub, ab, col, dd, k0, k1, k2, k3, k5, hC, hbm⟩ := T.cls
  have hcl : clsIn K C = some { name := nm, bases := bs, mro := .ref C :: bm, ns := N, qualname := q, hasDict := true, slotNames := sn, subclasses := sub, abstract := ab, collection := col, hasDel := false } := by unfold clsIn; rw [hC] <;> rfl
  refine Att.call_fn (binds := [("self", .ref x), ("at", v)]) X hlim ho hcd hroom (BindsTo.of_eq (by first | rfl | with_unfolding_all rfl)) (by first | rfl | decide | with_unfolding_all rfl) (fun s₁ IC => ?_) rfl rfl rfl
  obtain ⟨h₁, tk₁, rfl⟩ := IC.toInCall.same
  have k : ∀ b o, s.heap.get? b = some o → h₁.get? b = some o := IC.toInCall.keep
  have hn := IC.toInCall.ns
  have hxL : s.heap.objs.size ≠ x := Nat.ne_of_gt (Heap.lt_size hx)
  have X₁ : K.In h₁ := X.keeps k
  have hx₁ := k _ _ hx
  -- self.by = by
  show wpAny _ _ (execs _ _) _ _ _
  refine wpAny_execs_cons (plainObj_wpAny_Assign_Attribute ?_)
  refine ldC (v := v) hn (by first | rfl | with_unfolding_all rfl | kernel_rfl) (ldC (v := .ref x) hn (by first | rfl | with_unfolding_all rfl | kernel_rfl) ?_)
  refine set_plain X₁ (ox := excO C t0) (od := none) ⟨hx₁, rfl, rfl, trivial⟩ T.sa ?_
  refine exc_osa X₁ hx₁ hcl (show refsVE (.ref C :: bm) = true from hbm) rfl T.noN (fun h₃ tk₃ dx k₃ dn dne hx₃ hn₃ => ?_)
  show wpAny _ _ (execs _ _) _ _ _
  have z : s.heap.objs.size < h₁.objs.size := hn.lt
  exact wpAny_execs_nil (hq h₃ tk₃ dx ⟨fun b o hb e => k₃ b o hb (k b o e), hx₃, Nat.le_of_lt (Nat.lt_of_lt_of_le z dn), dne, hn₃⟩)
theorem low_made (T : LowTxt K mg xN C fI) {v : Value} (X : K.In s.heap) (hlim : s.heap.NoLimit) (hroom : A.depth + 1 < recursionLimit)
    (hq : ∀ h' tk e d, OwnMade s.heap h' e C d v → R (.ok (.ret (.ref e))) { s with heap := h', toks := tk }) :
    codeAny (model prog w) A (.call (.ref C) ⟨[v], []⟩) R s := by
  obtain ⟨nm, q, N, bs, bm, sn, sub, ab, col, dd, k0, k1, k2, k3, k5, hC, hbm⟩ := T.cls
  obtain ⟨hp, g, dr, tk, os⟩ := s
  have k : ∀ b o, hp.get? b = some o → ((hp.push (kdv_tup [v])).push (excO C hp.objs.size)).get? b = some o := fun b o e => Heap.get?_push_of_some _ (Heap.get?_push_of_some _ e)
  have hget : ((hp.push (kdv_tup [v])).push (excO C hp.objs.size)).get? (hp.objs.size + 1) = some (excO C hp.objs.size) := by heap_get
  have hnx : K.lookup (hp.objs.size + 1) = none := by
    cases e : K.lookup (hp.objs.size + 1) with
    | none => rfl
    | some o =>
      have z : hp.get? (hp.objs.size + 1) = some o := X _ _ e
      exact absurd (Nat.lt_of_succ_lt (Heap.lt_size z)) (Nat.lt_irrefl _)
  refine call_own F.excBase_ValueError (fun X => refsVE_contains X bm hbm) (X _ _ hC) (looks_findIn X T.iC) (fun self => bind_fn X self T.tC) (one_size v) ?_
  refine low_init (s := ⟨(hp.push (kdv_tup [v])).push (excO C hp.objs.size), g, dr, tk, os⟩) T (X.keeps k) (hlim.keeps k) hget hnx ?_ fun h' tk' dx ⟨k', hx, dn, dne, hns⟩ => ?_
  · show A.depth + 1 < recursionLimit
    exact hroom
  · have old : ∀ b o, hp.get? b = some o → h'.get? b = some o := fun b o e => k' b o (Nat.ne_of_lt (Nat.lt_succ_of_lt (Heap.lt_size e))) (k b o e)
    have z : hp.objs.size + 1 + 1 ≤ dx := by
      first
        | (simpa only [Heap.size_push] using dn)
        | exact dn
        | (have q := dn; rw [Heap.size_push, Heap.size_push] at q; exact q)
    exact ⟨rfl, hq h' tk' (hp.objs.size + 1) dx ⟨old, Nat.le_succ _, ⟨_, _, hx, rfl, rfl, rfl, rfl⟩, Nat.le_trans (Nat.le_trans (Nat.le_succ _) (Nat.le_succ _)) z, dne, hns⟩⟩
end
end LowX
end PySem
namespace L2
open PySem PySem.Spec PyProof.Rows
theorem relO_low {v : V} {v' : Value} (r : RelV v v') (f : Str) : RelO (List.lookup f [(("at" : Str), v)]) (if f = "at" then some v' else none) := by
  by_cases hw : f = "at"
  · subst hw
    rw [if_pos rfl]
    have q : List.lookup ("at" : Str) [(("at" : Str), v)] = some v := by simp [List.lookup]
    rw [q]
    exact r
  · rw [if_neg hw]
    have qw : (f == ("at" : Str)) = false := by simpa using hw
    have q2 : List.lookup f [(("at" : Str), v)] = none := by simp [List.lookup, qw]
    rw [q2]
    trivial
section
variable {X : Cx} {xN : Str} {C fI : Addr}
/-- Low(e) -/
def tMkLow (C : Addr) (ta : TA) : St → Hp → XK → Prop := fun σ H Q => ta σ H fun vs H1 => ∃ v, vs = [v] ∧ ∀ d, H1 d = none → Q (.ref C) (some d) (upd H1 d (.xd [(("at" : Str), v)]))
theorem pmk_low {a : Expr} {ta : TA} {p pos : Pos} {k : Nat} (T : PySem.LowX.LowTxt X.K X.mg xN C fI) (hr : Room k X.A) (ha : PA X [a] ta) (hg : Gl X xN := by rfl) (hdb : (xN == ("__debug__" : Str)) = false := by decide)
    (he : starEach (a :: []) X.env = (false, eval a X.env) :: starEach [] X.env := by rfl) (hpl : (backTo pos (starEach [] X.env)).any (·.1) = false := by rfl) :
    PMk X (.Call (.Name xN p) [a] [] pos) (tMkLow C ta) := by
  intro pins s σ H Q I h
  refine wpAny_Call_Name_kw (ld_glob I hg T.gC ?_ hdb)
  refine PySem.W.callWith_K (h₀ := X.base) I.ok.mod.kin T.kC (thn (ha.run pos pins s σ H _ I h) fun us s1 hh => ?_) he hpl
  obtain ⟨vs, H1, I1, r1, v, ev, q1⟩ := hh
  subst ev
  refine ⟨I1.kIn, ?_⟩
  cases r1 with
  | cons rv rn =>
    rename_i v' us'
    cases rn
    show wpAny _ _ (call (.ref C) [v']) _ _ _
    have hlim := I1.nolimit
    obtain ⟨hp, g, dr, tk, os⟩ := s1
    refine wpAny_call (PySem.LowX.low_made T I1.kIn hlim (by have := hr.dp; omega) fun h' tk' e d M => ?_)
    show MkP X pins σ Q (.ref e) ⟨h', g, dr, tk', os⟩
    obtain ⟨oe, fv, hoe, hc, hd, hdat, h1⟩ := M.obj
    have hns := M.ns
    obtain ⟨G', g1, g2⟩ := restrict h' fun b => decide (b ≠ e)
    have gk : ∀ b, b ≠ e → G'.get? b = h'.get? b := fun b hb => g1 b (decide_eq_true hb)
    have ge : G'.get? e = none := g2 e (by simp)
    have old : ∀ b o, hp.get? b = some o → G'.get? b = some o := fun b o q => (gk b (Nat.ne_of_lt (Nat.lt_of_lt_of_le (Heap.lt_size q) M.new))).trans (M.keep b o q)
    have ob : ObjOk X.prog X.w (upd H1 d (.xd [(("at" : Str), v)])) G' d (.xd [(("at" : Str), v)]) :=
      ⟨_, hns.at (fun o q => (gk d M.dne).trans q), fun f => relO_low rv f⟩
    have J : Inv X pins σ (upd H1 d (.xd [(("at" : Str), v)])) ⟨G', g, dr, tk', os⟩ := I1.laid (t' := tk') old M.dbig ob
    refine ⟨e, oe, fv, ⟨G', g, dr, tk', os⟩, _, .ref C, some d, rfl, J, fun b o q => ?_, ge, hoe, ⟨hc, hd⟩, hdat, h1, ?_, rfl, I1.bare, raises_own T.exC T.tyC, q1 d (I1.hok.fresh M.dbig)⟩
    · by_cases hb : b = e
      · have q' : G'.get? b = some o := q
        rw [hb, ge] at q'; cases q'
      · exact (gk b hb).symm.trans q
    · rw [upd_ne (Ne.symm M.dne)]
      exact I1.hok.fresh M.new
/-- raise Low(e) -/
def tRaiseLow (C : Addr) (W : WX) (ta : TA) : TS := fun _ σ H => tMkLow C ta σ H fun cls d H' => W cls d σ H'
theorem ps_raiseLow {a : Expr} {ta : TA} {W : WX} {p pos pos2 : Pos} {k : Nat} (hc : X.calm = true) (T : PySem.LowX.LowTxt X.K X.mg xN C fI) (hr : Room k X.A) (tk : Takes X W) (ha : PA X [a] ta) (hg : Gl X xN := by rfl) (hdb : (xN == ("__debug__" : Str)) = false := by decide)
    (he : starEach (a :: []) X.env = (false, eval a X.env) :: starEach [] X.env := by rfl) (hpl : (backTo pos (starEach [] X.env)).any (·.1) = false := by rfl) :
    PS X (.Raise (some (.Call (.Name xN p) [a] [] pos)) none pos2) (tRaiseLow C W ta) := ps_raise hc tk (pmk_low T hr ha hg hdb he hpl)
/-- low.by, low the exception that the suite holds (at a; its class cls, its dict d) -/
def tByLow (C : Addr) (a : Addr) (cls : Value) (d : Option Addr) (te : TE) : TE := fun σ H Q => te σ H fun x H1 => x = .ref a ∧ cls = .ref C ∧ ∃ (dd : Addr) (v : V), d = some dd ∧ H1 dd = some (.xd [(("at" : Str), v)]) ∧ Q v H1
theorem pe_byLow {a : Addr} {oe : Obj} {cls : Value} {d : Option Addr} {pn : List (Addr × Obj)} {e : Expr} {te : TE} {pos : Pos} (T : PySem.LowX.LowTxt X.K X.mg xN C fI) (hz : Zc cls d oe) (hf : ∃ vs, oe.data = .fields vs) (he : PE (X.suite a ((a, oe) :: pn)) e te)
    (hb : attributeBase e "at" X.env (eval e X.env) = eval e X.env := by rfl) :
    PE (X.suite a ((a, oe) :: pn)) (.Attribute e "at" pos) (tByLow C a cls d te) := by
  refine ⟨fun pins s σ H Q I h => ?_⟩
  refine attr_of hb (thn (he.run pins s σ H _ I h) fun u s1 hh => ?_)
  obtain ⟨x, H1, I1, rx, ex, ec, dd, v, ed, ea, q⟩ := hh
  subst ex
  obtain rfl : u = Value.ref a := rx
  subst ec
  subst ed
  obtain ⟨ha, _⟩ := I1.pin (a, oe) (List.mem_append_left _ List.mem_cons_self)
  obtain ⟨vs, hd⟩ := hf
  have hx : ObjOk X.prog X.w H1 s1.heap dd (.xd [(("at" : Str), v)]) := I1.hok dd _ ea
  obtain ⟨mA, hns, hr⟩ := hx
  obtain ⟨od, ho, hl⟩ := lookIn_ns hns
  have l : List.lookup ("at" : Str) [(("at" : Str), v)] = some v := by simp [List.lookup]
  obtain ⟨u, hu, ru⟩ := RelO.some_of (v := v) (o := mA "at") (by rw [← l]; exact hr "at")
  have J : PySem.W.InstAt s1.heap a oe C (some od) := ⟨ha, hz.1, by unfold PySem.W.notCls; rw [hd] <;> rfl, by rw [hz.2]; exact ho⟩
  exact HandSPX.exc_get I1.kIn J T.ga T.gg T.exC (PySem.W.findObj_own T.hdC T.noN rfl (by rw [hl, hu])) (handed_of ru) ⟨v, H1, I1.tok _, ru, q⟩
end
end L2

namespace L2
open PySem PySem.Spec PyProof.Rows
/-- an if whose test is known -/
theorem if_true_of {c : Bool} {A B : Prop} (hc : c = true) (h : A) : if c = true then A else B := by
  rw [if_pos hc]
  exact h
theorem if_false_of {c : Bool} {A B : Prop} (hc : c = false) (h : B) : if c = true then A else B := by
  rw [hc, if_neg Bool.false_ne_true]
  exact h
end L2
namespace Ovc
open PySem PySem.Spec PyProof.Rows L2
/-! ### try with several clauses, each with a name or without one -/
/-- the ends of a suite whose name's slot is emptied behind it -/
def endsAs (i : Nat) (D : Ends) : Ends := { nx := fun σ H => D.nx (σ.set i none) H, rt := D.rt, bk := fun σ H => D.bk (σ.set i none) H, ct := fun σ H => D.ct (σ.set i none) H }
abbrev Clause := Value × Option Nat × (Addr → Value → Option Addr → TS)
def runClause (q : Clause) (a : Addr) (cls : Value) (d : Option Addr) (D : Ends) (σ : L2.St) (H : Hp) : Prop :=
  match q.2.1 with
  | none => q.2.2 a cls d D σ H
  | some i => q.2.2 a cls d (endsAs i D) (σ.set i (some (.ref a))) H
def wClauses (K : PySem.W.Frag) (Wout : WX) (D : Ends) : List Clause → WX
  | [] => Wout
  | q :: r => fun cls d σ H => ∃ b, PySem.W.exmOne K cls q.1 = some b ∧ (b = true → ∀ a, H a = none → runClause q a cls d D σ H) ∧ (b = false → wClauses K Wout D r cls d σ H)
inductive ClOk (X : Cx) : List ExceptHandler → List Clause → Prop
  | nil : ClOk X [] []
  | bare {x : Str} {c : Value} {ts : Addr → Value → Option Addr → TS} {st₀ : Stmt} {sts : List Stmt} {p1 p2 : Pos} {hds : List ExceptHandler} {l : List Clause} (hc : Names X x c)
      (suite : ∀ (a : Addr) (ob : Obj) (cls : Value) (d : Option Addr) (pn : List (Addr × Obj)), Zc cls d ob → (∃ fv, ob.data = .fields fv) → PSs (X.suite a ((a, ob) :: pn)) (st₀ :: sts) (ts a cls d)) (more : ClOk X hds l) :
      ClOk X (.ExceptHandler (some (.Name x p1)) none (st₀ :: sts) p2 :: hds) ((c, none, ts) :: l)
  | named {x n : Str} {c : Value} {i : Nat} {ts : Addr → Value → Option Addr → TS} {st₀ : Stmt} {sts : List Stmt} {p1 p2 : Pos} {hds : List ExceptHandler} {l : List Clause} (hN : X.N.Nodup) (hi : X.N[i]? = some n) (hln : X.env.kindOf n = some .local) (hc : Names X x c)
      (suite : ∀ (a : Addr) (ob : Obj) (cls : Value) (d : Option Addr) (pn : List (Addr × Obj)), Zc cls d ob → (∃ fv, ob.data = .fields fv) → PSs (X.suite a ((a, ob) :: pn)) (st₀ :: sts) (ts a cls d)) (more : ClOk X hds l) :
      ClOk X (.ExceptHandler (some (.Name x p1)) (some n) (st₀ :: sts) p2 :: hds) ((c, some i, ts) :: l)
section
variable {X : Cx} {body : List Stmt} {hd₀ : ExceptHandler} {hds : List ExceptHandler} {l : List Clause} {pos : Pos} {tb : WX → TS} {Wout : WX}
theorem ps_try_cl (hsk : X.stack = X.env :: X.outer) (hfm : X.env.frame = some X.env.locals) (tk : Takes X Wout)
    (hb : ∀ (W : WX) (pn : List (Addr × Obj)) (xe : Value → Shared → Prop), Takes (X.tr pn xe) W → PassesOwn (model X.prog X.w) X.A X.env xe → PSs (X.tr pn xe) body (tb W))
    (hcl : ClOk X (hd₀ :: hds) l) : PS X (.Try body (hd₀ :: hds) [] [] pos) (fun D σ H => tb (wClauses X.K Wout D l) D σ H) := by
  refine ⟨fun pins s σ H D I0 hr => ?_⟩
  have okX := I0.ok
  have frA : X.A.frames = some (X.env :: X.outer) := by rw [okX.frames, hsk]
  refine wpAny_Try_except (wpAny_mono ((hb (wClauses X.K Wout D l) (X.pn ++ pins) (fun e t₁ => wpAny (model X.prog X.w) X.A (noteFrame e X.env) (fun _ t₂ => wpAny (model X.prog X.w) X.A (setFlight e none) (fun _ t₃ =>
    wpAny (model X.prog X.w) X.A (handleBy e X.env (hd₀ :: hds)) (SP X pins D) X.xe t₃) X.xe t₂) X.xe t₁) (fun u t xx => ?caught) PassesOwn.looking).run [] s σ H D (I0.toTry _) hr) (fun fl t hsp => ?after) (fun e t he => he))
  case after =>
    cases fl with
    | next => exact let ⟨σ1, H1, I1, z⟩ := hsp; wpAny_execs_nil ⟨σ1, H1, I1.ofTry okX, z⟩
    | brk => exact let ⟨σ1, H1, I1, z⟩ := hsp; ⟨σ1, H1, I1.ofTry okX, z⟩
    | cont => exact let ⟨σ1, H1, I1, z⟩ := hsp; ⟨σ1, H1, I1.ofTry okX, z⟩
    | ret u => exact let ⟨v, σ1, H1, I1, r, z⟩ := hsp; ⟨v, σ1, H1, I1.ofTry okX, r, z⟩
  case caught =>
    obtain ⟨a, B, sI, pins1, σ1, H1, cls, d, rfl, I1', nb, up, sky, na, os, ag, wish⟩ := xx
    have I1 : Inv X pins σ1 H1 sI := I1'.ofTry okX
    have skyF : Sky B (X.env :: X.outer) a (Zc cls d) X.env.locals t.heap := by rw [← hsk]; exact sky
    refine Sky.land Zc.steady frA hfm skyF fun h3 fl3 up3 => ?_
    have I3 : Inv X pins σ1 H1 { t with heap := h3 } := I1.landed nb fl3.1 (up.trans up3) os ag
    obtain ⟨ob3, fv3, at3, z3, dat3⟩ := fl3.there
    have off : a ∉ frs (X.env :: X.outer) := fun hm => by
      obtain ⟨_, o', e', hnf⟩ := fl3.2.2.1.mem hm
      rw [at3] at e'
      cases e'
      exact hnf _ dat3
    have offL : a ≠ X.env.locals := fun z => off (List.mem_filterMap.mpr ⟨X.env, List.mem_cons_self, by rw [hfm, z]⟩)
    have offF : a ∉ X.fs := fun hm => let ⟨en, hen, z⟩ := List.mem_filterMap.mp hm; off (List.mem_filterMap.mpr ⟨en, List.mem_cons_of_mem _ hen, z⟩)
    have SU3 := I3.suite at3 dat3 na offL offF
    have test : ∀ {x : Str} {c : Value} {p1 : Pos} {Q : Value → Shared → Prop} {E : Value → Shared → Prop}, Names X x c → Q c { t with heap := h3 } →
        wpAny (model X.prog X.w) (X.A.mark (some (.ref a))) (eval (.Name x p1) X.env) Q E { t with heap := h3 } := fun {x c p1 Q E} hc z => by
      obtain ⟨hg, hdb, hm | ⟨hm, hv, hne⟩⟩ := hc
      · exact ld_glob (X := X.suite a ((a, ob3) :: (X.pn ++ pins))) SU3 hg hm z hdb
      · exact ld_blt (X := X.suite a ((a, ob3) :: (X.pn ++ pins))) SU3 hg hm hv z hne hdb
    have looks : PySem.W.Looks (model X.prog X.w) h3 (typeOf (.ref a)) cls := fun A Q E s1 keep z => wpAny_typeOf_ref (keep _ _ at3) (by rw [z3.1]; exact z)
    suffices go : ∀ {hs1 : List ExceptHandler} {l1 : List Clause}, ClOk X hs1 l1 → wClauses X.K Wout D l1 cls d σ1 H1 → wpAny (model X.prog X.w) X.A (handleBy (.ref a) X.env hs1) (SP X pins D) X.xe { t with heap := h3 } from go hcl wish
    intro hs1 l1 hk
    induction hk with
    | nil =>
      intro wo
      refine wpAny_handleBy_nil ?_
      obtain ⟨k1, k2, k3, ob, fv, T, oT, tv, heT, hzT, hdT, hT1, hTr⟩ := id fl3
      unfold PySem.passOn
      refine wpAny_bind (wpAny_field heT hdT hT1 ?_)
      rw [if_neg (show ¬ (Value.ref T == Value.none) = true from by simp)]
      have fin : wpAny (model X.prog X.w) X.A (setFlight (.ref a) X.env.frame) (fun _ t4 => wpAny (model X.prog X.w) X.A (throw (.ref a) : Sem Flow) (SP X pins D) X.xe t4) X.xe { t with heap := h3 } := by
        rw [hfm]
        exact HandSPX.setFlight_upZ fl3 fun h4 held4 up4 => wpAny_throw (tk _ _ ⟨a, B, sI, pins, σ1, H1, cls, d, rfl, I1, nb, (up.trans up3).trans up4, .inr (.inr (by rw [hsk]; exact held4)), na, os, ag, wo⟩)
      first | exact wpAny_bind (wpAny_pure (wpAny_bind fin)) | exact wpAny_bind fin
    | @bare x c ts st₀ sts p1 p2 hs2 l2 hc suite more ih =>
      rintro ⟨b, hb1, yes, no⟩
      refine wpAny_handleBy_cons (codeAny_handlers_test (test hc ((PySem.W.exm_one (M := model X.prog X.w) I3.kIn looks hb1).here ?_))) (by intro q; cases q)
      cases b with
      | false => exact ih (no rfl)
      | true =>
        refine codeAny_handlers_suite (HandSPX.lands_againZ fl3 fun h4 fl4 up4 => ?_)
        have I4 : Inv X pins σ1 H1 { t with heap := h4 } := I1.landed nb fl4.1 ((up.trans up3).trans up4) os ag
        obtain ⟨ob4, fv4, at4, z4, dat4⟩ := fl4.there
        refine wpAny_mono ((suite a ob4 cls d (X.pn ++ pins) z4 ⟨_, dat4⟩).run [] _ _ H1 _ (I4.suite at4 dat4 na offL offF) (yes rfl a na)) (fun f t6 hsp => ?_) (fun _ _ z => False.elim z)
        cases f with
        | next => exact let ⟨σ6, H6, S6, z6⟩ := hsp; ⟨_, _, S6.unsuite okX, z6⟩
        | brk => exact let ⟨σ6, H6, S6, z6⟩ := hsp; ⟨_, _, S6.unsuite okX, z6⟩
        | cont => exact let ⟨σ6, H6, S6, z6⟩ := hsp; ⟨_, _, S6.unsuite okX, z6⟩
        | ret u => exact let ⟨v6, σ6, H6, S6, r6, z6⟩ := hsp; ⟨_, _, _, S6.unsuite okX, r6, z6⟩
    | @named x n c i ts st₀ sts p1 p2 hs2 l2 hN hi hln hc suite more ih =>
      rintro ⟨b, hb1, yes, no⟩
      refine wpAny_handleBy_cons (codeAny_handlers_test (test hc ((PySem.W.exm_one (M := model X.prog X.w) I3.kIn looks hb1).here ?_))) (by intro q; cases q)
      cases b with
      | false => exact ih (no rfl)
      | true =>
        refine codeAny_handlers_suite_as (HandSPX.lands_againZ fl3 fun h4 fl4 up4 => ?_)
        have I4 : Inv X pins σ1 H1 { t with heap := h4 } := I1.landed nb fl4.1 ((up.trans up3).trans up4) os ag
        obtain ⟨ob4, fv4, at4, z4, dat4⟩ := fl4.there
        refine store_ok (X := X.suite a ((a, ob4) :: (X.pn ++ pins))) (v := .ref a) (I4.suite at4 dat4 na offL offF) hN hi (.inl hln) rfl (fun t5 S5 => ?_) (.inr hln)
        refine wpAny_mono ((suite a ob4 cls d (X.pn ++ pins) z4 ⟨_, dat4⟩).run [] t5 _ H1 _ S5 (yes rfl a na)) (fun f t6 hsp => ?_) (fun _ _ z => False.elim z)
        have off6 : ∀ {σ6 : L2.St} {H6 : Hp} {Q : Shared → Prop}, Inv (X.suite a ((a, ob4) :: (X.pn ++ pins))) [] σ6 H6 t6 → (∀ t7, Inv X pins (σ6.set i none) H6 t7 → Q t7) →
            wpAny (model X.prog X.w) X.A (do bindName X.env n .none; unbindBehindTheSuite X.env n p2) (fun _ t7 => Q t7) X.xe t6 := fun {σ6 H6 Q} S6 hq => gone_ok (S6.unsuite okX) hN hi hln hq
        cases f with
        | next => exact let ⟨σ6, H6, S6, z6⟩ := hsp; off6 S6 fun t7 I7 => ⟨_, _, I7, z6⟩
        | brk => exact let ⟨σ6, H6, S6, z6⟩ := hsp; off6 S6 fun t7 I7 => ⟨_, _, I7, z6⟩
        | cont => exact let ⟨σ6, H6, S6, z6⟩ := hsp; off6 S6 fun t7 I7 => ⟨_, _, I7, z6⟩
        | ret u => exact let ⟨v6, σ6, H6, S6, r6, z6⟩ := hsp; off6 S6 fun t7 I7 => ⟨_, _, _, I7, r6, z6⟩
end
/-! ### a < b < c < d as a test -/
def tTest3 (r1 r2 r3 : R2) (ta tb tc td : TE) : TT := fun σ H Q => ta σ H fun x H1 => tb σ H1 fun y H2 => r1 x y H2 fun z H3 => ∃ k, z = .bl k ∧
  (if k = true then tc σ H3 fun u H4 => r2 y u H4 fun z2 H5 => ∃ k2, z2 = .bl k2 ∧ (if k2 = true then td σ H5 fun v H6 => r3 u v H6 fun z3 H7 => ∃ k3, z3 = .bl k3 ∧ Q k3 H7 else Q false H5) else Q false H3)
theorem pt_chain3 {X : Cx} {a b c d : Expr} {ta tb tc td : TE} {o1 o2 o3 : CmpOp} {r1 r2 r3 : R2} {pos : Pos} (h1 : OpR X (compareOp o1) r1) (h2 : OpR X (compareOp o2) r2) (h3 : OpR X (compareOp o3) r3) (ha : PE X a ta) (hb : PE X b tb) (hc : PE X c tc) (hd : PE X d td)
    (hm : lastMarks [o1, o2, o3] [b, c, d] = false := by with_unfolding_all rfl) : PT X (.Compare a [o1, o2, o3] [b, c, d] pos) (tTest3 r1 r2 r3 ta tb tc td) := by
  refine ⟨fun pins s σ H Q I0 hr => isTrue_chain (thn (ha.run pins s σ H _ I0 hr) fun v1 s1 ⟨x, H1, I1, e1, q1⟩ => test_link (thn (hb.run pins s1 σ H1 _ I1 q1) fun v2 s2 ⟨y, H2, I2, e2, q2⟩ =>
    thn (h1 pins s2 σ H2 x y v1 v2 _ I2 e1 e2 q2) fun v3 s3 ⟨z, H3, I3, e3, k, ez, q3⟩ => ?_)) hm⟩
  subst ez
  cases e3
  refine wpAny_truthy_bool ?_
  cases k with
  | false => exact ite_ff ⟨H3, I3, q3⟩
  | true =>
    refine ite_tt (test_link (thn (hc.run pins s3 σ H3 _ I3 q3) fun v4 s4 ⟨u, H4, I4, e4, q4⟩ => thn (h2 pins s4 σ H4 y u v2 v4 _ I4 e2 e4 q4) fun v5 s5 ⟨z2, H5, I5, e5, k2, ez2, q5⟩ => ?_))
    subst ez2
    cases e5
    refine wpAny_truthy_bool ?_
    cases k2 with
    | false => exact ite_ff ⟨H5, I5, q5⟩
    | true =>
      refine ite_tt (test_last (thn (hd.run pins s5 σ H5 _ I5 q5) fun v6 s6 ⟨v, H6, I6, e6, q6⟩ => thn (h3 pins s6 σ H6 u v v4 v6 _ I6 e4 e6 q6) fun v7 s7 ⟨z3, H7, I7, e7, k3, ez3, q7⟩ => ?_))
      subst ez3
      cases e7
      exact wpAny_truthy_bool ⟨H7, I7, q7⟩
theorem an_chain3 {σ : L2.St} {H : Hp} {g1 g2 g3 : Int → Int → Bool} {ta tb tc td : TE} {p q r s : Int} (ha : Vl ta σ H (.int p)) (hb : Vl tb σ H (.int q)) (hc : Vl tc σ H (.int r)) (hd : Vl td σ H (.int s)) :
    An (tTest3 (rI0 fun i j => .bl (g1 i j)) (rI0 fun i j => .bl (g2 i j)) (rI0 fun i j => .bl (g3 i j)) ta tb tc td) σ H (g1 p q && (g2 q r && g3 r s)) := fun Q k =>
  ha _ (hb _ ⟨p, q, rfl, rfl, _, rfl, by
    show if g1 p q = true then _ else _
    revert k
    cases g1 p q with
    | false => exact fun k => iteF k
    | true => exact fun k => iteT (hc _ ⟨q, r, rfl, rfl, _, rfl, by
        show if g2 q r = true then _ else _
        revert k
        cases g2 q r with
        | false => exact fun k => iteF k
        | true => exact fun k => iteT (hd _ ⟨r, s, rfl, rfl, _, rfl, k⟩)⟩)⟩)
/-! ### tests that make objects on their way -/
def Ax (t : TT) (σ : L2.St) (H : Hp) (b : Bool) : Prop := ∀ Q : Bool → Hp → Prop, (∀ H', Same H H' → Q b H') → t σ H Q
section
variable {K : PySem.W.Frag} {σ : L2.St} {H : Hp} {t u : TT} {D : Ends} {tz tu tw : TS} {ta tb tc : TE}
theorem ax_of {b : Bool} (h : An t σ H b) : Ax t σ H b := fun Q q => h Q (q H (Same.refl H))
theorem ax_not {b : Bool} (h : Ax t σ H b) : Ax (tNot t) σ H (!b) := fun Q q => h _ fun H' s => q H' s
theorem ax_and {k m : Bool} (h1 : Ax t σ H k) (h2 : k = true → ∀ H', Same H H' → Ax u σ H' m) : Ax (tAnd t u) σ H (k && m) := fun Q q => h1 _ fun H1 s1 => by
  cases k with
  | true => exact iteT (h2 rfl H1 s1 _ fun H2 s2 => q H2 (s1.trans s2))
  | false => exact iteF (q H1 s1)
theorem ax_or {k m : Bool} (h1 : Ax t σ H k) (h2 : k = false → ∀ H', Same H H' → Ax u σ H' m) : Ax (tOr t u) σ H (k || m) := fun Q q => h1 _ fun H1 s1 => by
  cases k with
  | true => exact iteT (q H1 s1)
  | false => exact iteF (h2 rfl H1 s1 _ fun H2 s2 => q H2 (s1.trans s2))
theorem Ax.is {k m : Bool} (h : Ax t σ H k) (e : k = m) : Ax t σ H m := e ▸ h
theorem g_ifx {b : Bool} (h : Ax t σ H b) (h1 : b = true → ∀ H', Same H H' → tz D σ H') (h2 : b = false → ∀ H', Same H H' → tu D σ H') : tIfS t tz tu D σ H := h _ fun H' s => by
  cases b with
  | true => exact iteT (h1 rfl H' s)
  | false => exact iteF (h2 rfl H' s)
theorem q_ifx {b : Bool} (h : Ax t σ H b) (h1 : b = true → ∀ H', Same H H' → tz { D with nx := tw D } σ H') (h2 : b = false → ∀ H', Same H H' → tu { D with nx := tw D } σ H') : tSeq (tIfS t tz tu) tw D σ H := g_ifx (D := { D with nx := tw D }) h h1 h2
theorem q_whenx {b : Bool} (h : Ax t σ H b) (h1 : b = true → ∀ H', Same H H' → tz { D with nx := tw D } σ H') (h2 : b = false → ∀ H', Same H H' → tw D σ H') : tSeq (tIfS t tz tNext) tw D σ H := g_ifx (D := { D with nx := tw D }) h h1 h2
theorem g_whenx {b : Bool} (h : Ax t σ H b) (h1 : b = true → ∀ H', Same H H' → tz D σ H') (h2 : b = false → ∀ H', Same H H' → D.nx σ H') : tIfS t tz tNext D σ H := g_ifx h h1 h2
theorem lexAt2 {a b c d : Int} : Ob.lexAt (fun j => decide ([a, b].getD j 0 = [c, d].getD j 0)) (fun j => decide ([a, b].getD j 0 ≤ [c, d].getD j 0)) (decide ([a, b].length ≤ [c, d].length)) 0 (min [a, b].length [c, d].length) = decide (a < c ∨ (a = c ∧ b ≤ d)) := by
  show (if decide (a = c) = true then (if decide (b = d) = true then decide (2 ≤ 2) else decide (b ≤ d)) else decide (a ≤ c)) = _
  by_cases h1 : a = c
  · rw [if_pos (decide_eq_true h1)]
    by_cases h2 : b = d
    · rw [if_pos (decide_eq_true h2), decide_eq_true (Nat.le_refl 2), decide_eq_true (.inr ⟨h1, by omega⟩)]
    · rw [if_neg (fun h => h2 (of_decide_eq_true h)), Bool.eq_iff_iff]
      simp only [decide_eq_true_eq]
      omega
  · rw [if_neg (fun h => h1 (of_decide_eq_true h)), Bool.eq_iff_iff]
    simp only [decide_eq_true_eq]
    omega
/-- (a, b) <= t, t a tuple of two ints -/
theorem ax_leT {a b c d : Int} {T : Addr} (ha : Vl ta σ H (.int a)) (hb : Vl tb σ H (.int b)) (hc : ∀ H', Same H H' → Vl tc σ H' (.ref T)) (hT : SqT K H T [.int c, .int d]) : Ax (tTest (tOp (rLeT K) (tTup (tCons ta (tCons tb tNil))) tc)) σ H (decide (a < c ∨ (a = c ∧ b ≤ d))) := fun Q q =>
  ha _ (hb _ ⟨by show 2 ≤ sizeLine; decide, fun S nS => hc _ (same_upd nS) _ ⟨S, T, [a, b], [c, d], rfl, rfl, .of upd_same, seqT (same_upd nS) hT, _, rfl, by
    rw [lexAt2]
    exact q _ (same_upd nS)⟩⟩)
/-- (a, b) == (c, d), the tuples made on the way -/
theorem ax_eqTT {td : TE} {p q r s : Int} (ha : ∀ H', Same H H' → Vl ta σ H' (.int p)) (hb : ∀ H', Same H H' → Vl tb σ H' (.int q)) (hc : ∀ H', Same H H' → Vl tc σ H' (.int r)) (hd : ∀ H', Same H H' → Vl td σ H' (.int s)) :
    Ax (tTest (tOp (rEqD K) (tTup (tCons ta (tCons tb tNil))) (tTup (tCons tc (tCons td tNil))))) σ H (decide (p = r ∧ q = s)) := fun Q k =>
  ha H (Same.refl H) _ (hb H (Same.refl H) _ ⟨by show 2 ≤ sizeLine; decide, fun T nT => by
    have s1 : Same H (upd H T (.tup [.int p, .int q])) := same_upd nT
    refine hc _ s1 _ (hd _ s1 _ ⟨by show 2 ≤ sizeLine; decide, fun S nS => ?_⟩)
    have s2 : Same (upd H T (.tup [.int p, .int q])) (upd (upd H T (.tup [.int p, .int q])) S (.tup [.int r, .int s])) := same_upd nS
    refine ⟨.tuple [.int p, .int q], .tuple [.int r, .int s], .tup (.of (s2 _ _ upd_same)) (.cons (.int _) (.cons (.int _) .nil)), .tup (.of upd_same) (.cons (.int _) (.cons (.int _) .nil)), by rfl, by rfl, _, rfl, ?_⟩
    rw [show PyData.eqv (.tuple [.int p, .int q]) (.tuple [.int r, .int s]) = decide (p = r ∧ q = s) by
      show (p == r && (q == s && true)) = _
      rw [Bool.and_true, Bool.eq_iff_iff]
      simp]
    exact k _ (s1.trans s2)⟩)
/-- t == (c, d), t a tuple of two ints -/
theorem ax_eqRT {p q r s : Int} {T : Addr} (ha : Vl ta σ H (.ref T)) (hT : SqT K H T [.int p, .int q]) (hb : Vl tb σ H (.int r)) (hc : Vl tc σ H (.int s)) :
    Ax (tTest (tOp (rEqD K) ta (tTup (tCons tb (tCons tc tNil))))) σ H (decide (p = r ∧ q = s)) := fun Q k =>
  ha _ (hb _ (hc _ ⟨by show 2 ≤ sizeLine; decide, fun S nS => by
    have s2 : Same H (upd H S (.tup [.int r, .int s])) := same_upd nS
    refine ⟨.tuple [.int p, .int q], .tuple [.int r, .int s], .tup (seqT s2 hT) (.cons (.int _) (.cons (.int _) .nil)), .tup (.of upd_same) (.cons (.int _) (.cons (.int _) .nil)), by rfl, by rfl, _, rfl, ?_⟩
    rw [show PyData.eqv (.tuple [.int p, .int q]) (.tuple [.int r, .int s]) = decide (p = r ∧ q = s) by
      show (p == r && (q == s && true)) = _
      rw [Bool.and_true, Bool.eq_iff_iff]
      simp]
    exact k _ s2⟩))
/-- (a, b) == t, t a tuple of two ints -/
theorem ax_eqTR {p q r s : Int} {T : Addr} (ha : Vl ta σ H (.int p)) (hb : Vl tb σ H (.int q)) (hc : ∀ H', Same H H' → Vl tc σ H' (.ref T)) (hT : SqT K H T [.int r, .int s]) :
    Ax (tTest (tOp (rEqD K) (tTup (tCons ta (tCons tb tNil))) tc)) σ H (decide (p = r ∧ q = s)) := fun Q k =>
  ha _ (hb _ ⟨by show 2 ≤ sizeLine; decide, fun S nS => by
    have s2 : Same H (upd H S (.tup [.int p, .int q])) := same_upd nS
    refine hc _ s2 _ ⟨.tuple [.int p, .int q], .tuple [.int r, .int s], .tup (.of upd_same) (.cons (.int _) (.cons (.int _) .nil)), .tup (seqT s2 hT) (.cons (.int _) (.cons (.int _) .nil)), by rfl, by rfl, _, rfl, ?_⟩
    rw [show PyData.eqv (.tuple [.int p, .int q]) (.tuple [.int r, .int s]) = decide (p = r ∧ q = s) by
      show (p == r && (q == s && true)) = _
      rw [Bool.and_true, Bool.eq_iff_iff]
      simp]
    exact k _ s2⟩)
/-- assignments of a new tuple -/
theorem q_asgTup {i : Nat} {tr : TA} {xs : List V} (h : Va tr σ H xs) (hz : xs.length ≤ sizeLine) (k : ∀ T, H T = none → tw D (σ.set i (some (.ref T))) (upd H T (.tup xs))) : tSeq (tAsg (tTup tr) (gName i)) tw D σ H := h _ ⟨hz, k⟩
theorem g_asgTup {i : Nat} {tr : TA} {xs : List V} (h : Va tr σ H xs) (hz : xs.length ≤ sizeLine) (k : ∀ T, H T = none → D.nx (σ.set i (some (.ref T))) (upd H T (.tup xs))) : tAsg (tTup tr) (gName i) D σ H := h _ ⟨hz, k⟩
end
/-! ### defs that may raise, by their names -/
structure KalX (P : Program) (w : World) (K : PySem.W.Frag) (mg : Str → Option Value) (base : Heap) (k : Nat) (x : Str) (ps : List Str) (sp : Sp) : Prop where
  ex : ∃ (f : Addr) (fd : FuncData), FnOk P w K mg base (L2.CX P w) k f fd ps sp ∧ mg x = some (.ref f) ∧ PySem.W.keepIn K (.ref f) = true ∧ Binds K fd ps []
theorem kalx_of {P : Program} {w : World} {K : PySem.W.Frag} {mg : Str → Option Value} {base : Heap} {k : Nat} {x : Str} {st : Stmt} {ps : List Str} {sp : Sp} (A : Df K mg x st ps)
    (ok : ∀ f fd, Fun K x x st f fd → FnOk P w K mg base (L2.CX P w) k f fd ps sp) : KalX P w K mg base k x ps sp := by
  obtain ⟨f, fd, F, g, b⟩ := A.ex
  exact ⟨f, fd, ok f fd F, g, F.kp, b⟩
/-- called in a def that may raise -/
theorem pe_kx {X : Cx} {k j : Nat} {x : Str} {ps : List Str} {sp : Sp} {p pos : Pos} {e : Expr} {es : List Expr} {t : TA} {E : XK} (c : KalX X.prog X.w X.K X.mg X.base k x ps sp) (hr : Room j X.A) (hk : k ≤ j) (hg : Gl X x) (tk : Takes X (fun cls d _ H => E cls d H)) (ha : PA X (e :: es) t)
    (hdb : (x == ("__debug__" : Str)) = false := by decide) (he : starEach (e :: es) X.env = (false, eval e X.env) :: starEach es X.env := by rfl) (hpl : (backTo pos (starEach es X.env)).any (·.1) = false := by rfl) :
    PE X (.Call (.Name x p) (e :: es) [] pos) (tCall sp [] E t) := by
  obtain ⟨f, fd, F, hm, kp, b⟩ := c.ex
  exact pe_call F (hr.mono hk) hg hm kp b .nil (passes_call tk fun _ _ _ _ h => h) ha hdb he hpl
/-- called within a try -/
theorem pe_ks {X : Cx} {k j : Nat} {x : Str} {ps : List Str} {sp : Sp} {p pos : Pos} {e : Expr} {es : List Expr} {t : TA} {W : WX} (c : KalX X.prog X.w X.K X.mg X.base k x ps sp) (hr : Room j X.A) (hk : k ≤ j) (hg : Gl X x) (tk : Takes X W) (ha : PA X (e :: es) t)
    (hdb : (x == ("__debug__" : Str)) = false := by decide) (he : starEach (e :: es) X.env = (false, eval e X.env) :: starEach es X.env := by rfl) (hpl : (backTo pos (starEach es X.env)).any (·.1) = false := by rfl) :
    PE X (.Call (.Name x p) (e :: es) [] pos) (tCallS sp (WE W) t) := by
  obtain ⟨f, fd, F, hm, kp, b⟩ := c.ex
  exact pe_callS F (hr.mono hk) hg hm kp b (fun σ => passAt tk σ) ha hdb he hpl
/-! ### for link in links -/
section
variable {K : PySem.W.Frag} {σ : L2.St} {H : Hp} {a : Addr} {D : Ends} {tz tw : TS}
theorem g_forLk {j : Nat} {Hb : Hp} {xs : List V} {ls : List Lnk} {tl : TE} (h : Vl tl σ H (.ref a)) (hx : SqL K Hb a xs) (hL : DpAll K Hb xs (ls.map lnkD)) (hb : Same Hb H) (Pv : Nat → L2.St → Hp → Prop) (h0 : Pv 0 σ H) (hl : ∀ i σ' H', Pv i σ' H' → Same Hb H')
    (hs : ∀ (i : Nat) l t σ H, ls[i]? = some l → SqT K Hb t (lnkV l) → Pv i σ H → tz { D with nx := Pv (i + 1), ct := Pv (i + 1), bk := D.nx } (σ.set j (some (.ref t))) H) (hd : ∀ σ H, Pv ls.length σ H → D.nx σ H) :
    tFor (iList K tl) (gName j) tz D σ H := h _ ⟨a, rfl, ⟨_, hb.seq hx⟩, for_list (xs := xs) Pv h0 (fun i σ H _ p => (hl i σ H p).seq hx) (fun i x σ H hi p => by
      have e := DpAll.len hL
      rw [List.length_map] at e
      have hlt := (List.getElem?_eq_some_iff.mp hi).1
      have hg : ls[i]? = some ls[i] := List.getElem?_eq_getElem (by omega)
      obtain ⟨v, hv, dv⟩ := DpAll.get (i := i) (d := lnkD ls[i]) hL (by
        rw [List.getElem?_map, hg]
        rfl)
      cases hi.symm.trans hv
      obtain ⟨t, rfl, ht⟩ := Dp.lnk_inv dv
      exact hs i _ t σ H hg ht p) (fun σ H p => by
      have e := DpAll.len hL
      rw [List.length_map] at e
      rw [e] at p
      exact hd σ H p)⟩
theorem q_forLk {j : Nat} {Hb : Hp} {xs : List V} {ls : List Lnk} {tl : TE} (h : Vl tl σ H (.ref a)) (hx : SqL K Hb a xs) (hL : DpAll K Hb xs (ls.map lnkD)) (hb : Same Hb H) (Pv : Nat → L2.St → Hp → Prop) (h0 : Pv 0 σ H) (hl : ∀ i σ' H', Pv i σ' H' → Same Hb H')
    (hs : ∀ (i : Nat) l t σ H, ls[i]? = some l → SqT K Hb t (lnkV l) → Pv i σ H → tz { D with nx := Pv (i + 1), ct := Pv (i + 1), bk := tw D } (σ.set j (some (.ref t))) H) (hd : ∀ σ H, Pv ls.length σ H → tw D σ H) :
    tSeq (tFor (iList K tl) (gName j) tz) tw D σ H := g_forLk (D := { D with nx := tw D }) h hx hL hb Pv h0 hl hs hd
/-- a, b, c, d = e, a link -/
theorem q_asgLnk {j1 j2 j3 j4 : Nat} {te : TE} {t : Addr} {l : Lnk} (h : Vl te σ H (.ref t)) (ht : SqT K H t (lnkV l)) (k : tw D ((((σ.set j1 (some (.int l.a))).set j2 (some (.int l.b))).set j3 (some (oV l.t))).set j4 (some (oV l.k))) H) :
    tSeq (tAsg te (gTup K 4 (gCons (gName j1) (gCons (gName j2) (gCons (gName j3) (gCons (gName j4) gNil)))))) tw D σ H := h _ ⟨t, _, rfl, ht, rfl, _, _, rfl, _, _, rfl, _, _, rfl, _, _, rfl, rfl, k⟩
/-- a tuple made in one of two ways -/
theorem if_tup {t : TT} {r1 r2 : TA} {b : Bool} {x1 x2 zs : List V} {Q : VK} (h : An t σ H b) (h1 : Va r1 σ H x1) (h2 : Va r2 σ H x2) (e1 : b = true → x1 = zs) (e2 : b = false → x2 = zs) (hz : zs.length ≤ sizeLine)
    (k : ∀ T, H T = none → Q (.ref T) (upd H T (.tup zs))) : tIf t (tTup r1) (tTup r2) σ H Q := h _ (by
  cases b with
  | true =>
    cases e1 rfl
    exact iteT (h1 _ ⟨hz, k⟩)
  | false =>
    cases e2 rfl
    exact iteF (h2 _ ⟨hz, k⟩))
end
/-! ### is_price -/
abbrev sIsPrice : Stmt := topS 9
theorem scIsPrice : FnScope ["value"] ["value"] (defScope sIsPrice) := ⟨rfl, rfl, rfl, by decide +kernel, rfl, by decide +kernel, by decide +kernel⟩
def priceB : Option Int → Bool
  | none => true
  | some x => decide (1 ≤ x) && decide (x ≤ 1000000)
theorem priceB_ok {o : Option Int} (h : PriceOk o) : priceB o = true := by
  cases o with
  | none => rfl
  | some x =>
    have := h x rfl
    show (decide (1 ≤ x) && decide (x ≤ 1000000)) = true
    rw [decide_eq_true this.1, decide_eq_true this.2]
    rfl
theorem take_snoc {α : Type} {xs : List α} {i : Nat} {x : α} (h : xs[i]? = some x) : xs.take (i + 1) = xs.take i ++ [x] := by
  rw [List.take_add_one, h]
  rfl
theorem vl_orV {K : PySem.W.Frag} {σ : L2.St} {H : Hp} {ta tb : TE} {k m : Bool} (h1 : Vl ta σ H (.bl k)) (h2 : k = false → Vl tb σ H (.bl m)) : Vl (tOrV ta tb) σ H (.bl (k || m)) := fun Q q => h1 _ ⟨k, rfl, by
  cases k with
  | true => exact iteT q
  | false => exact iteF (h2 rfl _ q)⟩
def spIsPrice : Sp := fun vs H Q _ => ∃ o : Option Int, vs = [oV o] ∧ Q (.bl (priceB o)) H
section
variable {P : Program} {w : World} {K : PySem.W.Frag} {mg : Str → Option Value} {base : Heap}
theorem ok_isPrice {f : Addr} {fd : FuncData} {k : Nat} (F : Fun K "is_price" "is_price" sIsPrice f fd) {t : Tok} (mH : mg "HIGHEST_PRICE" = some (.int 1000000 t)) : FnOk P w K mg base CX0 (k + 1) f fd ["value"] spIsPrice := by
  refine F.ok scIsPrice (fun vs H Q E h => ?_) (fun cdv A outer s H vs Q E hr h => ?_)
  · obtain ⟨o, rfl, _⟩ := h
    rfl
  · obtain ⟨o, rfl, q⟩ := h
    refine ⟨_, pss_one (ps_ret (pe_or (pe_cmpR op_isN (pv 0) pe_non (nomark _)) (pe_one (pe_chain op_le op_le pe_int (pv 0) (pe_glob (v := .int 1000000) (by rfl) mH ⟨_, rfl⟩))))), ?_⟩
    cases o with
    | none => exact g_ret (vl_orV (K := K) (k := true) ((vl_isN (vl_var rfl)).is rfl) (fun e => nomatch e) (m := true)) q
    | some x => exact g_ret (vl_orV (K := K) (k := false) ((vl_isN (vl_var rfl)).is rfl) fun _ => vl_chainI vl_c (vl_var rfl) vl_c) q
end
/-! ### errors that leave a def -/
def RaiseTo (E : XK) (H : Hp) (C : Addr) (i : Int) : Prop := ∀ H' d, Same H H' → H' d = some (.xd [("at", .int i)]) → E (.ref C) (some d) H'
theorem RaiseTo.to {E : XK} {H H' : Hp} {C : Addr} {i : Int} (h : RaiseTo E H C i) (s : Same H H') : RaiseTo E H' C i := fun H2 d s2 hd => h H2 d (s.trans s2) hd
theorem raise_now {E : XK} {C : Addr} {i : Int} {ta : TA} {σ : L2.St} {H : Hp} {D : Ends} (h : Va ta σ H [.int i]) (r : RaiseTo E H C i) : tRaiseLow C (fun cls d _ H => E cls d H) ta D σ H := h _ ⟨_, rfl, fun d nd => r _ d (same_upd nd) upd_same⟩
/-- for i, x in enumerate(xs) -/
theorem for_en {K : PySem.W.Frag} {a : Addr} {xs : List V} {g : TG} {tb : TS} {D : Ends} {σ : L2.St} {H : Hp} (Pv : Nat → L2.St → Hp → Prop) (h0 : Pv 0 σ H) (hq : ∀ i σ H, Pv i σ H → SqL K H a xs)
    (hs : ∀ (i : Nat) x T σ H, xs[i]? = some x → Pv i σ H → H T = none → g (.ref T) σ (upd H T (.tup [.int (i : Nat), x])) fun σ2 H2 => tb { D with nx := Pv (i + 1), ct := Pv (i + 1), bk := D.nx } σ2 H2) (hd : ∀ σ H, Pv xs.length σ H → D.nx σ H) :
    ∃ W : Nat → Nat → L2.St → Hp → Prop, (∃ m, W 0 m σ H) ∧ ∀ i m σ H, W i m σ H → ((Ite K a).stop i H ∧ D.nx σ H) ∨
      ((Ite K a).go i H ∧ ∃ N : L2.St → Hp → Prop, (∀ σ' H', N σ' H' → ∃ m', m' < m ∧ W (i + 1) m' σ' H') ∧ ∀ v H', (Ite K a).yld i H v H' → g v σ H' fun σ2 H2 => tb { D with nx := N, ct := N, bk := D.nx } σ2 H2) := by
  refine ⟨fun i m σ H => m + i = xs.length ∧ Pv i σ H, ⟨xs.length, rfl, h0⟩, fun i m σ H hW => ?_⟩
  obtain ⟨em, p⟩ := hW
  have qx := hq i σ H p
  by_cases hlt : i < xs.length
  · refine .inr ⟨⟨xs, xs[i], qx, List.getElem?_eq_getElem hlt⟩, Pv (i + 1), fun σ' H' p' => ⟨m - 1, by omega, by omega, p'⟩, fun v H' yy => ?_⟩
    obtain ⟨T, x', rfl, hT, rfl, f1⟩ := yy
    exact hs i x' T σ H (f1 xs qx) p hT
  · have e : i = xs.length := by omega
    rw [e] at p
    exact .inl ⟨⟨xs, qx, by omega⟩, hd σ H p⟩
/-! ### signs, digits, numbers -/
abbrev cs (w : Str) : List Nat := w.cps.toList
def Ascii (w : Str) : Prop := ∀ c ∈ cs w, c < 128
def digB (c : Nat) : Bool := decide (48 ≤ c) && decide (c ≤ 57)
def numL (l : List Nat) : Bool := (!l.isEmpty && l.all digB) && (decide (l = [48]) || !decide (l.head? = some 48))
def numB (w : Str) : Bool := numL (cs w)
theorem dig_ascii : ∀ c, c < 128 → Unicode.isDigit c = digB c := by decide +kernel
theorem isdigit_ascii {w : Str} (h : Ascii w) : Txt.isdigit w = (!(cs w).isEmpty && (cs w).all digB) := by
  show (decide (w.length > 0) && w.cps.all Unicode.isDigit) = _
  have e1 : decide (w.length > 0) = !(cs w).isEmpty := by
    show decide (w.cps.size > 0) = !(w.cps.toList).isEmpty
    rw [← Array.length_toList]
    cases w.cps.toList with
    | nil => rfl
    | cons x r => exact decide_eq_true (Nat.succ_pos _)
  rw [e1, ← Array.all_toList]
  congr 1
  rw [Bool.eq_iff_iff, List.all_eq_true, List.all_eq_true]
  exact ⟨fun h2 c hc => by
    rw [← dig_ascii c (h c hc)]
    exact h2 c hc, fun h2 c hc => by
    rw [dig_ascii c (h c hc)]
    exact h2 c hc⟩
theorem starts_one {w : Str} {c : Nat} : Txt.startswith w ⟨#[c]⟩ = decide ((cs w).head? = some c) := by
  show (decide (0 + 1 ≤ w.cps.size) && (w.cps.extract 0 (0 + 1) == #[c])) = decide (w.cps.toList.head? = some c)
  obtain ⟨⟨l⟩⟩ := w
  cases l with
  | nil => rfl
  | cons x r =>
    rw [Bool.eq_iff_iff]
    simp
theorem numL_len {l : List Nat} (h : numL l = true) : l ≠ [] ∧ NumText.AllDigits l ∧ (l = [48] ∨ l.head? ≠ some 48) := by
  unfold numL at h
  rw [Bool.and_eq_true, Bool.and_eq_true, Bool.or_eq_true, Bool.not_eq_true', Bool.not_eq_true', List.isEmpty_eq_false_iff, List.all_eq_true, decide_eq_true_eq, decide_eq_false_iff_not] at h
  refine ⟨h.1.1, fun c hc => ?_, h.2⟩
  have := h.1.2 c hc
  unfold digB at this
  rw [Bool.and_eq_true] at this
  exact ⟨of_decide_eq_true this.1, of_decide_eq_true this.2⟩
theorem str_eq {a b : Str} : decide (V.str a = V.str b) = decide (cs a = cs b) := by
  rw [Bool.eq_iff_iff]
  simp only [decide_eq_true_eq]
  constructor
  · intro h
    cases V.str.inj h
    rfl
  · intro h
    obtain ⟨⟨a⟩⟩ := a
    obtain ⟨⟨b⟩⟩ := b
    have h : a = b := h
    rw [h]
/-- the number of a text, all of it | of its first eight signs -/
def val (w : Str) : Nat := NumText.digitsVal (cs w)
def val8 (w : Str) : Nat := NumText.digitsVal ((cs w).take 8)
theorem dv_ge : ∀ (l : List Nat) (acc : Nat), acc * 10 ^ l.length ≤ l.foldl (fun acc c => acc * 10 + (c - 48)) acc
  | [], acc => by
    show acc * 10 ^ 0 ≤ acc
    rw [Nat.pow_zero, Nat.mul_one]
    exact Nat.le_refl _
  | c :: l, acc => by
    have h := dv_ge l (acc * 10 + (c - 48))
    refine Nat.le_trans ?_ h
    rw [List.length_cons, Nat.pow_succ, Nat.mul_comm (10 ^ l.length) 10, ← Nat.mul_assoc]
    exact Nat.mul_le_mul_right _ (Nat.le_add_right _ _)
theorem val_big {w : Str} (h : numB w = true) (h9 : 8 < (cs w).length) : 10000000 ≤ val8 w ∧ 10000000 ≤ val w := by
  obtain ⟨h1, h2, h3⟩ := numL_len h
  unfold val val8
  cases e : cs w with
  | nil =>
    rw [e] at h9
    exact absurd h9 (by decide)
  | cons c r =>
    rw [e] at h1 h2 h3 h9
    have hc := h2.head
    have hc2 : 49 ≤ c := by
      rcases h3 with h3 | h3
      · rw [h3] at h9
        exact absurd h9 (by decide)
      · have : c ≠ 48 := fun z => h3 (by rw [z]; rfl)
        omega
    have k1 : ∀ l : List Nat, 7 ≤ l.length → 10000000 ≤ NumText.digitsVal (c :: l) := fun l hl => by
      have h := dv_ge l (0 * 10 + (c - 48))
      have e7 : 10 ^ 7 ≤ 10 ^ l.length := Nat.pow_le_pow_right (by decide) hl
      have : 1 * 10 ^ 7 ≤ (0 * 10 + (c - 48)) * 10 ^ l.length := Nat.mul_le_mul (by omega) e7
      exact Nat.le_trans (by omega) (Nat.le_trans this h)
    have hl : 8 ≤ r.length := by
      rw [List.length_cons] at h9
      omega
    constructor
    · exact k1 (r.take 7) (by rw [List.length_take]; omega)
    · exact k1 r (by omega)
theorem val_same {w : Str} (h : (cs w).length ≤ 8) : val8 w = val w := by
  unfold val val8
  rw [List.take_of_length_le h]
theorem val_cmp {w : Str} (h : numB w = true) {n : Int} (hn : n ≤ 9000000) : (n ≤ (val8 w : Int) ↔ n ≤ (val w : Int)) ∧ ((val8 w : Int) ≤ n → val8 w = val w) ∧ ((val w : Int) ≤ n → val8 w = val w) := by
  by_cases h9 : 8 < (cs w).length
  · have := val_big h h9
    refine ⟨⟨fun _ => by omega, fun _ => by omega⟩, fun _ => by omega, fun _ => by omega⟩
  · have := val_same (w := w) (by omega)
    rw [this]
    exact ⟨Iff.rfl, fun _ => rfl, fun _ => rfl⟩
theorem int8 {w : Str} (h : numB w = true) : PySem.intText? (cutS w none (some 8)) = some (val8 w : Int) ∧ (cutS w none (some 8)).length ≤ 640 := by
  obtain ⟨h1, h2, h3⟩ := numL_len h
  have e : (cutS w none (some 8)).cps.toList = (cs w).take 8 := by
    show ((w.cps.toList.drop (HT.sIx w.length 0 none)).take (HT.sIx w.length w.length (some 8) - HT.sIx w.length 0 none)).toArray.toList = _
    rw [show HT.sIx w.length w.length (some 8) = min 8 w.length from HT.sIx_nat _ _ 8, HT.sIx_none, Nat.sub_zero, List.drop_zero]
    show w.cps.toList.take (min 8 w.cps.size) = _
    rw [← Array.length_toList, Nat.min_comm]
    by_cases h8 : w.cps.toList.length ≤ 8
    · rw [Nat.min_eq_left h8, List.take_of_length_le h8, List.take_of_length_le (Nat.le_refl _)]
    · rw [Nat.min_eq_right (by omega)]
  have el : (cutS w none (some 8)).length ≤ 8 := by
    show (cutS w none (some 8)).cps.size ≤ 8
    rw [← Array.length_toList, e, List.length_take]
    omega
  refine ⟨?_, by omega⟩
  have := intText_digits (x := cutS w none (some 8)) (by
    rw [e]
    exact fun c hc => h2 c (List.mem_of_mem_take hc)) (by
    rw [e]
    intro z
    cases hw : cs w with
    | nil => exact h1 hw
    | cons c r =>
      rw [hw] at z
      cases z) (by omega)
  rw [this, e]
  rfl
/-! ### the signs of a split text's parts -/
theorem spl_mem {S : List Nat} : ∀ (n : Nat) (k : Nat) (acc l : List Nat), l.length ≤ n → ∀ p ∈ TL.spl S k acc l, ∀ c ∈ p, c ∈ acc ∨ c ∈ l
  | 0, k, acc, l, hn, p, hp, c, hc => by
    have e : l = [] := List.eq_nil_of_length_eq_zero (Nat.le_zero.mp hn)
    subst e
    rw [TL.spl_nil] at hp
    rw [List.mem_singleton.mp hp] at hc
    exact .inl hc
  | n + 1, k, acc, [], hn, p, hp, c, hc => by
    rw [TL.spl_nil] at hp
    rw [List.mem_singleton.mp hp] at hc
    exact .inl hc
  | n + 1, k + 1, acc, x :: l, hn, p, hp, c, hc => by
    rw [TL.spl_pass] at hp
    have hd : (x :: l).drop (k + 1) = l.drop k := rfl
    rw [hd] at hp
    rcases spl_mem n 0 acc (l.drop k) (by
      rw [List.length_drop]
      have : l.length + 1 ≤ n + 1 := hn
      omega) p hp c hc with h | h
    · exact .inl h
    · exact .inr (List.mem_cons_of_mem _ (List.mem_of_mem_drop h))
  | n + 1, 0, acc, x :: l, hn, p, hp, c, hc => by
    have hl : l.length ≤ n := by
      have : l.length + 1 ≤ n + 1 := hn
      omega
    cases e : TL.pre S (x :: l) with
    | true =>
      rw [TL.spl_hit e] at hp
      rcases List.mem_cons.mp hp with h | h
      · rw [h] at hc
        exact .inl hc
      · rcases spl_mem n _ [] l hl p h c hc with h | h
        · cases h
        · exact .inr (List.mem_cons_of_mem _ h)
    | false =>
      rw [TL.spl_miss e] at hp
      rcases spl_mem n 0 (acc ++ [x]) l hl p hp c hc with h | h
      · rcases List.mem_append.mp h with h | h
        · exact .inl h
        · rw [List.mem_singleton.mp h]
          exact .inr List.mem_cons_self
      · exact .inr (List.mem_cons_of_mem _ h)
def words (w : Str) : List Str := Txt.split w " "
def rows (w : Str) : List Str := Txt.split w "\n"
theorem split_ascii {w y : Str} {c : Nat} (ey : TL.tl y = [c]) (hk : y.cps.all (· < 256) = true) (h : Ascii w) : ∀ p ∈ Txt.split w y, Ascii p := by
  intro p hp d hd
  have e := TL.split_spl w y (by rw [ey]; simp) (TL.kind_ok hk)
  have hp2 : TL.tl p ∈ (Txt.split w y).map TL.tl := List.mem_map.mpr ⟨p, hp, rfl⟩
  rw [e] at hp2
  rcases spl_mem (TL.tl w).length 0 [] (TL.tl w) (Nat.le_refl _) (TL.tl p) hp2 d hd with h2 | h2
  · cases h2
  · exact h d h2
theorem words_ascii {w : Str} (h : Ascii w) : ∀ p ∈ words w, Ascii p := split_ascii (c := 32) (by decide +kernel) (by decide +kernel) h
theorem rows_ascii {w : Str} (h : Ascii w) : ∀ p ∈ rows w, Ascii p := split_ascii (c := 10) (by decide +kernel) (by decide +kernel) h
theorem split_len {w y : Str} {c : Nat} (ey : TL.tl y = [c]) (hk : y.cps.all (· < 256) = true) : (Txt.split w y) ≠ [] := by
  intro z
  have e := TL.split_spl w y (by rw [ey]; simp) (TL.kind_ok hk)
  rw [z] at e
  have : ∀ (n k : Nat) (acc l : List Nat), l.length ≤ n → TL.spl (TL.tl y) k acc l ≠ [] := by
    intro n
    induction n with
    | zero =>
      intro k acc l hn
      have e : l = [] := List.eq_nil_of_length_eq_zero (Nat.le_zero.mp hn)
      subst e
      rw [TL.spl_nil]
      exact List.cons_ne_nil _ _
    | succ n ih =>
      intro k acc l hn
      cases l with
      | nil =>
        rw [TL.spl_nil]
        exact List.cons_ne_nil _ _
      | cons x l =>
        have hl : l.length ≤ n := by
          have : l.length + 1 ≤ n + 1 := hn
          omega
        cases k with
        | succ k =>
          rw [TL.spl_pass]
          exact ih 0 acc (l.drop k) (by
            rw [List.length_drop]
            omega)
        | zero =>
          cases e : TL.pre (TL.tl y) (x :: l) with
          | true =>
            rw [TL.spl_hit e]
            exact List.cons_ne_nil _ _
          | false =>
            rw [TL.spl_miss e]
            exact ih _ _ l hl
  exact this _ 0 [] (TL.tl w) (Nat.le_refl _) e.symm
/-! ### what a text is read as -/
inductive Kd where
  | line
  | place
  | price
  | order
inductive PR where
  | bad (k : Kd)
  | ok (n : Int)
inductive LR where
  | bad (k : Kd)
  | ok (l : Lnk)
def pB (w : Str) : Bool := decide (cs w = [45]) || numB w
def priceW (w : Str) : Option Int := if cs w = [45] then none else some (val w : Int)
def priceW8 (w : Str) : Option Int := if cs w = [45] then none else some (val8 w : Int)
def linkLineB : List Str → Bool
  | [w0, w1, w2, w3] => numB w0 && (numB w1 && (pB w2 && pB w3))
  | _ => false
def placesR : List Str → PR
  | [w0, w1] => if decide (cs w0 = cs "places") && numB w1 then (if 1 ≤ (val w1 : Int) ∧ (val w1 : Int) ≤ 40 then .ok (val w1) else .bad .place) else .bad .line
  | _ => .bad .line
def linkR (n p q : Int) : List Str → LR
  | [w0, w1, w2, w3] => if linkLineB [w0, w1, w2, w3] then (if n ≤ (val w0 : Int) ∨ n ≤ (val w1 : Int) then .bad .place else if (!priceB (priceW w2) || !priceB (priceW w3)) = true then .bad .price
      else if (val w1 : Int) ≤ val w0 ∨ ((val w0 : Int) < p ∨ ((val w0 : Int) = p ∧ (val w1 : Int) ≤ q)) then .bad .order else .ok ⟨val w0, val w1, priceW w2, priceW w3⟩) else .bad .line
  | _ => .bad .line
def rdL (n : Int) : Int → Int → Nat → List Str → List Lnk → Sum (Kd × Nat) (List Lnk)
  | _, _, _, [], acc => .inr acc
  | p, q, k, l :: ls, acc => match linkR n p q (words l) with
    | .bad kd => .inl (kd, k)
    | .ok x => rdL n x.a x.b (k + 1) ls (acc ++ [x])
def readR (L : List Str) (last : Str) : Sum (Kd × Nat) Net :=
  match L with
  | [] => .inl (.line, 0)
  | l0 :: r => match placesR (words l0) with
    | .bad k => .inl (k, 0)
    | .ok n => match rdL n 0 0 1 r [] with
      | .inl f => .inl f
      | .inr ls => if cs last = [] then .inr ⟨n, ls⟩ else .inl (.line, L.length)
def textR (w : Str) : Sum (Kd × Nat) Net := readR (rows w).dropLast ((rows w).getLast?.getD "")
theorem price8 {w : Str} (h : pB w = true) : priceB (priceW8 w) = priceB (priceW w) ∧ (priceB (priceW w) = true → priceW8 w = priceW w) := by
  unfold priceW8 priceW
  unfold pB at h
  by_cases e : cs w = [45]
  · rw [if_pos e, if_pos e]
    exact ⟨rfl, fun _ => rfl⟩
  · rw [if_neg e, if_neg e]
    rw [decide_eq_false e, Bool.false_or] at h
    have h1 := (val_cmp h (n := 1000001) (by decide)).1
    by_cases h9 : 8 < (cs w).length
    · have := val_big h h9
      have k : ∀ x : Nat, 10000000 ≤ x → priceB (some (x : Int)) = false := fun x hx => by
        show (decide (1 ≤ (x : Int)) && decide ((x : Int) ≤ 1000000)) = false
        rw [decide_eq_false (show ¬ (x : Int) ≤ 1000000 by omega), Bool.and_false]
      rw [k _ this.1, k _ this.2]
      exact ⟨rfl, fun z => nomatch z⟩
    · rw [val_same (by omega)]
      exact ⟨rfl, fun _ => rfl⟩
abbrev sIsNum : Stmt := topS 17
abbrev sNum : Stmt := topS 18
abbrev sRPrice : Stmt := topS 19
abbrev sIsLL : Stmt := topS 16
theorem scIsNum : FnScope ["part"] ["part"] (defScope sIsNum) := ⟨rfl, rfl, rfl, by decide +kernel, rfl, by decide +kernel, by decide +kernel⟩
theorem scNum : FnScope ["digits"] ["digits"] (defScope sNum) := ⟨rfl, rfl, rfl, by decide +kernel, rfl, by decide +kernel, by decide +kernel⟩
theorem scRPrice : FnScope ["part"] ["part"] (defScope sRPrice) := ⟨rfl, rfl, rfl, by decide +kernel, rfl, by decide +kernel, by decide +kernel⟩
theorem scIsLL : FnScope ["parts", "part"] ["parts"] (defScope sIsLL) := ⟨rfl, rfl, rfl, by decide +kernel, rfl, by decide +kernel, by decide +kernel⟩
def spIsNum : Sp := fun vs H Q _ => ∃ w : Str, vs = [.str w] ∧ Ascii w ∧ Q (.bl (numB w)) H
def spNum : Sp := fun vs H Q _ => ∃ w : Str, vs = [.str w] ∧ numB w = true ∧ w.length ≤ 1000000 ∧ Q (.int (val8 w)) H
def spRPrice : Sp := fun vs H Q _ => ∃ w : Str, vs = [.str w] ∧ pB w = true ∧ w.length ≤ 1000000 ∧ Q (oV (priceW8 w)) H
def spIsLL (K : PySem.W.Frag) : Sp := fun vs H Q _ => ∃ (a : Addr) (ws : List Str), vs = [.ref a] ∧ SqL K H a (ws.map V.str) ∧ (∀ w ∈ ws, Ascii w) ∧ ∀ H', Same H H' → Q (.bl (linkLineB ws)) H'
theorem forStrs {K : PySem.W.Frag} {a : Addr} {us : List Str} {j : Nat} {tb : TS} {D : Ends} {σ : L2.St} {H : Hp} (hx : SqL K H a (us.map V.str)) (Pv : Nat → L2.St → Hp → Prop) (h0 : Pv 0 σ H) (hl : ∀ i σ' H', Pv i σ' H' → SqL K H' a (us.map V.str))
    (hs : ∀ (i : Nat) u σ H, us[i]? = some u → Pv i σ H → tb { D with nx := Pv (i + 1), ct := Pv (i + 1), bk := D.nx } (σ.set j (some (.str u))) H) (hd : ∀ σ H, Pv us.length σ H → D.nx σ H) :
    ∃ a', V.ref a = V.ref a' ∧ (∃ xs, SqL K H a' xs) ∧ (∃ W : Nat → Nat → L2.St → Hp → Prop, (∃ m, W 0 m σ H) ∧ ∀ i m σ H, W i m σ H → ((Itl K a').stop i H ∧ D.nx σ H) ∨
      ((Itl K a').go i H ∧ ∃ N : L2.St → Hp → Prop, (∀ σ' H', N σ' H' → ∃ m', m' < m ∧ W (i + 1) m' σ' H') ∧ ∀ x H', (Itl K a').yld i H x H' → gName j x σ H' fun σ2 H2 => tb { D with nx := N, ct := N, bk := D.nx } σ2 H2)) :=
  ⟨a, rfl, ⟨_, hx⟩, for_list (xs := us.map V.str) Pv h0 (fun i σ H _ p => hl i σ H p) (fun i x σ H hi p => by
    rw [List.getElem?_map] at hi
    cases e : us[i]? with
    | none =>
      rw [e] at hi
      cases hi
    | some u =>
      rw [e] at hi
      cases hi
      exact hs i u σ H e p) (fun σ H p => by
    rw [List.length_map] at p
    exact hd σ H p)⟩
theorem sz5 {n : Nat} (h : n ≤ 1000000) : n ≤ sizeLine := Nat.le_trans h (by decide)
section
variable {K : PySem.W.Frag} {σ : L2.St} {H : Hp} {ta tb te : TE} {b : Bool} {x y : V}
theorem vl_andV {k m : Bool} (h1 : Vl ta σ H (.bl k)) (h2 : k = true → Vl tb σ H (.bl m)) : Vl (tAndV ta tb) σ H (.bl (k && m)) := fun Q q => h1 _ ⟨k, rfl, by
  cases k with
  | true => exact iteT (h2 rfl _ q)
  | false => exact iteF q⟩
theorem vl_notV {k : Bool} (h : Vl ta σ H (.bl k)) : Vl (tNotV ta) σ H (.bl (!k)) := fun Q q => h _ ⟨k, rfl, q⟩
end
section
variable {P : Program} {w : World} {K : PySem.W.Frag} {mg : Str → Option Value} {base : Heap}
theorem ok_isNum {f : Addr} {fd : FuncData} {k : Nat} (F : Fun K "_is_number" "_is_number" sIsNum f fd) : FnOk P w K mg base CX0 (k + 1) f fd ["part"] spIsNum := by
  refine F.ok scIsNum (fun vs H Q E h => ?_) (fun cdv A outer s H vs Q E hr h => ?_)
  · obtain ⟨w, rfl, _⟩ := h
    rfl
  · obtain ⟨w, rfl, hw, q⟩ := h
    refine ⟨_, pss_one (ps_ret (pe_and (pe_m0 PySem.F.slot_str_isdigit PySem.F.type_str_isdigit mt_isdigit (pv 0)) (pe_one (pe_or (pe_cmpR op_eq (pv 0) pe_str (nomark _)) (pe_one (pe_not (pe_m1 PySem.F.slot_str_startswith PySem.F.type_str_startswith mt_startswith (pv 0) pe_str))))))), ?_⟩
    refine g_ret (v := .bl (Txt.isdigit w && (decide (V.str w = V.str "0") || !Txt.startswith w "0"))) (vl_andV (fun Q q => ⟨.str w, rfl, ⟨_, rfl⟩, w, rfl, rfl, trivial, q⟩) fun _ => vl_orV (K := K) (vl_eq (vl_var rfl) vl_c rfl) fun _ => vl_notV fun Q q => ⟨.str w, rfl, ⟨_, rfl⟩, w, "0", rfl, rfl, q⟩) ?_
    have e : (Txt.isdigit w && (decide (V.str w = V.str "0") || !Txt.startswith w "0")) = numB w := by
      rw [isdigit_ascii hw, str_eq, show ("0" : Str) = ⟨#[48]⟩ by decide +kernel, starts_one]
      rfl
    rw [e]
    exact q
theorem ok_num {f : Addr} {fd : FuncData} {k : Nat} (F : Fun K "_number" "_number" sNum f fd) (mi : mg "int" = none) : FnOk P w K mg base CX0 (k + 1) f fd ["digits"] spNum := by
  refine F.ok scNum (fun vs H Q E h => ?_) (fun cdv A outer s H vs Q E hr h => ?_)
  · obtain ⟨w, rfl, _⟩ := h
    rfl
  · obtain ⟨w, rfl, hw, hl, q⟩ := h
    refine ⟨_, pss_one (ps_ret (pe_callTy call_int_str (by rfl) mi (by decide +kernel) (pa_cons (pe_slice sl_str (pv 0) po_none (po_some pe_int)) pa_nil))), ?_⟩
    have h8 := int8 hw
    exact ⟨.str w, rfl, 8, rfl, w, rfl, sz5 hl, _, _, rfl, h8.1, h8.2, q⟩
theorem ok_rprice {f : Addr} {fd : FuncData} (F : Fun K "_read_price" "_read_price" sRPrice f fd) (c_number : Kal P w K mg base 1 "_number" ["digits"] spNum) : FnOk P w K mg base CX0 2 f fd ["part"] spRPrice := by
  refine F.ok scRPrice (fun vs H Q E h => ?_) (fun cdv A outer s H vs Q E hr h => ?_)
  · obtain ⟨w, rfl, _⟩ := h
    rfl
  · obtain ⟨w, rfl, hw, hl, q⟩ := h
    refine ⟨_, pss_one (ps_ret (pe_ifExp (pt_cmpR op_eq (pv 0) pe_str (nomark _)) pe_non (pe_k c_number hr (by decide) (by rfl) (pa_cons (pv 0) pa_nil)))), ?_⟩
    refine g_ret (v := oV (priceW8 w)) (vl_if (b := decide (V.str w = V.str "-")) (an_test (vl_eq (vl_var rfl) vl_c rfl)) (fun h => ?_) (fun h => ?_)) q
    · rw [str_eq] at h
      rw [show priceW8 w = none from if_pos (of_decide_eq_true h)]
      exact vl_c
    · rw [str_eq] at h
      have h2 := of_decide_eq_false h
      rw [show priceW8 w = some (val8 w : Int) from if_neg h2]
      refine fun Q q => ⟨.str w, rfl, w, rfl, ?_, hl, q⟩
      unfold pB at hw
      rw [show decide (cs w = [45]) = false from h, Bool.false_or] at hw
      exact hw
theorem ok_isLL {f : Addr} {fd : FuncData} (F : Fun K "_is_link_line" "_is_link_line" sIsLL f fd) (c_is_number : Kal P w K mg base 1 "_is_number" ["part"] spIsNum) (ml : mg "len" = none) : FnOk P w K mg base CX0 2 f fd ["parts"] (spIsLL K) := by
  refine F.ok scIsLL (fun vs H Q E h => ?_) (fun cdv A outer s H vs Q E hr h => ?_)
  · obtain ⟨a, ws, rfl, _⟩ := h
    rfl
  · obtain ⟨a, ws, rfl, hS, hw, q⟩ := h
    refine ⟨_, pss_cons (ps_if (pt_cmpR op_ne (pe_callB call_len_seq (by rfl) ml PySem.boot_len (pa_cons (pv 0) pa_nil)) pe_int (nomark _))
      (pss_one (ps_ret pe_bl))
      pss_nil)
      (pss_cons (ps_for PassesOwn.never rfl (pi_list (pe_slice sl_list (pv 0) po_none (po_some pe_int))) (pg_name (i := 1) scIsLL.nd rfl (.inl rfl))
      (pss_one (ps_if (pt_not (pt_val (pe_k c_is_number hr (by decide) (by rfl) (pa_cons (pv 1) pa_nil))))
        (pss_one (ps_ret pe_bl))
        pss_nil)))
      (pss_cons (ps_for PassesOwn.never rfl (pi_list (pe_slice sl_list (pv 0) (po_some pe_int) po_none)) (pg_name (i := 1) scIsLL.nd rfl (.inl rfl))
      (pss_one (ps_if (PW.pt (pw_and (pt_cmpR op_ne (pv 1) pe_str (nomark _)) (pw_and1 (pt_not (pt_val (pe_k c_is_number hr (by decide) (by rfl) (pa_cons (pv 1) pa_nil)))))))
        (pss_one (ps_ret pe_bl))
        pss_nil)))
      (pss_one (ps_ret pe_bl)))), ?_⟩
    refine q_when (b := !decide (V.int (ws.length : Int) = V.int 4)) (by exact an_test (vl_ne ((vl_lenL (vl_var rfl) hS).is (by rw [List.length_map])) vl_c rfl)) (fun hb => ?_) (fun hb => ?_)
    · have hn : ws.length ≠ 4 := fun z => by
        rw [z] at hb
        rw [Bool.not_eq_true'] at hb
        exact of_decide_eq_false hb rfl
      have e : linkLineB ws = false := by
        match ws, hn with
        | [], _ => rfl
        | [_], _ => rfl
        | [_, _], _ => rfl
        | [_, _, _], _ => rfl
        | [_, _, _, _], hn => exact absurd rfl hn
        | _ :: _ :: _ :: _ :: _ :: _, _ => rfl
      have := q H (Same.refl H)
      rw [e] at this
      exact g_ret vl_c this
    · rw [Bool.not_eq_false'] at hb
      have hn : ws.length = 4 := by
        have := V.int.inj (of_decide_eq_true hb)
        omega
      obtain ⟨w0, w1, w2, w3, rfl⟩ : ∃ w0 w1 w2 w3, ws = [w0, w1, w2, w3] := by
        match ws, hn with
        | [w0, w1, w2, w3], _ => exact ⟨w0, w1, w2, w3, rfl⟩
      have h0 := hw w0 (by simp)
      have h1 := hw w1 (by simp)
      have h2 := hw w2 (by simp)
      have h3 := hw w3 (by simp)
      -- for part in parts[:2]
      refine (vn_slice (K := K) (lo := none) (hi := some 2) (xs := [w0, w1, w2, w3].map V.str) (vl_var rfl) (fun _ q => q) (fun _ q => ⟨2, rfl, q⟩) hS) _ fun p1 H1 s1 n1 e1 => ?_
      rw [show cutV ([w0, w1, w2, w3].map V.str) none (some 2) = [w0, w1].map V.str from cut_to (n := 2) (by show 2 ≤ 4; decide)] at e1
      refine forStrs (us := [w0, w1]) (.of e1) (fun i σ H' => ∃ y, σ = [some (.ref a), y] ∧ H' = H1 ∧ ∀ u ∈ [w0, w1].take i, numB u = true) ⟨none, rfl, rfl, fun u hu => (nomatch hu)⟩ (fun i σ H' hP => ?_) (fun i u σ H' hi hP => ?_) (fun σ H' hP => ?_)
      · obtain ⟨_, _, rfl, _⟩ := hP
        exact .of e1
      · obtain ⟨y, rfl, rfl, g⟩ := hP
        have hu : Ascii u := by
          have := List.mem_of_getElem? hi
          simp only [List.mem_cons, List.not_mem_nil, or_false] at this
          rcases this with e | e <;> subst e <;> assumption
        refine g_when (b := !numB u) ?_ (fun hb => ?_) (fun hb => ?_)
        · exact an_not (an_B fun Q k => ⟨.str u, rfl, u, rfl, hu, k⟩)
        · rw [Bool.not_eq_true'] at hb
          have e : linkLineB [w0, w1, w2, w3] = false := by
            have := List.mem_of_getElem? hi
            simp only [List.mem_cons, List.not_mem_nil, or_false] at this
            show (numB w0 && (numB w1 && (pB w2 && pB w3))) = false
            rcases this with e | e
            · rw [← e, hb, Bool.false_and]
            · rw [← e, hb, Bool.false_and, Bool.and_false]
          have := q H' s1
          rw [e] at this
          exact g_ret vl_c this
        · rw [Bool.not_eq_false'] at hb
          refine ⟨_, rfl, rfl, fun v hv => ?_⟩
          rw [take_snoc hi] at hv
          rcases List.mem_append.mp hv with h | h
          · exact g v h
          · rw [List.mem_singleton.mp h]
            exact hb
      · obtain ⟨y, rfl, rfl, g⟩ := hP
        have g0 : numB w0 = true := g w0 (by simp)
        have g1 : numB w1 = true := g w1 (by simp)
        -- for part in parts[2:]
        refine (vn_slice (K := K) (lo := some 2) (hi := none) (xs := [w0, w1, w2, w3].map V.str) (vl_var rfl) (fun _ q => ⟨2, rfl, q⟩) (fun _ q => q) (s1.seq hS)) _ fun p2 H2 s2 n2 e2 => ?_
        rw [show cutV ([w0, w1, w2, w3].map V.str) (some 2) none = [w2, w3].map V.str from cut_from (n := 2) (by show 2 ≤ 4; decide)] at e2
        refine forStrs (us := [w2, w3]) (.of e2) (fun i σ H' => ∃ y, σ = [some (.ref a), y] ∧ H' = H2 ∧ ∀ u ∈ [w2, w3].take i, pB u = true) ⟨_, rfl, rfl, fun u hu => (nomatch hu)⟩ (fun i σ H' hP => ?_) (fun i u σ H' hi hP => ?_) (fun σ H' hP => ?_)
        · obtain ⟨_, _, rfl, _⟩ := hP
          exact .of e2
        · obtain ⟨y, rfl, rfl, g⟩ := hP
          have hu : Ascii u := by
            have := List.mem_of_getElem? hi
            simp only [List.mem_cons, List.not_mem_nil, or_false] at this
            rcases this with e | e <;> subst e <;> assumption
          refine g_when (b := !pB u) ?_ (fun hb => ?_) (fun hb => ?_)
          · have e : (!decide (V.str u = V.str "-") && !numB u) = !pB u := by
              unfold pB
              rw [str_eq, Bool.not_or]
              rfl
            exact (an_and (an_test (vl_ne (vl_var rfl) vl_c rfl)) fun _ => an_not (an_B fun Q k => ⟨.str u, rfl, u, rfl, hu, k⟩)).is e
          · rw [Bool.not_eq_true'] at hb
            have e : linkLineB [w0, w1, w2, w3] = false := by
              have := List.mem_of_getElem? hi
              simp only [List.mem_cons, List.not_mem_nil, or_false] at this
              show (numB w0 && (numB w1 && (pB w2 && pB w3))) = false
              rcases this with e | e
              · rw [← e, hb, Bool.false_and, Bool.and_false, Bool.and_false]
              · rw [← e, hb, Bool.and_false, Bool.and_false, Bool.and_false]
            have := q H' (s1.trans s2)
            rw [e] at this
            exact g_ret vl_c this
          · rw [Bool.not_eq_false'] at hb
            refine ⟨_, rfl, rfl, fun v hv => ?_⟩
            rw [take_snoc hi] at hv
            rcases List.mem_append.mp hv with h | h
            · exact g v h
            · rw [List.mem_singleton.mp h]
              exact hb
        · obtain ⟨y, rfl, rfl, g⟩ := hP
          have e : linkLineB [w0, w1, w2, w3] = true := by
            show (numB w0 && (numB w1 && (pB w2 && pB w3))) = true
            rw [g0, g1, g w2 (by simp), g w3 (by simp)]
            rfl
          have := q H' (s1.trans s2)
          rw [e] at this
          exact this
end
/-! ### lengths of a split text's parts -/
theorem spl_le {S : List Nat} : ∀ (n : Nat) (k : Nat) (acc l : List Nat), l.length ≤ n → (∀ p ∈ TL.spl S k acc l, p.length ≤ acc.length + l.length) ∧ (TL.spl S k acc l).length ≤ l.length + 1
  | n, k, acc, [], _ => by
    rw [TL.spl_nil]
    exact ⟨fun p hp => by
      rw [List.mem_singleton.mp hp]
      exact Nat.le_add_right _ _, Nat.le_refl _⟩
  | 0, k, acc, x :: l, hn => absurd hn (Nat.not_succ_le_zero _)
  | n + 1, k + 1, acc, x :: l, hn => by
    have hl : l.length ≤ n := Nat.le_of_succ_le_succ hn
    have e : TL.spl S (k + 1) acc (x :: l) = TL.spl S k acc l := rfl
    rw [e]
    have ih := spl_le (S := S) n k acc l hl
    refine ⟨fun p hp => ?_, ?_⟩
    · have := ih.1 p hp
      rw [List.length_cons]
      omega
    · rw [List.length_cons]
      have := ih.2
      omega
  | n + 1, 0, acc, x :: l, hn => by
    have hl : l.length ≤ n := Nat.le_of_succ_le_succ hn
    cases e : TL.pre S (x :: l) with
    | true =>
      rw [TL.spl_hit e]
      have ih := spl_le (S := S) n (S.length - 1) [] l hl
      refine ⟨fun p hp => ?_, ?_⟩
      · rcases List.mem_cons.mp hp with h | h
        · rw [h]
          exact Nat.le_add_right _ _
        · have := ih.1 p h
          rw [List.length_cons]
          have e0 : ([] : List Nat).length = 0 := rfl
          omega
      · rw [List.length_cons, List.length_cons]
        have := ih.2
        omega
    | false =>
      rw [TL.spl_miss e]
      have ih := spl_le (S := S) n 0 (acc ++ [x]) l hl
      refine ⟨fun p hp => ?_, ?_⟩
      · have := ih.1 p hp
        rw [List.length_append] at this
        rw [List.length_cons]
        have e1 : [x].length = 1 := rfl
        omega
      · rw [List.length_cons]
        have := ih.2
        omega
theorem split_le {w y : Str} {c : Nat} (ey : TL.tl y = [c]) (hk : y.cps.all (· < 256) = true) : (∀ p ∈ Txt.split w y, p.length ≤ w.length) ∧ (Txt.split w y).length ≤ w.length + 1 := by
  have e := TL.split_spl w y (by rw [ey]; simp) (TL.kind_ok hk)
  have h := spl_le (S := TL.tl y) (TL.tl w).length 0 [] (TL.tl w) (Nat.le_refl _)
  have hw : (TL.tl w).length = w.length := Array.length_toList
  rw [← e] at h
  refine ⟨fun p hp => ?_, ?_⟩
  · have := h.1 (TL.tl p) (List.mem_map.mpr ⟨p, hp, rfl⟩)
    have hp2 : (TL.tl p).length = p.length := Array.length_toList
    have e0 : ([] : List Nat).length = 0 := rfl
    omega
  · have := h.2
    rw [List.length_map] at this
    omega
theorem words_le (w : Str) : (∀ p ∈ words w, p.length ≤ w.length) ∧ (words w).length ≤ w.length + 1 := split_le (c := 32) (by decide +kernel) (by decide +kernel)
theorem rows_le (w : Str) : (∀ p ∈ rows w, p.length ≤ w.length) ∧ (rows w).length ≤ w.length + 1 := split_le (c := 10) (by decide +kernel) (by decide +kernel)
theorem rows_ne (w : Str) : rows w ≠ [] := split_len (c := 10) (by decide +kernel) (by decide +kernel)
/-! ### reading -/
abbrev sRPlaces : Stmt := topS 14
abbrev sRLink : Stmt := topS 15
abbrev sRead : Stmt := topS 12
theorem scRPlaces : FnScope ["line", "parts", "n"] ["line"] (defScope sRPlaces) := ⟨rfl, rfl, rfl, by decide +kernel, rfl, by decide +kernel, by decide +kernel⟩
theorem scRLink : FnScope ["line", "at", "n", "before", "parts", "a", "b", "there", "back"] ["line", "at", "n", "before"] (defScope sRLink) := ⟨rfl, rfl, rfl, by decide +kernel, rfl, by decide +kernel, by decide +kernel⟩
theorem scRead : FnScope ["text", "lines", "unended", "n", "links", "before", "at", "link"] ["text"] (defScope sRead) := ⟨rfl, rfl, rfl, by decide +kernel, rfl, by decide +kernel, by decide +kernel⟩
def clsK (CA CP CB CO : Addr) : Kd → Addr
  | .line => CA
  | .place => CP
  | .price => CB
  | .order => CO
def spRPlaces (CA CP CB CO : Addr) : Sp := fun vs H Q E => ∃ w : Str, vs = [.str w] ∧ Ascii w ∧ w.length ≤ 1000000 ∧
  match placesR (words w) with
  | .bad k => RaiseTo E H (clsK CA CP CB CO k) 0
  | .ok n => ∀ H', Same H H' → Q (.int n) H'
def spRLink (K : PySem.W.Frag) (CA CP CB CO : Addr) : Sp := fun vs H Q E => ∃ (w : Str) (k : Nat) (n : Int) (T : Addr) (p q : Int), vs = [.str w, .int k, .int n, .ref T] ∧ Ascii w ∧ w.length ≤ 1000000 ∧ SqT K H T [.int p, .int q] ∧ n ≤ 40 ∧
  match linkR n p q (words w) with
  | .bad kd => RaiseTo E H (clsK CA CP CB CO kd) k
  | .ok l => ∀ H' R, Same H H' → SqT K H' R (lnkV l) → Q (.ref R) H'
section
variable {K : PySem.W.Frag} {σ : L2.St} {H : Hp} {ta tb te : TE} {D : Ends} {tw : TS}
theorem vl_num {w : Str} (h : Vl te σ H (.str w)) (hn : numB w = true) (hl : w.length ≤ 1000000) : Vl (tCall spNum [] E0 (tCons te tNil)) σ H (.int (val8 w)) := fun Q q => h _ ⟨w, rfl, hn, hl, q⟩
theorem vl_rprice {w : Str} (h : Vl te σ H (.str w)) (hn : pB w = true) (hl : w.length ≤ 1000000) : Vl (tCall spRPrice [] E0 (tCons te tNil)) σ H (oV (priceW8 w)) := fun Q q => h _ ⟨w, rfl, hn, hl, q⟩
theorem vl_isNum {w : Str} (h : Vl te σ H (.str w)) (ha : Ascii w) : Vl (tCall spIsNum [] E0 (tCons te tNil)) σ H (.bl (numB w)) := fun Q q => h _ ⟨w, rfl, ha, q⟩
theorem vl_isPrice {o : Option Int} (h : Vl te σ H (oV o)) : Vl (tCall spIsPrice [] E0 (tCons te tNil)) σ H (.bl (priceB o)) := fun Q q => h _ ⟨o, rfl, q⟩
theorem q_par {i j : Nat} {x y : V} (ha : Vl ta σ H x) (hb : Vl tb σ H y) (k : tw D ((σ.set i (some x)).set j (some y)) H) : tSeq (tPar i j (tCons ta (tCons tb tNil))) tw D σ H := ha _ (hb _ ⟨x, y, rfl, k⟩)
end
section
variable {P : Program} {w : World} {K : PySem.W.Frag} {mg : Str → Option Value} {base : Heap} {CA CP CB CO fI : Addr}
theorem ok_rplaces {f : Addr} {fd : FuncData} (F : Fun K "_read_places" "_read_places" sRPlaces f fd) (hA : PySem.LowX.LowTxt K mg "BadLine" CA fI) (hP : PySem.LowX.LowTxt K mg "BadPlace" CP fI) (c_is_number : Kal P w K mg base 1 "_is_number" ["part"] spIsNum) (c_number : Kal P w K mg base 1 "_number" ["digits"] spNum)
    {t : Tok} (g_MOST_PLACES : mg "MOST_PLACES" = some (.int 40 t)) (ml : mg "len" = none) : FnOk P w K mg base (L2.CX P w) 3 f fd ["line"] (spRPlaces CA CP CB CO) := by
  refine F.okX scRPlaces (fun vs H Q E h => ?_) (fun cdv A outer s H vs Q E hr h => ?_)
  · obtain ⟨w, rfl, _⟩ := h
    rfl
  · obtain ⟨w, rfl, hw, hl, q⟩ := h
    refine ⟨_, pss_cons (ps_set (i := 1) scRPlaces.nd rfl (.inl rfl) (pe_split (pv 0) pe_str))
      (pss_cons (ps_if (PW.pt (pw_or (pt_cmpR op_ne (pe_callB call_len_seq (by rfl) ml PySem.boot_len (pa_cons (pv 1) pa_nil)) pe_int (nomark _)) (pw_or (pt_cmpR op_ne (pe_ix ix_list (pv 1) pe_int (fun _ _ => rfl)) pe_str (nomark _)) (pw_or1 (pt_not (pt_val (pe_k c_is_number hr (by decide) (by rfl) (pa_cons (pe_ix ix_list (pv 1) pe_int (fun _ _ => rfl)) pa_nil))))))))
      (pss_one (ps_raiseLow rfl hA hr (takes_of rfl rfl rfl rfl) (by exact (pa_cons pe_int pa_nil))))
      pss_nil)
      (pss_cons (ps_set (i := 2) scRPlaces.nd rfl (.inl rfl) (pe_k c_number hr (by decide) (by rfl) (pa_cons (pe_ix ix_list (pv 1) pe_int (fun _ _ => rfl)) pa_nil)))
      (pss_cons (ps_if (pt_not (pt_chain op_le op_le pe_int (pv 2) (pe_glob (v := .int 40) (by rfl) g_MOST_PLACES ⟨_, rfl⟩)))
      (pss_one (ps_raiseLow rfl hP hr (takes_of rfl rfl rfl rfl) (by exact (pa_cons pe_int pa_nil))))
      pss_nil)
      (pss_one (ps_ret (pv 2)))))), ?_⟩
    refine q_asgE ⟨.str w, rfl, ⟨_, rfl⟩, w, " ", rfl, rfl, by decide +kernel, Nat.le_trans (show w.length + 2 ≤ 2000000 by omega) (by decide), fun p np => ?_⟩
    have s1 : Same H (upd H p (.lst ((Txt.split w " ").map V.str))) := same_upd np
    have hS : SqL K (upd H p (.lst ((Txt.split w " ").map V.str))) p ((words w).map V.str) := .of upd_same
    have hwa := words_ascii hw
    have hwl := (words_le w).1
    generalize upd H p (.lst ((Txt.split w " ").map V.str)) = H1 at s1 hS ⊢
    generalize words w = ws at q hS hwa hwl
    by_cases hn : ws.length = 2
    · obtain ⟨w0, w1, rfl⟩ : ∃ w0 w1, ws = [w0, w1] := by
        match ws, hn with
        | [w0, w1], _ => exact ⟨w0, w1, rfl⟩
      have h1 := hwa w1 (by simp)
      have l1 : w1.length ≤ 1000000 := Nat.le_trans (hwl w1 (by simp)) hl
      have v0 : Vl (tOp (rIxL K) (tVar 1) (tC (.int 0))) [some (.str w), some (.ref p), none] H1 (.str w0) := vl_ixL (vl_var rfl) vl_c hS (atI_nat (j := 0) rfl)
      have v1 : Vl (tOp (rIxL K) (tVar 1) (tC (.int 1))) [some (.str w), some (.ref p), none] H1 (.str w1) := vl_ixL (vl_var rfl) vl_c hS (atI_nat (j := 1) rfl)
      refine q_when (b := !decide (V.int 2 = V.int 2) || (!decide (V.str w0 = V.str "places") || !numB w1)) ?_ (fun hb => ?_) (fun hb => ?_)
      · exact an_or (an_test (vl_ne ((vl_lenL (vl_var rfl) hS).is rfl) vl_c rfl)) fun _ => an_or (an_test (vl_ne v0 vl_c rfl)) fun _ => an_not (an_B (vl_isNum v1 h1))
      · have e : placesR [w0, w1] = .bad .line := by
          refine if_neg (fun z => ?_)
          rw [Bool.and_eq_true] at z
          rw [str_eq, show decide (cs w0 = cs "places") = true from z.1, z.2] at hb
          exact absurd hb (by decide)
        rw [e] at q
        exact raise_now (va_cons vl_c va_nil) (q.to s1)
      · have hb2 : decide (cs w0 = cs "places") = true ∧ numB w1 = true := by
          rw [str_eq, Bool.or_eq_false_iff, Bool.or_eq_false_iff, Bool.not_eq_false', Bool.not_eq_false', Bool.not_eq_false'] at hb
          exact hb.2
        have e : placesR [w0, w1] = (if 1 ≤ (val w1 : Int) ∧ (val w1 : Int) ≤ 40 then .ok (val w1) else .bad .place) := if_pos (by rw [hb2.1, hb2.2]; rfl)
        rw [e] at q
        have c40 := val_cmp hb2.2 (n := 40) (by decide)
        have c1 := val_cmp hb2.2 (n := 1) (by decide)
        refine q_asg (vl_num v1 hb2.2 l1) ?_
        refine q_when (b := !(decide ((1 : Int) ≤ val8 w1) && decide ((val8 w1 : Int) ≤ 40))) ?_ (fun hb => ?_) (fun hb => ?_)
        · exact an_not (an_test (vl_chainI vl_c (vl_var rfl) vl_c))
        · rw [if_neg (fun z => by
            have e8 := c40.2.2 z.2
            rw [e8, decide_eq_true z.1, decide_eq_true z.2] at hb
            exact absurd hb (by decide))] at q
          exact raise_now (va_cons vl_c va_nil) (q.to s1)
        · rw [Bool.not_eq_false', Bool.and_eq_true] at hb
          have z1 := of_decide_eq_true hb.1
          have z2 := of_decide_eq_true hb.2
          have e8 := c40.2.1 z2
          rw [e8] at z1 z2
          rw [if_pos ⟨z1, z2⟩] at q
          have := q H1 s1
          rw [← e8] at this
          exact g_ret (vl_var rfl) this
    · have e : placesR ws = .bad .line := by
        match ws, hn with
        | [], _ => rfl
        | [_], _ => rfl
        | [_, _], hn => exact absurd rfl hn
        | _ :: _ :: _ :: _, _ => rfl
      rw [e] at q
      refine q_when (b := true || false) (an_or (k := true) (m := false) (an_test ((vl_ne ((vl_lenL (vl_var rfl) hS).is (by rw [List.length_map])) vl_c rfl).is ?_)) (fun z => nomatch z)) (fun _ => ?_) (fun z => nomatch z)
      · rw [decide_eq_false (fun z => hn (by
          have := V.int.inj z
          omega))]
        rfl
      · exact raise_now (va_cons vl_c va_nil) (q.to s1)
theorem ok_rlink {f : Addr} {fd : FuncData} (F : Fun K "_read_link" "_read_link" sRLink f fd) (hA : PySem.LowX.LowTxt K mg "BadLine" CA fI) (hP : PySem.LowX.LowTxt K mg "BadPlace" CP fI) (hB : PySem.LowX.LowTxt K mg "BadPrice" CB fI) (hO : PySem.LowX.LowTxt K mg "WrongOrder" CO fI)
    (c_is_link_line : Kal P w K mg base 2 "_is_link_line" ["parts"] (spIsLL K)) (c_number : Kal P w K mg base 1 "_number" ["digits"] spNum) (c_read_price : Kal P w K mg base 2 "_read_price" ["part"] spRPrice) (c_is_price : Kal P w K mg base 1 "is_price" ["value"] spIsPrice) : FnOk P w K mg base (L2.CX P w) 3 f fd ["line", "at", "n", "before"] (spRLink K CA CP CB CO) := by
  refine F.okX scRLink (fun vs H Q E h => ?_) (fun cdv A outer s H vs Q E hr h => ?_)
  · obtain ⟨w, k, n, T, p, q, rfl, _⟩ := h
    rfl
  · obtain ⟨w, k, n, T, p, q, rfl, hw, hl, hT, hn40, qq⟩ := h
    refine ⟨_, pss_cons (ps_set (i := 4) scRLink.nd rfl (.inl rfl) (pe_split (pv 0) pe_str))
      (pss_cons (ps_if (pt_not (pt_val (pe_k c_is_link_line hr (by decide) (by rfl) (pa_cons (pv 4) pa_nil))))
      (pss_one (ps_raiseLow rfl hA hr (takes_of rfl rfl rfl rfl) (by exact (pa_cons (pv 1) pa_nil))))
      pss_nil)
      (pss_cons (ps_par (i := 5) (j := 6) (by rfl) scRLink.nd rfl rfl (by decide) rfl rfl (pa_cons (pe_k c_number hr (by decide) (by rfl) (pa_cons (pe_ix ix_list (pv 4) pe_int (fun _ _ => rfl)) pa_nil)) (pa_cons (pe_k c_number hr (by decide) (by rfl) (pa_cons (pe_ix ix_list (pv 4) pe_int (fun _ _ => rfl)) pa_nil)) pa_nil)) (by rfl))
      (pss_cons (ps_if (PW.pt (pw_or (pt_cmpR op_ge (pv 5) (pv 2) (nomark _)) (pw_or1 (pt_cmpR op_ge (pv 6) (pv 2) (nomark _)))))
      (pss_one (ps_raiseLow rfl hP hr (takes_of rfl rfl rfl rfl) (by exact (pa_cons (pv 1) pa_nil))))
      pss_nil)
      (pss_cons (ps_par (i := 7) (j := 8) (by rfl) scRLink.nd rfl rfl (by decide) rfl rfl (pa_cons (pe_k c_read_price hr (by decide) (by rfl) (pa_cons (pe_ix ix_list (pv 4) pe_int (fun _ _ => rfl)) pa_nil)) (pa_cons (pe_k c_read_price hr (by decide) (by rfl) (pa_cons (pe_ix ix_list (pv 4) pe_int (fun _ _ => rfl)) pa_nil)) pa_nil)) (by rfl))
      (pss_cons (ps_if (PW.pt (pw_or (pt_not (pt_val (pe_k c_is_price hr (by decide) (by rfl) (pa_cons (pv 7) pa_nil)))) (pw_or1 (pt_not (pt_val (pe_k c_is_price hr (by decide) (by rfl) (pa_cons (pv 8) pa_nil)))))))
      (pss_one (ps_raiseLow rfl hB hr (takes_of rfl rfl rfl rfl) (by exact (pa_cons (pv 1) pa_nil))))
      pss_nil)
      (pss_cons (ps_if (PW.pt (pw_or (pt_cmpR op_ge (pv 5) (pv 6) (nomark _)) (pw_or1 (pt_cmpR (op_leT hr.units0) (pe_tup (pa_cons (pv 5) (pa_cons (pv 6) pa_nil))) (pv 3) (nomark _)))))
      (pss_one (ps_raiseLow rfl hO hr (takes_of rfl rfl rfl rfl) (by exact (pa_cons (pv 1) pa_nil))))
      pss_nil)
      (pss_one (ps_ret (pe_tup (pa_cons (pv 5) (pa_cons (pv 6) (pa_cons (pv 7) (pa_cons (pv 8) pa_nil))))))))))))), ?_⟩
    refine q_asgE ⟨.str w, rfl, ⟨_, rfl⟩, w, " ", rfl, rfl, by decide +kernel, Nat.le_trans (show w.length + 2 ≤ 2000000 by omega) (by decide), fun ps np => ?_⟩
    have s1 : Same H (upd H ps (.lst ((Txt.split w " ").map V.str))) := same_upd np
    have hS : SqL K (upd H ps (.lst ((Txt.split w " ").map V.str))) ps ((words w).map V.str) := .of upd_same
    have hwa := words_ascii hw
    have hwl := (words_le w).1
    generalize upd H ps (.lst ((Txt.split w " ").map V.str)) = H1 at s1 hS ⊢
    generalize words w = ws at qq hS hwa hwl
    refine q_whenx (b := !linkLineB ws) (ax_not (fun Q k => ?_)) (fun hb H2 s2 => ?_) (fun hb H2 s2 => ?_)
    · exact ⟨.ref ps, rfl, ps, ws, rfl, hS, hwa, fun H' s' => ⟨_, rfl, k H' s'⟩⟩
    · rw [Bool.not_eq_true'] at hb
      have e : linkR n p q ws = .bad .line := by
        match ws, hb with
        | [], _ => rfl
        | [_], _ => rfl
        | [_, _], _ => rfl
        | [_, _, _], _ => rfl
        | [w0, w1, w2, w3], hb => exact if_neg (by rw [hb]; exact Bool.false_ne_true)
        | _ :: _ :: _ :: _ :: _ :: _, _ => rfl
      rw [e] at qq
      exact raise_now (va_cons (vl_var rfl) va_nil) (qq.to (s1.trans s2))
    · rw [Bool.not_eq_false'] at hb
      obtain ⟨w0, w1, w2, w3, rfl⟩ : ∃ w0 w1 w2 w3, ws = [w0, w1, w2, w3] := by
        match ws, hb with
        | [w0, w1, w2, w3], _ => exact ⟨w0, w1, w2, w3, rfl⟩
      have e : linkR n p q [w0, w1, w2, w3] = (if n ≤ (val w0 : Int) ∨ n ≤ (val w1 : Int) then .bad .place else if (!priceB (priceW w2) || !priceB (priceW w3)) = true then .bad .price
          else if (val w1 : Int) ≤ val w0 ∨ ((val w0 : Int) < p ∨ ((val w0 : Int) = p ∧ (val w1 : Int) ≤ q)) then .bad .order else .ok ⟨val w0, val w1, priceW w2, priceW w3⟩) := if_pos hb
      rw [e] at qq
      have hb : (numB w0 && (numB w1 && (pB w2 && pB w3))) = true := hb
      rw [Bool.and_eq_true, Bool.and_eq_true, Bool.and_eq_true] at hb
      obtain ⟨b0, b1, b2, b3⟩ := hb
      have ll : ∀ u ∈ [w0, w1, w2, w3], u.length ≤ 1000000 := fun u hu => Nat.le_trans (hwl u hu) hl
      have hS2 := s2.seq hS
      have v0 : ∀ y5 y6 y7 y8, Vl (tOp (rIxL K) (tVar 4) (tC (.int 0))) [some (.str w), some (.int k), some (.int n), some (.ref T), some (.ref ps), y5, y6, y7, y8] H2 (.str w0) := fun _ _ _ _ => vl_ixL (vl_var rfl) vl_c hS2 (atI_nat (j := 0) rfl)
      have v1 : ∀ y5 y6 y7 y8, Vl (tOp (rIxL K) (tVar 4) (tC (.int 1))) [some (.str w), some (.int k), some (.int n), some (.ref T), some (.ref ps), y5, y6, y7, y8] H2 (.str w1) := fun _ _ _ _ => vl_ixL (vl_var rfl) vl_c hS2 (atI_nat (j := 1) rfl)
      have v2 : ∀ y5 y6 y7 y8, Vl (tOp (rIxL K) (tVar 4) (tC (.int 2))) [some (.str w), some (.int k), some (.int n), some (.ref T), some (.ref ps), y5, y6, y7, y8] H2 (.str w2) := fun _ _ _ _ => vl_ixL (vl_var rfl) vl_c hS2 (atI_nat (j := 2) rfl)
      have v3 : ∀ y5 y6 y7 y8, Vl (tOp (rIxL K) (tVar 4) (tC (.int 3))) [some (.str w), some (.int k), some (.int n), some (.ref T), some (.ref ps), y5, y6, y7, y8] H2 (.str w3) := fun _ _ _ _ => vl_ixL (vl_var rfl) vl_c hS2 (atI_nat (j := 3) rfl)
      refine q_par (vl_num (v0 _ _ _ _) b0 (ll w0 (by simp))) (vl_num (v1 _ _ _ _) b1 (ll w1 (by simp))) ?_
      have c0 := val_cmp b0 (n := n) (by omega)
      have c1 := val_cmp b1 (n := n) (by omega)
      refine q_when (b := decide (n ≤ (val8 w0 : Int)) || decide (n ≤ (val8 w1 : Int))) ?_ (fun hb => ?_) (fun hb => ?_)
      · exact an_or (an_test (vl_I0 (vl_var rfl) (vl_var rfl))) fun _ => an_test (vl_I0 (vl_var rfl) (vl_var rfl))
      · rw [Bool.or_eq_true, decide_eq_true_eq, decide_eq_true_eq, c0.1, c1.1] at hb
        rw [if_pos hb] at qq
        exact raise_now (va_cons (vl_var rfl) va_nil) (qq.to (s1.trans s2))
      · rw [Bool.or_eq_false_iff, decide_eq_false_iff_not, decide_eq_false_iff_not] at hb
        have e0 := c0.2.1 (by omega)
        have e1 := c1.2.1 (by omega)
        rw [e0, e1] at hb ⊢
        rw [if_neg (by omega)] at qq
        refine q_par (vl_rprice (v2 _ _ _ _) b2 (ll w2 (by simp))) (vl_rprice (v3 _ _ _ _) b3 (ll w3 (by simp))) ?_
        have p2 := price8 b2
        have p3 := price8 b3
        refine q_when (b := !priceB (priceW8 w2) || !priceB (priceW8 w3)) ?_ (fun hb2 => ?_) (fun hb2 => ?_)
        · exact an_or (an_not (an_B (vl_isPrice (vl_var rfl)))) fun _ => an_not (an_B (vl_isPrice (vl_var rfl)))
        · rw [p2.1, p3.1] at hb2
          rw [if_pos hb2] at qq
          exact raise_now (va_cons (vl_var rfl) va_nil) (qq.to (s1.trans s2))
        · rw [p2.1, p3.1] at hb2
          rw [if_neg (by rw [hb2]; exact Bool.false_ne_true)] at qq
          rw [Bool.or_eq_false_iff, Bool.not_eq_false', Bool.not_eq_false'] at hb2
          rw [p2.2 hb2.1, p3.2 hb2.2]
          refine q_whenx (b := decide ((val w1 : Int) ≤ val w0) || decide ((val w0 : Int) < p ∨ ((val w0 : Int) = p ∧ (val w1 : Int) ≤ q))) ?_ (fun hb3 H3 s3 => ?_) (fun hb3 H3 s3 => ?_)
          · exact ax_or (ax_of (an_test (vl_I0 (vl_var rfl) (vl_var rfl)))) fun _ H' s' => ax_leT (vl_var rfl) (vl_var rfl) (fun _ _ => vl_var rfl) (seqT ((s1.trans s2).trans s') hT)
          · rw [Bool.or_eq_true, decide_eq_true_eq, decide_eq_true_eq] at hb3
            rw [if_pos hb3] at qq
            exact raise_now (va_cons (vl_var rfl) va_nil) (qq.to ((s1.trans s2).trans s3))
          · rw [Bool.or_eq_false_iff, decide_eq_false_iff_not, decide_eq_false_iff_not] at hb3
            rw [if_neg (by
              rintro (h | h)
              · exact hb3.1 h
              · exact hb3.2 h)] at qq
            refine ⟨.int (val w0), rfl, .int (val w1), rfl, oV (priceW w2), rfl, oV (priceW w3), rfl, by show 4 ≤ sizeLine; decide, fun R nR => ?_⟩
            exact qq _ R (((s1.trans s2).trans s3).trans (same_upd nR)) (.of upd_same)
end
def spRead (K : PySem.W.Frag) (CA CP CB CO : Addr) : Sp := fun vs H Q E => ∃ w : Str, vs = [.str w] ∧ Ascii w ∧ w.length ≤ 900000 ∧
  match textR w with
  | .inl f => RaiseTo E H (clsK CA CP CB CO f.1) (f.2 : Nat)
  | .inr N => ∀ H' v, Same H H' → NetAt K H' v N → Q v H'
theorem places_le {ws : List Str} {n : Int} (h : placesR ws = .ok n) : n ≤ 40 := by
  match ws with
  | [] => cases h
  | [_] => cases h
  | _ :: _ :: _ :: _ => cases h
  | [w0, w1] =>
    have h : (if (decide (cs w0 = cs "places") && numB w1) = true then (if 1 ≤ (val w1 : Int) ∧ (val w1 : Int) ≤ 40 then PR.ok (val w1) else .bad .place) else .bad .line) = .ok n := h
    by_cases c1 : (decide (cs w0 = cs "places") && numB w1) = true
    · rw [if_pos c1] at h
      by_cases c2 : 1 ≤ (val w1 : Int) ∧ (val w1 : Int) ≤ 40
      · rw [if_pos c2] at h
        cases h
        exact c2.2
      · rw [if_neg c2] at h
        cases h
    · rw [if_neg c1] at h
      cases h
theorem last_get {α : Type} {l : List α} {d : α} (h : l ≠ []) : l[l.length - 1]? = some (l.getLast?.getD d) := by
  rw [List.getLast?_eq_getElem?]
  have : l.length - 1 < l.length := by
    have := List.length_pos_iff.mpr h
    omega
  rw [List.getElem?_eq_getElem this]
  rfl
theorem seqT_but {K : PySem.W.Frag} {H : Hp} {o R : Addr} {ys zs : List V} (h : SqT K H R zs) (ho : H o = some (.lst ys)) : SqT K (but H o) R zs := by
  rcases h with (h | ⟨u, h⟩) | h
  · have ne : R ≠ o := fun z => by
      rw [z, ho] at h
      cases h
    exact .inl (.inl (by rw [but_ne ne]; exact h))
  · have ne : R ≠ o := fun z => by
      rw [z, ho] at h
      cases h
    exact .inl (.inr ⟨u, by rw [but_ne ne]; exact h⟩)
  · exact .inr h
section
variable {P : Program} {w : World} {K : PySem.W.Frag} {mg : Str → Option Value} {base : Heap} {CA CP CB CO fI : Addr}
theorem ok_read {f : Addr} {fd : FuncData} (F : Fun K "read_net" "read_net" sRead f fd) (hA : PySem.LowX.LowTxt K mg "BadLine" CA fI) (c_read_places : KalX P w K mg base 3 "_read_places" ["line"] (spRPlaces CA CP CB CO)) (c_read_link : KalX P w K mg base 3 "_read_link" ["line", "at", "n", "before"] (spRLink K CA CP CB CO)) (ml : mg "len" = none) (mr : mg "range" = none) :
    FnOk P w K mg base (L2.CX P w) 4 f fd ["text"] (spRead K CA CP CB CO) := by
  refine F.okX scRead (fun vs H Q E h => ?_) (fun cdv A outer s H vs Q E hr h => ?_)
  · obtain ⟨w, rfl, _⟩ := h
    rfl
  · obtain ⟨w, rfl, hw, hl, q⟩ := h
    refine ⟨_, pss_cons (ps_set (i := 1) scRead.nd rfl (.inl rfl) (pe_split (pv 0) pe_str))
      (pss_cons (ps_set (i := 2) scRead.nd rfl (.inl rfl) (pe_bm0 PySem.F.plainAttrs_list PySem.F.slot_list_pop PySem.F.type_list_pop mt_pop (pv 1)))
      (pss_cons (ps_if (pt_not (pt_truth (pv 1) (by intro _; rfl)))
      (pss_one (ps_raiseLow rfl hA hr (takes_of rfl rfl rfl rfl) (by exact (pa_cons pe_int pa_nil))))
      pss_nil)
      (pss_cons (ps_set (i := 3) scRead.nd rfl (.inl rfl) (pe_kx (E := E) c_read_places hr (by decide) (by rfl) (takes_of rfl rfl rfl rfl) (pa_cons (pe_ix ix_list (pv 1) pe_int (fun _ _ => rfl)) pa_nil)))
      (pss_cons (ps_set (i := 4) scRead.nd rfl (.inl rfl) (pe_lst pa_nil))
      (pss_cons (ps_set (i := 5) scRead.nd rfl (.inl rfl) (pe_tup (pa_cons pe_int (pa_cons pe_int pa_nil))))
      (pss_cons (ps_for (passes_of rfl) rfl (pi_range2 (by rfl) mr (pa_cons pe_int (pa_cons (pe_callB call_len_seq (by rfl) ml PySem.boot_len (pa_cons (pv 1) pa_nil)) pa_nil))) (pg_name (i := 6) scRead.nd rfl (.inl rfl))
      (pss_cons (ps_set (i := 7) scRead.nd rfl (.inl rfl) (pe_kx (E := E) c_read_link hr (by decide) (by rfl) (takes_of rfl rfl rfl rfl) (pa_cons (pe_ix ix_list (pv 1) (pv 6) (fun _ _ => rfl)) (pa_cons (pv 6) (pa_cons (pv 3) (pa_cons (pv 5) pa_nil))))))
        (pss_cons (ps_set (i := 5) scRead.nd rfl (.inl rfl) (pe_tup (pa_cons (pe_ix ix_tup (pv 7) pe_int (fun _ _ => rfl)) (pa_cons (pe_ix ix_tup (pv 7) pe_int (fun _ _ => rfl)) pa_nil))))
        (pss_one (ps_expr (pe_bm PySem.F.plainAttrs_list PySem.F.slot_list_append PySem.F.type_list_append mt_append (pv 4) (pa_cons (pv 7) pa_nil)))))))
      (pss_cons (ps_if (pt_truth (pv 2) (by intro _; rfl))
      (pss_one (ps_raiseLow rfl hA hr (takes_of rfl rfl rfl rfl) (by exact (pa_cons (pe_callB call_len_seq (by rfl) ml PySem.boot_len (pa_cons (pv 1) pa_nil)) pa_nil))))
      pss_nil)
      (pss_one (ps_ret (pe_tup (pa_cons (pv 3) (pa_cons (pv 4) pa_nil)))))))))))), ?_⟩
    refine q_asgE ⟨.str w, rfl, ⟨_, rfl⟩, w, "\n", rfl, rfl, by decide +kernel, Nat.le_trans (show w.length + 2 ≤ 2000000 by omega) (by decide), fun ps np => ?_⟩
    have hra := rows_ascii hw
    have hrl := rows_le w
    have hrn := rows_ne w
    have q : match readR (rows w).dropLast ((rows w).getLast?.getD "") with
        | .inl f => RaiseTo E H (clsK CA CP CB CO f.1) (f.2 : Nat)
        | .inr N => ∀ H' v, Same H H' → NetAt K H' v N → Q v H' := q
    show tSeq _ _ _ _ (upd H ps (.lst ((rows w).map V.str)))
    generalize rows w = R at q hra hrl hrn ⊢
    -- unended = lines.pop()
    refine q_asgE ⟨.ref ps, rfl, .inl ⟨rfl, _, .inl (.inl upd_same)⟩, ps, _, .str (R.getLast?.getD ""), rfl, rfl, upd_same, ?_, ?_⟩
    · rw [List.length_map, List.getElem?_map, last_get hrn]
      rfl
    have hlast : Ascii (R.getLast?.getD "") ∧ (R.getLast?.getD "").length ≤ 900000 := by
      have := List.mem_of_getElem? (last_get (d := ("" : Str)) hrn)
      exact ⟨hra _ this, Nat.le_trans (hrl.1 _ this) hl⟩
    have sb : Same H (upd (upd H ps (.lst (R.map V.str))) ps (.lst (R.map V.str).dropLast)) := same_upd' (same_upd np) np
    have hps : upd (upd H ps (.lst (R.map V.str))) ps (.lst (R.map V.str).dropLast) ps = some (.lst (R.dropLast.map V.str)) := by
      rw [upd_same, List.map_dropLast]
    generalize upd (upd H ps (.lst (R.map V.str))) ps (.lst (R.map V.str).dropLast) = Hb at sb hps ⊢
    generalize R.getLast?.getD "" = last at q hlast ⊢
    have hLl : R.dropLast.length ≤ 900001 := by
      rw [List.length_dropLast]
      have := hrl.2
      omega
    have hLa : ∀ u ∈ R.dropLast, Ascii u ∧ u.length ≤ 1000000 := fun u hu => ⟨hra u ((List.dropLast_sublist _).subset hu), Nat.le_trans (hrl.1 u ((List.dropLast_sublist _).subset hu)) (by omega)⟩
    generalize R.dropLast = L at q hps hLl hLa
    refine q_when (b := !!(L.map V.str).isEmpty) ?_ (fun hb => ?_) (fun hb => ?_)
    · exact an_not fun Q k => ⟨.ref ps, rfl, _, .inl ⟨_, .of hps, rfl⟩, k⟩
    · have e : L = [] := by
        cases L with
        | nil => rfl
        | cons x r => cases hb
      subst e
      exact raise_now (va_cons vl_c va_nil) (RaiseTo.to (C := CA) (i := 0) q sb)
    · obtain ⟨l0, r, rfl⟩ : ∃ l0 r, L = l0 :: r := by
        cases L with
        | nil => cases hb
        | cons x r => exact ⟨x, r, rfl⟩
      have hl0 := hLa l0 List.mem_cons_self
      -- n = _read_places(lines[0])
      refine q_asgE ((vl_ixL (K := K) (vl_var rfl) vl_c (.of hps) (atI_nat (j := 0) rfl)) _ ⟨l0, rfl, hl0.1, hl0.2, ?_⟩)
      have eR : readR (l0 :: r) last = (match placesR (words l0) with
          | .bad k => .inl (k, 0)
          | .ok n => match rdL n 0 0 1 r [] with
            | .inl f => .inl f
            | .inr ls => if cs last = [] then .inr ⟨n, ls⟩ else .inl (.line, (l0 :: r).length)) := rfl
      rw [eR] at q
      cases e0 : placesR (words l0) with
      | bad k =>
        rw [e0] at q
        exact RaiseTo.to (E := E) (C := clsK CA CP CB CO k) (i := 0) q sb
      | ok n =>
        rw [e0] at q
        have hn40 := places_le e0
        show ∀ H', Same Hb H' → _
        intro H1 s1
        have q : match (match rdL n 0 0 1 r [] with
            | .inl f => .inl f
            | .inr ls => if cs last = [] then .inr ⟨n, ls⟩ else .inl (Kd.line, (l0 :: r).length) : Sum (Kd × Nat) Net) with
          | .inl f => RaiseTo E H (clsK CA CP CB CO f.1) (f.2 : Nat)
          | .inr N => ∀ H' v, Same H H' → NetAt K H' v N → Q v H' := q
        refine q_lnew fun o no => ?_
        refine q_asgTup (va_cons vl_c (va_cons vl_c va_nil)) (by show 2 ≤ sizeLine; decide) fun T nT => ?_
        have oT : T ≠ o := fun z => by
          rw [z, upd_same] at nT
          cases nT
        have sHo : Same H1 (upd H1 o (.lst [])) := same_upd no
        have sT : Same (upd H1 o (.lst [])) (upd (upd H1 o (.lst [])) T (.tup [.int 0, .int 0])) := same_upd nT
        refine q_forR2 (lo := 1) (n := ((l0 :: r).length : Int)) (va_cons vl_c (va_cons ((vl_lenL (vl_var rfl) (.of ((sHo.trans sT) _ _ (s1 _ _ hps)))).is (by rw [List.length_map])) va_nil)) ⟨by decide, by decide, by omega, by omega⟩
          (fun i σ H3 => ∃ y6 y7 p q acc ys T, σ = [some (.str w), some (.ref ps), some (.str last), some (.int n), some (.ref o), some (.ref T), y6, y7] ∧ H3 o = some (.lst ys) ∧ Same H1 (but H3 o) ∧ DpAll K (but H3 o) ys (acc.map lnkD) ∧ acc.length ≤ i ∧ SqT K (but H3 o) T [.int p, .int q] ∧ rdL n 0 0 1 r [] = rdL n p q (1 + i) (r.drop i) acc)
          ⟨none, none, 0, 0, [], [], T, rfl, sT _ _ upd_same, same_but (sHo.trans sT) no, .nil, Nat.le_refl _, .of (by rw [but_ne oT, upd_same]), rfl⟩ (fun i σ H3 hi hP => ?_) (fun σ H3 hP => ?_)
        · obtain ⟨y6, y7, p, q0, acc, ys, T, rfl, ho, s3, hy, hal, hT, er⟩ := hP
          have hir : i < r.length := by
            rw [List.length_cons] at hi
            omega
          have hg : r[i]? = some r[i] := List.getElem?_eq_getElem hir
          generalize r[i] = u at hg
          have hu := hLa u (List.mem_cons_of_mem _ (List.mem_of_getElem? hg))
          have h3 : Same H1 H3 := s3.trans but_same
          have gl : atI ((l0 :: r).map V.str) (1 + (i : Int)) = some (.str u) := by
            have g : ((l0 :: r).map V.str)[i + 1]? = some (.str u) := by
              rw [List.getElem?_map]
              show Option.map V.str (r[i]?) = _
              rw [hg]
              rfl
            have := atI_nat g
            rw [show ((i + 1 : Nat) : Int) = 1 + (i : Int) by omega] at this
            exact this
          have ed : r.drop i = u :: r.drop (i + 1) := by
            rw [List.drop_eq_getElem_cons hir, (List.getElem?_eq_some_iff.mp hg).2]
          rw [ed] at er
          have er : rdL n 0 0 1 r [] = (match linkR n p q0 (words u) with
            | .bad kd => .inl (kd, 1 + i)
            | .ok x => rdL n x.a x.b (1 + i + 1) (r.drop (i + 1)) (acc ++ [x])) := er
          refine q_asgE ((vl_ixL (K := K) (vl_var rfl) (vl_var rfl) (.of (h3 _ _ (s1 _ _ hps))) gl) _ ⟨.int (1 + (i : Int)), rfl, .int n, rfl, .ref T, rfl, u, 1 + i, n, T, p, q0, ?_, hu.1, hu.2, seqT but_same hT, hn40, ?_⟩)
          · rw [show ((1 + i : Nat) : Int) = 1 + (i : Int) by omega]
            rfl
          · cases el : linkR n p q0 (words u) with
            | bad kd =>
              rw [el] at er
              rw [er] at q
              exact RaiseTo.to (E := E) (C := clsK CA CP CB CO kd) (i := ((1 + i : Nat) : Int)) q (sb.trans (s1.trans h3))
            | ok x =>
              rw [el] at er
              show ∀ H' R, Same H3 H' → SqT K H' R (lnkV x) → _
              intro H4 R s4 hR
              refine q_asgTup (va_cons (vl_ixT (vl_var rfl) vl_c hR (atI_nat (j := 0) rfl)) (va_cons (vl_ixT (vl_var rfl) vl_c hR (atI_nat (j := 1) rfl)) va_nil)) (by show 2 ≤ sizeLine; decide) fun T2 nT2 => ?_
              have s5 : Same H4 (upd H4 T2 (.tup [.int x.a, .int x.b])) := same_upd nT2
              have ho5 := s5 _ _ (s4 _ _ ho)
              have oT2 : T2 ≠ o := (ne_of_none (s4 _ _ ho) nT2).symm
              refine g_app (vl_var rfl) ho5 (vl_var rfl) ?_ ?_
              · rw [DpAll.len hy, List.length_map]
                exact Nat.lt_of_le_of_lt (m := 1000000) (by omega) (by decide)
              · have sB : Same (but H3 o) (but (upd (upd H4 T2 (.tup [.int x.a, .int x.b])) o (.lst (ys ++ [.ref R]))) o) := by
                  rw [but_upd]
                  exact but_mono (s4.trans s5)
                refine ⟨_, _, x.a, x.b, acc ++ [x], ys ++ [.ref R], T2, rfl, upd_same, s3.trans sB, ?_, ?_, ?_, ?_⟩
                · rw [List.map_append]
                  refine DpAll.app (DpAll.to hy sB) (DpAll.one (Dp.lnk ?_))
                  rw [but_upd]
                  exact seqT (but_mono s5) (seqT_but hR (s4 _ _ ho))
                · rw [List.length_append]
                  exact Nat.succ_le_succ hal
                · rw [but_upd]
                  exact .of (by rw [but_ne oT2, upd_same])
                · rw [er, show 1 + (i + 1) = 1 + i + 1 by omega]
        · obtain ⟨y6, y7, p, q0, acc, ys, T, rfl, ho, s3, hy, hal, hT, er⟩ := hP
          have el2 : (((l0 :: r).length : Int) - 1).toNat = r.length := by
            rw [List.length_cons]
            omega
          rw [el2, List.drop_length] at er
          have er : rdL n 0 0 1 r [] = .inr acc := er
          rw [er] at q
          have h3 : Same H1 H3 := s3.trans but_same
          refine q_when (b := (last.length : Int) != 0) ?_ (fun hb => ?_) (fun hb => ?_)
          · exact fun Q k => ⟨.str last, rfl, _, ⟨Nat.le_trans hlast.2 (by decide), rfl⟩, k⟩
          · have e : ¬ cs last = [] := fun z => by
              have e2 : last.length = 0 := by
                show last.cps.size = 0
                rw [← Array.length_toList]
                show (cs last).length = 0
                rw [z]
                rfl
              rw [e2] at hb
              exact absurd hb (by decide)
            have q : match (if cs last = [] then .inr ⟨n, acc⟩ else .inl (Kd.line, (l0 :: r).length) : Sum (Kd × Nat) Net) with
              | .inl f => RaiseTo E H (clsK CA CP CB CO f.1) (f.2 : Nat)
              | .inr N => ∀ H' v, Same H H' → NetAt K H' v N → Q v H' := q
            rw [if_neg e] at q
            refine raise_now (va_cons ((vl_lenL (vl_var rfl) (.of (h3 _ _ (s1 _ _ hps)))).is (by rw [List.length_map])) va_nil) (RaiseTo.to (C := CA) q (sb.trans (s1.trans h3)))
          · have e : cs last = [] := by
              have : last.length = 0 := by simpa using hb
              refine List.eq_nil_of_length_eq_zero ?_
              show last.cps.toList.length = 0
              rw [Array.length_toList]
              exact this
            have q : match (if cs last = [] then .inr ⟨n, acc⟩ else .inl (Kd.line, (l0 :: r).length) : Sum (Kd × Nat) Net) with
              | .inl f => RaiseTo E H (clsK CA CP CB CO f.1) (f.2 : Nat)
              | .inr N => ∀ H' v, Same H H' → NetAt K H' v N → Q v H' := q
            rw [if_pos e] at q
            refine ⟨.int n, rfl, .ref o, rfl, by show 2 ≤ sizeLine; decide, fun R nR => ?_⟩
            have sR : Same H3 (upd H3 R (.tup [.int n, .ref o])) := same_upd nR
            exact q _ _ ((sb.trans (s1.trans h3)).trans sR) ⟨R, o, ys, rfl, upd_same, sR _ _ ho, DpAll.to hy (but_same.trans sR)⟩
end
/-! ### the text of a net -/
def mkS (l : List Nat) : Str := ⟨l.toArray⟩
theorem cs_mk (l : List Nat) : cs (mkS l) = l := rfl
theorem mk_cs (w : Str) : mkS (cs w) = w := TL.mk_tl w
theorem cs_app (a b : Str) : cs (a ++ b) = cs a ++ cs b := TL.tl_append a b
theorem str_ext {a b : Str} (h : cs a = cs b) : a = b := TL.ext_tl h
theorem len_cs (a : Str) : a.length = (cs a).length := (Array.length_toList (xs := a.cps)).symm
def numS (i : Int) : Str := ((toString i : String) : Str)
def numC (i : Int) : List Nat := cs (numS i)
def ptS : Option Int → Str
  | none => "-"
  | some i => numS i
def ptC (o : Option Int) : List Nat := cs (ptS o)
def lineC (l : Lnk) : List Nat := numC l.a ++ [32] ++ numC l.b ++ [32] ++ ptC l.t ++ [32] ++ ptC l.k
def headC (n : Int) : List Nat := cs "places" ++ [32] ++ numC n
def textC (N : Net) : List Nat := headC N.n ++ [10] ++ (N.ls.map fun l => lineC l ++ [10]).flatten
theorem num_len {i : Int} (h0 : 0 ≤ i) (h1 : i ≤ 10000000) : (numS i).length ≤ 10 := PySem.W.KT.len_num h0 (by omega)
theorem num_log {i : Int} (h0 : 0 ≤ i) (h1 : i ≤ 10000000) : i.natAbs.log2 < 1920 := by
  by_cases hz : i.natAbs = 0
  · rw [hz]
    decide
  · rw [Nat.log2_lt hz]
    have h : i.natAbs < 2 ^ 24 := by omega
    exact Nat.lt_of_lt_of_le h (Nat.pow_le_pow_right (by decide : 2 > 0) (show 24 ≤ 1920 by decide))
def Small (o : Option Int) : Prop := ∀ x, o = some x → 0 ≤ x ∧ x ≤ 10000000
theorem Small.of {o : Option Int} (h : PriceOk o) : Small o := fun x e => by
  have := h x e
  omega
theorem pt_len {o : Option Int} (h : Small o) : (ptS o).length ≤ 10 := by
  cases o with
  | none => decide +kernel
  | some x => exact num_len (h x rfl).1 (h x rfl).2
theorem c_sp : cs " " = [32] := by decide +kernel
theorem c_nl : cs "\n" = [10] := by decide +kernel
theorem c_pl : cs "places " = cs "places" ++ [32] := by decide +kernel
theorem c_em : cs Str.empty = [] := rfl
/-- the text of a line, part behind part -/
def lineS (l : Lnk) : Str := Str.empty ++ numS l.a ++ " " ++ numS l.b ++ " " ++ ptS l.t ++ " " ++ ptS l.k ++ "\n"
def headS (n : Int) : Str := Str.empty ++ "places " ++ numS n ++ "\n"
theorem line_cs (l : Lnk) : cs (lineS l) = lineC l ++ [10] := by
  unfold lineS lineC ptC numC
  simp only [cs_app, c_sp, c_nl, c_em, List.nil_append]
theorem head_cs (n : Int) : cs (headS n) = headC n ++ [10] := by
  unfold headS headC numC
  simp only [cs_app, c_pl, c_nl, c_em, List.nil_append]
theorem len_app (a b : Str) : (a ++ b).length = a.length + b.length := by
  rw [len_cs, len_cs, len_cs, cs_app, List.length_append]
abbrev sPText : Stmt := topS 13
abbrev sWrite : Stmt := topS 11
theorem scPText : FnScope ["value"] ["value"] (defScope sPText) := ⟨rfl, rfl, rfl, by decide +kernel, rfl, by decide +kernel, by decide +kernel⟩
theorem scWrite : FnScope ["net", "n", "links", "lines", "a", "b", "there", "back"] ["net"] (defScope sWrite) := ⟨rfl, rfl, rfl, by decide +kernel, rfl, by decide +kernel, by decide +kernel⟩
def spPText : Sp := fun vs H Q _ => ∃ o : Option Int, vs = [oV o] ∧ Small o ∧ Q (.str (ptS o)) H
def spWrite (K : PySem.W.Frag) : Sp := fun vs H Q _ => ∃ (v : V) (N : Net), vs = [v] ∧ Dp K H v (netD N) ∧ NetOk N ∧ ∀ H', Same H H' → Q (.str (mkS (textC N))) H'
theorem join_nil : ∀ (ws : List Str), cs (Txt.join "" ws) = (ws.map cs).flatten := by
  intro ws
  have e : cs (Txt.join "" ws) = TL.joinL (TL.tl "") (ws.map TL.tl) := by
    rw [TL.join_eq]
    exact TL.tl_join "" ws
  rw [e, show TL.tl ("" : Str) = [] by decide +kernel]
  have : ∀ ls : List (List Nat), TL.joinL [] ls = ls.flatten := by
    intro ls
    induction ls with
    | nil => rfl
    | cons x r ih =>
      cases r with
      | nil =>
        show x = (x :: []).flatten
        simp
      | cons y r =>
        show x ++ ([] ++ TL.joinL [] (y :: r)) = _
        rw [List.nil_append, ih]
        rfl
  exact this _
theorem sum_le {ws : List Str} {m : Nat} (h : ∀ u ∈ ws, u.length ≤ m) : (ws.map (·.length)).sum ≤ ws.length * m := by
  induction ws with
  | nil => exact Nat.zero_le _
  | cons x r ih =>
    rw [List.map_cons, List.sum_cons, List.length_cons, Nat.succ_mul]
    have h1 := h x List.mem_cons_self
    have h2 := ih fun u hu => h u (List.mem_cons_of_mem _ hu)
    omega
theorem line_len {n : Int} (hn : n ≤ 40) {l : Lnk} (h : LnkOk n l) : (lineS l).length ≤ 60 := by
  unfold lineS
  simp only [len_app]
  have h1 := num_len h.a0 (by have := h.ab; have := h.bn; omega)
  have h2 := num_len (i := l.b) (by have := h.a0; have := h.ab; omega) (by have := h.bn; omega)
  have h3 := pt_len (Small.of h.t)
  have h4 := pt_len (Small.of h.k)
  have e0 : Str.empty.length = 0 := rfl
  have e1 : (" " : Str).length = 1 := by decide +kernel
  have e2 : ("\n" : Str).length = 1 := by decide +kernel
  omega
section
variable {P : Program} {w : World} {K : PySem.W.Frag} {mg : Str → Option Value} {base : Heap}
theorem ok_ptext {f : Addr} {fd : FuncData} {k : Nat} (F : Fun K "_price_text" "_price_text" sPText f fd) (mS : mg "str" = none) : FnOk P w K mg base CX0 (k + 1) f fd ["value"] spPText := by
  refine F.ok scPText (fun vs H Q E h => ?_) (fun cdv A outer s H vs Q E hr h => ?_)
  · obtain ⟨o, rfl, _⟩ := h
    rfl
  · obtain ⟨o, rfl, hs, q⟩ := h
    refine ⟨_, pss_one (ps_ret (pe_ifExp (pt_cmpR op_isN (pv 0) pe_non (nomark _)) pe_str (pe_callTy call_str_int (by rfl) mS (by decide +kernel) (pa_cons (pv 0) pa_nil)))), ?_⟩
    cases o with
    | none => exact g_ret (vl_if (b := true) (an_test ((vl_isN (vl_var rfl)).is rfl)) (fun _ => vl_c) (fun z => nomatch z)) q
    | some x => exact g_ret (vl_if (b := false) (an_test ((vl_isN (vl_var rfl)).is rfl)) (fun z => nomatch z) (fun _ Q q => ⟨.int x, rfl, x, rfl, num_log (hs x rfl).1 (hs x rfl).2, q⟩)) q
theorem ok_write {f : Addr} {fd : FuncData} (F : Fun K "write_net" "write_net" sWrite f fd) (c_price_text : Kal P w K mg base 1 "_price_text" ["value"] spPText) : FnOk P w K mg base CX0 2 f fd ["net"] (spWrite K) := by
  refine F.ok scWrite (fun vs H Q E h => ?_) (fun cdv A outer s H vs Q E hr h => ?_)
  · obtain ⟨v, N, rfl, _⟩ := h
    rfl
  · obtain ⟨v, N, rfl, hN, ok, q⟩ := h
    refine ⟨_, pss_cons (ps_asg (pv 0) (pg_tup rfl (pgs_cons (pg_name (i := 1) scWrite.nd rfl (.inl rfl)) (pgs_cons (pg_name (i := 2) scWrite.nd rfl (.inl rfl)) pgs_nil))))
      (pss_cons (ps_set (i := 3) scWrite.nd rfl (.inl rfl) (pe_lst (pa_cons (pe_joined (PJ.cons pe_str (PJ.cons (pe_fmt (pv 1)) (PJ.cons pe_str PJ.nil)))) pa_nil)))
      (pss_cons (ps_for PassesOwn.never rfl (pi_list (pv 2)) (pg_tup rfl (pgs_cons (pg_name (i := 4) scWrite.nd rfl (.inl rfl)) (pgs_cons (pg_name (i := 5) scWrite.nd rfl (.inl rfl)) (pgs_cons (pg_name (i := 6) scWrite.nd rfl (.inl rfl)) (pgs_cons (pg_name (i := 7) scWrite.nd rfl (.inl rfl)) pgs_nil)))))
      (pss_one (ps_expr (pe_bm PySem.F.plainAttrs_list PySem.F.slot_list_append PySem.F.type_list_append mt_append (pv 3) (pa_cons (pe_joined (PJ.cons (pe_fmt (pv 4)) (PJ.cons pe_str (PJ.cons (pe_fmt (pv 5)) (PJ.cons pe_str (PJ.cons (pe_fmt (pe_k c_price_text hr (by decide) (by rfl) (pa_cons (pv 6) pa_nil))) (PJ.cons pe_str (PJ.cons (pe_fmt (pe_k c_price_text hr (by decide) (by rfl) (pa_cons (pv 7) pa_nil))) (PJ.cons pe_str PJ.nil))))))))) pa_nil)))))
      (pss_one (ps_ret (pe_join pe_str (pv 3)))))), ?_⟩
    obtain ⟨p, c, xs, rfl, hp, hc, hx⟩ := Dp.net_inv hN
    have n1 := ok.n1
    have n40 := ok.n40
    have l16 := ok.len
    have e0 : Str.empty.length = 0 := rfl
    have e1 : (" " : Str).length = 1 := by decide +kernel
    have e2 : ("\n" : Str).length = 1 := by decide +kernel
    have e3 : ("places " : Str).length = 7 := by decide +kernel
    have small : ∀ n : Nat, n ≤ 10000 → n ≤ sizeLine := fun n h => Nat.le_trans h (by decide)
    have hnl := num_len (i := N.n) (by omega) (by omega)
    refine q_asgT2 (vl_var rfl) hp ?_
    refine q_asgE ⟨_, rfl, small _ (by rw [len_app]; omega), .int N.n, rfl, .inr ⟨N.n, rfl, num_log (by omega) (by omega), _, rfl, small _ (by
      show (Str.empty ++ "places " ++ numS N.n).length ≤ 10000
      rw [len_app, len_app]
      omega), _, rfl, small _ (by
      show (Str.empty ++ "places " ++ numS N.n ++ "\n").length ≤ 10000
      rw [len_app, len_app, len_app]
      omega), by show 1 ≤ sizeLine; decide, fun o no => ?_⟩⟩
    refine q_forLnk (j1 := 4) (j2 := 5) (j3 := 6) (j4 := 7) (Hb := H) (vl_var rfl) hc hx (same_upd no)
      (fun i σ H3 => ∃ y4 y5 y6 y7, σ = [some (.ref p), some (.int N.n), some (.ref c), some (.ref o), y4, y5, y6, y7] ∧ Same H H3 ∧ H3 o = some (.lst ((headS N.n :: (N.ls.take i).map lineS).map V.str)))
      ⟨none, none, none, none, rfl, same_upd no, upd_same⟩ (fun i σ H3 hP => ?_) (fun i l σ H3 hl hP => ?_) (fun σ H3 hP => ?_)
    · obtain ⟨_, _, _, _, _, s3, _⟩ := hP
      exact s3
    · obtain ⟨y4, y5, y6, y7, rfl, s3, ho⟩ := hP
      have hi := (List.getElem?_eq_some_iff.mp hl).1
      have h := ok.ok l (List.mem_of_getElem? hl)
      have h1 := num_len h.a0 (by have := h.ab; have := h.bn; omega)
      have h2 := num_len (i := l.b) (by have := h.a0; have := h.ab; omega) (by have := h.bn; omega)
      have h3 := pt_len (Small.of h.t)
      have h4 := pt_len (Small.of h.k)
      have g1 := num_log h.a0 (by have := h.ab; have := h.bn; omega)
      have g2 := num_log (i := l.b) (by have := h.a0; have := h.ab; omega) (by have := h.bn; omega)
      refine ⟨.ref o, rfl, .inl ⟨rfl, _, .inl (.inl ho)⟩, .int l.a, rfl, .inr ⟨l.a, rfl, g1, _, rfl, small _ (by
        show (Str.empty ++ numS l.a).length ≤ 10000
        rw [len_app]
        omega), _, rfl, small _ (by
        show (Str.empty ++ numS l.a ++ " ").length ≤ 10000
        rw [len_app, len_app]
        omega), .int l.b, rfl, .inr ⟨l.b, rfl, g2, _, rfl, small _ (by
        show (Str.empty ++ numS l.a ++ " " ++ numS l.b).length ≤ 10000
        rw [len_app, len_app, len_app]
        omega), _, rfl, small _ (by
        show (Str.empty ++ numS l.a ++ " " ++ numS l.b ++ " ").length ≤ 10000
        rw [len_app, len_app, len_app, len_app]
        omega), oV l.t, rfl, l.t, rfl, Small.of h.t, .inl ⟨ptS l.t, rfl, small _ (by omega), _, rfl, small _ (by
        show (Str.empty ++ numS l.a ++ " " ++ numS l.b ++ " " ++ ptS l.t).length ≤ 10000
        rw [len_app, len_app, len_app, len_app, len_app]
        omega), _, rfl, small _ (by
        show (Str.empty ++ numS l.a ++ " " ++ numS l.b ++ " " ++ ptS l.t ++ " ").length ≤ 10000
        rw [len_app, len_app, len_app, len_app, len_app, len_app]
        omega), oV l.k, rfl, l.k, rfl, Small.of h.k, .inl ⟨ptS l.k, rfl, small _ (by omega), _, rfl, small _ (by
        show (Str.empty ++ numS l.a ++ " " ++ numS l.b ++ " " ++ ptS l.t ++ " " ++ ptS l.k).length ≤ 10000
        rw [len_app, len_app, len_app, len_app, len_app, len_app, len_app]
        omega), _, rfl, small _ (by
        show (Str.empty ++ numS l.a ++ " " ++ numS l.b ++ " " ++ ptS l.t ++ " " ++ ptS l.k ++ "\n").length ≤ 10000
        rw [len_app, len_app, len_app, len_app, len_app, len_app, len_app, len_app]
        omega), ?_⟩⟩⟩⟩⟩
      refine ⟨o, _, .str (lineS l), rfl, rfl, ho, ?_, ?_⟩
      · rw [List.length_map, List.length_cons, List.length_map, List.length_take]
        exact Nat.lt_of_le_of_lt (m := 10000) (by omega) (by decide)
      · refine ⟨_, _, _, _, rfl, same_upd' s3 no, ?_⟩
        rw [upd_same, take_snoc hl, List.map_append, ← List.cons_append, List.map_append]
        rfl
    · obtain ⟨y4, y5, y6, y7, rfl, s3, ho⟩ := hP
      rw [List.take_length] at ho
      refine ⟨⟨_, rfl⟩, .ref o, rfl, "", o, headS N.n :: N.ls.map lineS, rfl, rfl, .inl (.of ho), ?_, ?_⟩
      · have hs := sum_le (ws := headS N.n :: N.ls.map lineS) (m := 60) (by
          intro u hu
          rcases List.mem_cons.mp hu with h | h
          · subst h
            unfold headS
            simp only [len_app]
            omega
          · obtain ⟨l, hl, rfl⟩ := List.mem_map.mp h
            exact line_len n40 (ok.ok l hl))
        rw [List.length_cons, List.length_map] at hs ⊢
        have ez : ("" : Str).length = 0 := by decide +kernel
        rw [ez]
        omega
      · have e : Txt.join "" (headS N.n :: N.ls.map lineS) = mkS (textC N) := by
          refine str_ext ?_
          rw [join_nil, cs_mk, List.map_cons, List.flatten_cons, head_cs, List.map_map]
          unfold textC
          congr 2
          exact List.map_congr_left fun l _ => line_cs l
        rw [e]
        exact q H3 s3
end
/-! ### reading what was written -/
theorem num_dig {i : Int} (h0 : 0 ≤ i) (h1 : i ≤ 10000000) : NumText.AllDigits (cs (numS i)) ∧ cs (numS i) ≠ [] := by
  obtain ⟨m, rfl⟩ := Int.eq_ofNat_of_zero_le h0
  have e : cs (numS (m : Int)) = (Nat.toDigits 10 m).map Char.toNat := PySem.W.KIN.signs_num m
  constructor
  · intro c hc
    rw [e] at hc
    obtain ⟨ch, hch, e⟩ := List.mem_map.mp hc
    have r := Nat.isDigit_of_mem_toDigits (by decide) (by decide) hch
    rw [← e]
    unfold Char.isDigit at r
    rw [Bool.and_eq_true, decide_eq_true_eq, decide_eq_true_eq] at r
    exact ⟨r.1, r.2⟩
  · rw [e]
    intro z
    have := List.map_eq_nil_iff.mp z
    exact Nat.toDigits_ne_nil this
theorem num_val {i : Int} (h0 : 0 ≤ i) (h1 : i ≤ 10000000) : (val (numS i) : Int) = i := by
  have hd := num_dig h0 h1
  have hl := num_len h0 h1
  have e1 := intText_digits (x := numS i) hd.1 hd.2 (by omega)
  have e2 : intText? (numS i) = some i := PySem.W.KIN.num_reads h0 (by omega)
  rw [e2] at e1
  exact (Option.some.inj e1).symm
theorem num_B {i : Int} (h0 : 0 ≤ i) (h1 : i ≤ 10000000) : numB (numS i) = true := by
  have hd := num_dig h0 h1
  have hv := num_val h0 h1
  unfold numB numL
  rw [Bool.and_eq_true, Bool.and_eq_true, Bool.or_eq_true, Bool.not_eq_true', Bool.not_eq_true', List.isEmpty_eq_false_iff, List.all_eq_true, decide_eq_true_eq, decide_eq_false_iff_not]
  refine ⟨⟨hd.2, fun c hc => ?_⟩, ?_⟩
  · have := hd.1 c hc
    unfold digB
    rw [decide_eq_true this.1, decide_eq_true this.2]
    rfl
  · obtain ⟨m, rfl⟩ := Int.eq_ofNat_of_zero_le h0
    have e : cs (numS (m : Int)) = (Nat.toDigits 10 m).map Char.toNat := PySem.W.KIN.signs_num m
    have hv : val (numS (m : Int)) = m := by omega
    have e2 := NumText.toDigits_all (cs (numS (m : Int))) hd.1
    have e3 : NumText.digitsVal (cs (numS (m : Int))) = m := hv
    rw [e3] at e2
    have el : (cs (numS (m : Int))).length = (Nat.toDigits 10 m).length := by rw [e, List.length_map]
    rw [e2] at el
    cases ec : cs (numS (m : Int)) with
    | nil => exact absurd ec hd.2
    | cons c r =>
      rw [ec] at el
      by_cases hc : c = 48
      · subst hc
        left
        have ed : (48 :: r).dropWhile (· == 48) = r.dropWhile (· == 48) := rfl
        rw [ed] at el
        have hle : (r.dropWhile (· == 48)).length ≤ r.length := (List.dropWhile_sublist _).length_le
        cases er : r.dropWhile (· == 48) with
        | nil =>
          rw [er] at el
          have : r.length = 0 := by simpa using el
          rw [List.eq_nil_of_length_eq_zero this]
        | cons x y =>
          rw [er] at el hle
          simp at el hle
          omega
      · right
        intro z
        exact hc (Option.some.inj z)
/-! ### a written text is read as its net -/
theorem num_plain {i : Int} (h0 : 0 ≤ i) (h1 : i ≤ 10000000) : ∀ c ∈ cs (numS i), 48 ≤ c ∧ c ≤ 57 := fun c hc => (num_dig h0 h1).1 c hc
theorem c_dash : cs "-" = [45] := by decide +kernel
theorem pt_plain {o : Option Int} (h : Small o) : ∀ c ∈ cs (ptS o), c = 45 ∨ (48 ≤ c ∧ c ≤ 57) := by
  cases o with
  | none =>
    intro c hc
    have e : cs (ptS none) = [45] := c_dash
    rw [e] at hc
    exact .inl (List.mem_singleton.mp hc)
  | some x => exact fun c hc => .inr (num_plain (h x rfl).1 (h x rfl).2 c hc)
theorem pt_B {o : Option Int} (h : Small o) : pB (ptS o) = true ∧ priceW (ptS o) = o := by
  cases o with
  | none =>
    have e : cs (ptS none) = [45] := c_dash
    constructor
    · unfold pB
      rw [decide_eq_true e]
      rfl
    · exact if_pos e
  | some x =>
    have hx := h x rfl
    constructor
    · unfold pB
      show (_ || numB (numS x)) = true
      rw [num_B hx.1 hx.2, Bool.or_true]
    · have ne : cs (ptS (some x)) ≠ [45] := fun z => by
        have := num_plain hx.1 hx.2 45 (by
          show 45 ∈ cs (ptS (some x))
          rw [z]
          exact List.mem_singleton.mpr rfl)
        omega
      unfold priceW
      rw [if_neg ne]
      show some ((val (numS x) : Nat) : Int) = some x
      rw [num_val hx.1 hx.2]
theorem joinL_nl (a : List Nat) : ∀ ls : List (List Nat), TL.joinL [10] (a :: (ls ++ [[]])) = a ++ [10] ++ (ls.map fun l => l ++ [10]).flatten := by
  intro ls
  induction ls generalizing a with
  | nil =>
    show a ++ ([10] ++ []) = _
    simp
  | cons b r ih =>
    show a ++ ([10] ++ TL.joinL [10] (b :: (r ++ [[]]))) = _
    rw [ih b, List.map_cons, List.flatten_cons]
    simp
theorem nl_tl : TL.tl ("\n" : Str) = 10 :: [] := by decide +kernel
theorem sp_tl : TL.tl (" " : Str) = 32 :: [] := by decide +kernel
/-- which signs a line may have -/
def PlainL (l : List Nat) : Prop := ∀ c ∈ l, c ≠ 10 ∧ c < 128
theorem PlainL.app {a b : List Nat} (ha : PlainL a) (hb : PlainL b) : PlainL (a ++ b) := fun c hc => by
  rcases List.mem_append.mp hc with h | h
  · exact ha c h
  · exact hb c h
theorem num_L {i : Int} (h0 : 0 ≤ i) (h1 : i ≤ 10000000) : PlainL (numC i) := fun c hc => by
  have := num_plain h0 h1 c hc
  omega
theorem pt_L {o : Option Int} (h : Small o) : PlainL (ptC o) := fun c hc => by
  have := pt_plain h c hc
  omega
theorem sp_L : PlainL [32] := fun c hc => by
  rw [List.mem_singleton.mp hc]
  decide
theorem pl_L : PlainL (cs "places") := by
  have : ∀ c ∈ cs "places", c ≠ 10 ∧ c < 128 := by decide +kernel
  exact this
structure LnkS (l : Lnk) : Prop where
  a0 : 0 ≤ l.a
  a1 : l.a ≤ 10000000
  b0 : 0 ≤ l.b
  b1 : l.b ≤ 10000000
  t : Small l.t
  k : Small l.k
theorem LnkS.of {n : Int} (hn : n ≤ 40) {l : Lnk} (h : LnkOk n l) : LnkS l := by
  have := h.a0
  have := h.ab
  have := h.bn
  exact ⟨by omega, by omega, by omega, by omega, Small.of h.t, Small.of h.k⟩
theorem line_L {l : Lnk} (h : LnkS l) : PlainL (lineC l) := by
  unfold lineC
  exact (((((num_L h.a0 h.a1).app sp_L).app (num_L h.b0 h.b1)).app sp_L).app (pt_L h.t)).app sp_L |>.app (pt_L h.k)
theorem head_L {n : Int} (h0 : 0 ≤ n) (h1 : n ≤ 10000000) : PlainL (headC n) := by
  unfold headC
  exact (pl_L.app sp_L).app (num_L h0 h1)
theorem no32 {i : Int} (h0 : 0 ≤ i) (h1 : i ≤ 10000000) : 32 ∉ TL.tl (numS i) := fun hc => by
  have := num_plain h0 h1 32 hc
  omega
theorem no32p {o : Option Int} (h : Small o) : 32 ∉ TL.tl (ptS o) := fun hc => by
  have := pt_plain h 32 hc
  omega
theorem words_line {l : Lnk} (h : LnkS l) : words (mkS (lineC l)) = [numS l.a, numS l.b, ptS l.t, ptS l.k] := by
  have e : mkS (lineC l) = Txt.join " " [numS l.a, numS l.b, ptS l.t, ptS l.k] := by
    refine str_ext ?_
    rw [cs_mk]
    have e1 : cs (Txt.join " " [numS l.a, numS l.b, ptS l.t, ptS l.k]) = TL.joinL (TL.tl " ") ([numS l.a, numS l.b, ptS l.t, ptS l.k].map TL.tl) := by
      rw [TL.join_eq]
      exact TL.tl_join " " _
    rw [e1, sp_tl]
    show lineC l = cs (numS l.a) ++ ([32] ++ (cs (numS l.b) ++ ([32] ++ (cs (ptS l.t) ++ ([32] ++ cs (ptS l.k))))))
    unfold lineC numC ptC
    simp only [List.append_assoc]
  unfold words
  rw [e]
  refine TL.split_join sp_tl (by decide +kernel) (List.cons_ne_nil _ _) fun p hp => ?_
  simp only [List.mem_cons, List.not_mem_nil, or_false] at hp
  rcases hp with rfl | rfl | rfl | rfl
  · exact no32 h.a0 h.a1
  · exact no32 h.b0 h.b1
  · exact no32p h.t
  · exact no32p h.k
theorem words_head {n : Int} (h0 : 0 ≤ n) (h1 : n ≤ 10000000) : words (mkS (headC n)) = [("places" : Str), numS n] := by
  have e : mkS (headC n) = Txt.join " " [("places" : Str), numS n] := by
    refine str_ext ?_
    rw [cs_mk]
    have e1 : cs (Txt.join " " [("places" : Str), numS n]) = TL.joinL (TL.tl " ") ([("places" : Str), numS n].map TL.tl) := by
      rw [TL.join_eq]
      exact TL.tl_join " " _
    rw [e1, sp_tl]
    show headC n = cs "places" ++ ([32] ++ cs (numS n))
    unfold headC numC
    simp only [List.append_assoc]
  unfold words
  rw [e]
  refine TL.split_join sp_tl (by decide +kernel) (List.cons_ne_nil _ _) fun p hp => ?_
  simp only [List.mem_cons, List.not_mem_nil, or_false] at hp
  rcases hp with rfl | rfl
  · decide +kernel
  · exact no32 h0 h1
theorem rows_text {N : Net} (h0 : 0 ≤ N.n) (h1 : N.n ≤ 10000000) (h : ∀ l ∈ N.ls, LnkS l) : rows (mkS (textC N)) = mkS (headC N.n) :: (N.ls.map (fun l => mkS (lineC l)) ++ [mkS []]) := by
  have e : mkS (textC N) = Txt.join "\n" (mkS (headC N.n) :: (N.ls.map (fun l => mkS (lineC l)) ++ [mkS []])) := by
    refine str_ext ?_
    rw [cs_mk]
    have e1 : cs (Txt.join "\n" (mkS (headC N.n) :: (N.ls.map (fun l => mkS (lineC l)) ++ [mkS []]))) = TL.joinL (TL.tl "\n") ((mkS (headC N.n) :: (N.ls.map (fun l => mkS (lineC l)) ++ [mkS []])).map TL.tl) := by
      rw [TL.join_eq]
      exact TL.tl_join "\n" _
    rw [e1, nl_tl, List.map_cons, List.map_append, List.map_map]
    have e2 : TL.tl (mkS (headC N.n)) = headC N.n := rfl
    have e3 : [mkS []].map TL.tl = [[]] := rfl
    have e4 : N.ls.map (TL.tl ∘ fun l => mkS (lineC l)) = N.ls.map lineC := rfl
    rw [e2, e3, e4, joinL_nl, List.map_map]
    rfl
  unfold rows
  rw [e]
  refine TL.split_join nl_tl (by decide +kernel) (List.cons_ne_nil _ _) fun p hp hc => ?_
  rcases List.mem_cons.mp hp with rfl | hp
  · exact (head_L h0 h1 10 hc).1 rfl
  · rcases List.mem_append.mp hp with hp | hp
    · obtain ⟨l, hl, rfl⟩ := List.mem_map.mp hp
      exact (line_L (h l hl) 10 hc).1 rfl
    · rw [List.mem_singleton.mp hp] at hc
      cases hc
theorem places_back {n : Int} (h1 : 1 ≤ n) (h40 : n ≤ 40) : placesR [("places" : Str), numS n] = .ok n := by
  have hv := num_val (i := n) (by omega) (by omega)
  show (if (decide (cs "places" = cs "places") && numB (numS n)) = true then (if 1 ≤ (val (numS n) : Int) ∧ (val (numS n) : Int) ≤ 40 then PR.ok (val (numS n)) else .bad .place) else .bad .line) = .ok n
  rw [num_B (by omega) (by omega), decide_eq_true rfl, hv, if_pos (show (true && true) = true from rfl), if_pos ⟨h1, h40⟩]
theorem link_back {n p q : Int} {l : Lnk} (hn : n ≤ 40) (h : LnkOk n l) (far : ¬ (l.a < p ∨ (l.a = p ∧ l.b ≤ q))) : linkR n p q [numS l.a, numS l.b, ptS l.t, ptS l.k] = .ok l := by
  have s := LnkS.of hn h
  have va := num_val s.a0 s.a1
  have vb := num_val s.b0 s.b1
  have ht := pt_B s.t
  have hk := pt_B s.k
  have h0 := h.a0
  have h1 := h.ab
  have h2 := h.bn
  show (if (numB (numS l.a) && (numB (numS l.b) && (pB (ptS l.t) && pB (ptS l.k)))) = true then (if n ≤ (val (numS l.a) : Int) ∨ n ≤ (val (numS l.b) : Int) then LR.bad .place else if (!priceB (priceW (ptS l.t)) || !priceB (priceW (ptS l.k))) = true then .bad .price
      else if (val (numS l.b) : Int) ≤ val (numS l.a) ∨ ((val (numS l.a) : Int) < p ∨ ((val (numS l.a) : Int) = p ∧ (val (numS l.b) : Int) ≤ q)) then .bad .order else .ok ⟨val (numS l.a), val (numS l.b), priceW (ptS l.t), priceW (ptS l.k)⟩) else .bad .line) = .ok l
  rw [num_B s.a0 s.a1, num_B s.b0 s.b1, ht.1, hk.1, if_pos (show (true && (true && (true && true))) = true from rfl), va, vb, ht.2, hk.2, priceB_ok h.t, priceB_ok h.k, if_neg (by omega), if_neg (by decide), if_neg (by omega)]
theorem rd_back {n : Int} (hn : n ≤ 40) : ∀ (ls : List Lnk) (p q : Int) (k : Nat) (acc : List Lnk), (∀ l ∈ ls, LnkOk n l) → ls.Pairwise LnkLt → (∀ l ∈ ls, ¬ (l.a < p ∨ (l.a = p ∧ l.b ≤ q))) → rdL n p q k (ls.map fun l => mkS (lineC l)) acc = .inr (acc ++ ls)
  | [], _, _, _, acc, _, _, _ => by
    show Sum.inr acc = _
    rw [List.append_nil]
  | l :: ls, p, q, k, acc, ok, lt, far => by
    have hl := ok l List.mem_cons_self
    have hlt := List.pairwise_cons.mp lt
    have e : linkR n p q (words (mkS (lineC l))) = .ok l := by
      rw [words_line (LnkS.of hn hl)]
      exact link_back hn hl (far l List.mem_cons_self)
    show (match linkR n p q (words (mkS (lineC l))) with
      | .bad kd => Sum.inl (kd, k)
      | .ok x => rdL n x.a x.b (k + 1) (ls.map fun l => mkS (lineC l)) (acc ++ [x])) = _
    rw [e]
    show rdL n l.a l.b (k + 1) (ls.map fun l => mkS (lineC l)) (acc ++ [l]) = _
    rw [rd_back hn ls l.a l.b (k + 1) (acc ++ [l]) (fun m hm => ok m (List.mem_cons_of_mem _ hm)) hlt.2 (fun m hm => by
      have := hlt.1 m hm
      unfold LnkLt at this
      omega), List.append_assoc]
    rfl
theorem text_back {N : Net} (ok : NetOk N) : textR (mkS (textC N)) = .inr N := by
  have n1 := ok.n1
  have n40 := ok.n40
  unfold textR
  rw [rows_text (by omega) (by omega) fun l hl => LnkS.of n40 (ok.ok l hl)]
  have e1 : (mkS (headC N.n) :: (N.ls.map (fun l => mkS (lineC l)) ++ [mkS []])).dropLast = mkS (headC N.n) :: N.ls.map (fun l => mkS (lineC l)) := by
    rw [← List.cons_append, List.dropLast_concat]
  have e2 : (mkS (headC N.n) :: (N.ls.map (fun l => mkS (lineC l)) ++ [mkS []])).getLast?.getD "" = mkS [] := by
    rw [← List.cons_append, List.getLast?_concat]
    rfl
  rw [e1, e2]
  show (match placesR (words (mkS (headC N.n))) with
    | .bad k => .inl (k, 0)
    | .ok n => match rdL n 0 0 1 (N.ls.map fun l => mkS (lineC l)) [] with
      | .inl f => .inl f
      | .inr ls => if cs (mkS []) = [] then .inr ⟨n, ls⟩ else .inl (.line, _)) = Sum.inr N
  rw [words_head (by omega) (by omega), places_back n1 n40]
  show (match rdL N.n 0 0 1 (N.ls.map fun l => mkS (lineC l)) [] with
      | .inl f => .inl f
      | .inr ls => if cs (mkS []) = [] then .inr ⟨N.n, ls⟩ else .inl (.line, _)) = Sum.inr N
  rw [rd_back n40 N.ls 0 0 1 [] ok.ok ok.lt (fun l hl => by
    have := (ok.ok l hl).a0
    have := (ok.ok l hl).ab
    omega)]
  rfl
theorem text_ascii {N : Net} (ok : NetOk N) : Ascii (mkS (textC N)) := by
  have n1 := ok.n1
  have n40 := ok.n40
  intro c hc
  rw [cs_mk] at hc
  unfold textC at hc
  rcases List.mem_append.mp hc with h | h
  · rcases List.mem_append.mp h with h | h
    · exact (head_L (by omega) (by omega) c h).2
    · rw [List.mem_singleton.mp h]
      decide
  · obtain ⟨p, hp, hc⟩ := List.mem_flatten.mp h
    obtain ⟨l, hl, rfl⟩ := List.mem_map.mp hp
    rcases List.mem_append.mp hc with h | h
    · exact (line_L (LnkS.of n40 (ok.ok l hl)) c h).2
    · rw [List.mem_singleton.mp h]
      decide
theorem flat_le {ws : List (List Nat)} {m : Nat} (h : ∀ u ∈ ws, u.length ≤ m) : ws.flatten.length ≤ ws.length * m := by
  induction ws with
  | nil => exact Nat.zero_le _
  | cons x r ih =>
    rw [List.flatten_cons, List.length_append, List.length_cons, Nat.succ_mul]
    have h1 := h x List.mem_cons_self
    have h2 := ih fun u hu => h u (List.mem_cons_of_mem _ hu)
    omega
theorem text_len {N : Net} (ok : NetOk N) : (mkS (textC N)).length ≤ 60 * N.ls.length + 60 := by
  have n1 := ok.n1
  have n40 := ok.n40
  rw [len_cs, cs_mk]
  unfold textC
  rw [List.length_append, List.length_append]
  have h1 : (headC N.n).length + [10].length ≤ 60 := by
    have := head_cs N.n
    have e : (headS N.n).length = (headC N.n ++ [10]).length := by rw [len_cs, head_cs]
    rw [List.length_append] at e
    have h := num_len (i := N.n) (by omega) (by omega)
    have : (headS N.n).length ≤ 60 := by
      unfold headS
      simp only [len_app]
      have e0 : Str.empty.length = 0 := rfl
      have e2 : ("\n" : Str).length = 1 := by decide +kernel
      have e3 : ("places " : Str).length = 7 := by decide +kernel
      omega
    omega
  have h2 := flat_le (ws := N.ls.map fun l => lineC l ++ [10]) (m := 60) (by
    intro u hu
    obtain ⟨l, hl, rfl⟩ := List.mem_map.mp hu
    rw [← line_cs, ← len_cs]
    exact line_len n40 (ok.ok l hl))
  rw [List.length_map] at h2
  omega
/-! ### the law's reading of a number -/
abbrev sLNum : Stmt := topS 29
theorem scLNum : FnScope ["word", "c", "total"] ["word"] (defScope sLNum) := ⟨rfl, rfl, rfl, by decide +kernel, rfl, by decide +kernel, by decide +kernel⟩
def numV (w : Str) : Option Int := if numB w = true then some (val w : Int) else none
def spLNum : Sp := fun vs H Q _ => ∃ w : Str, vs = [.str w] ∧ w.length ≤ 1000000 ∧ ∀ H', Same H H' → Q (oV (numV w)) H'
theorem digits_cs : ("0123456789" : Str).cps.toList = [48, 49, 50, 51, 52, 53, 54, 55, 56, 57] := by decide +kernel
theorem dig_mem (c : Nat) : decide (c ∈ ("0123456789" : Str).cps.toList) = digB c := by
  rw [digits_cs]
  unfold digB
  rw [Bool.eq_iff_iff, Bool.and_eq_true, decide_eq_true_eq, decide_eq_true_eq, decide_eq_true_eq]
  simp only [List.mem_cons, List.not_mem_nil, or_false]
  omega
theorem dig_index : ∀ c, c < 58 → 48 ≤ c → Txt.index0 "0123456789" ⟨#[c]⟩ = some (c - 48) := by decide +kernel
def badL (l : List Nat) : List Nat := l.filter fun c => !digB c
theorem bad_none {l : List Nat} : decide (0 < (badL l).length) = !l.all digB := by
  unfold badL
  induction l with
  | nil => rfl
  | cons c r ih =>
    rw [List.filter_cons, List.all_cons]
    cases h : digB c with
    | true => exact ih
    | false => exact decide_eq_true (Nat.succ_pos _)
theorem sign_at {w : Str} {i c : Nat} (h : w.cps[i]? = some c) : (cs w)[i]? = some c := by
  rw [Array.getElem?_toList]
  exact h
theorem ax_lenNew {K : PySem.W.Frag} {σ : L2.St} {H : Hp} {te : TE} {g : Int → Int → Bool} {n : Nat} {c : Int} (h : ∀ Q : VK, (∀ D H' acc, Same H H' → H' D = some (.lst acc) → acc.length = n → Q (.ref D) H') → te σ H Q) :
    Ax (tTest (tOp (rI0 fun i j => .bl (g i j)) (tCB (fun xs H Q => ∃ p ys, xs = [V.ref p] ∧ (SqL K H p ys ∨ SqT K H p ys) ∧ Q (V.int ys.length) H) (tCons te tNil)) (tC (.int c)))) σ H (g n c) := fun Q k =>
  h _ fun D H' acc s hD ha => ⟨D, acc, rfl, .inl (.of hD), (acc.length : Int), c, rfl, rfl, _, rfl, by
    rw [ha]
    exact k H' s⟩
theorem num_not {w : Str} : (decide ((w.length : Int) = 0) || (decide (0 < (badL (cs w)).length) || (decide ((1 : Int) < w.length) && decide ((cs w).head? = some 48)))) = !numB w := by
  rw [bad_none, len_cs]
  unfold numB numL
  generalize cs w = l
  cases l with
  | nil => rfl
  | cons c r =>
    rw [decide_eq_false (show ¬ (((c :: r).length : Nat) : Int) = 0 by rw [List.length_cons]; omega), Bool.false_or]
    have e0 : (c :: r).isEmpty = false := rfl
    rw [e0]
    cases (c :: r).all digB with
    | false => rfl
    | true =>
      cases r with
      | nil =>
        have e1 : decide ((1 : Int) < (([c] : List Nat).length : Nat)) = false := decide_eq_false (show ¬ ((1 : Int) < ((1 : Nat) : Int)) by decide)
        rw [e1]
        by_cases hc : c = 48
        · subst hc
          decide
        · rw [decide_eq_false (show ¬ ([c].head? = some 48) from fun z => hc (Option.some.inj z))]
          simp
      | cons d r =>
        have e1 : decide ((1 : Int) < (((c :: d :: r).length : Nat) : Int)) = true := decide_eq_true (by
          rw [List.length_cons, List.length_cons]
          omega)
        have e2 : decide (c :: d :: r = [48]) = false := decide_eq_false (by simp)
        rw [e1, e2]
        cases decide ((c :: d :: r).head? = some 48) <;> rfl
theorem lc_bad {w : Str} {y1 y2 : Option V} {H : Hp} {Q : VK} (hl : w.length ≤ 1000000) (k : ∀ D H' acc, Same H H' → H' D = some (.lst acc) → acc.length = (badL (cs w)).length → Q (.ref D) H') :
    tLc (iStr (tVar 0)) (gName 1) (tTest (tOp (fun x y H Q => ∃ (c : Nat) (z : Str), x = .str ⟨#[c]⟩ ∧ y = .str z ∧ Q (.bl (!decide (c ∈ z.cps.toList))) H) (tVar 1) (tC (.str "0123456789")))) (tVar 1) [1] [some (.str w), y1, y2] H Q := by
  refine ⟨.str w, rfl, w, rfl, fun D nD => lc_it walk_str (fun i H' => ∃ acc, H' D = some (.lst acc) ∧ Same H H' ∧ acc.length = (badL ((cs w).take i)).length) ⟨[], upd_same, same_upd nD, rfl⟩ (fun _ _ _ _ => trivial) (fun i x H1 H2 hi hP hY => ?_) (fun H1 hP => ?_)⟩
  · obtain ⟨acc, hD, s1, ha⟩ := hP
    obtain ⟨rfl, c, hc, rfl⟩ := hY
    refine ⟨rfl, .str ⟨#[c]⟩, rfl, c, _, rfl, rfl, _, rfl, ?_⟩
    rw [dig_mem]
    have e : badL ((cs w).take (i + 1)) = badL ((cs w).take i) ++ badL [c] := by
      rw [take_snoc (sign_at hc)]
      exact List.filter_append ..
    cases hd : digB c with
    | true =>
      refine iteF ⟨acc, hD, s1, ?_⟩
      have e2 : badL [c] = [] := by
        unfold badL
        rw [List.filter_cons, hd]
        rfl
      rw [e, e2, List.append_nil]
      exact ha
    | false =>
      have e2 : badL [c] = [c] := by
        unfold badL
        rw [List.filter_cons, hd]
        rfl
      refine iteT ⟨.str ⟨#[c]⟩, rfl, acc, hD, ?_, _, upd_same, same_upd' s1 nD, ?_⟩
      · have h1 : (badL ((cs w).take i)).length ≤ w.length := by
          rw [len_cs]
          exact Nat.le_trans (List.length_filter_le _ _) (by rw [List.length_take]; exact Nat.min_le_right _ _)
        exact Nat.lt_of_le_of_lt (m := 1000000) (by omega) (by decide)
      · rw [e, e2, List.length_append, List.length_append, ha]
        rfl
  · obtain ⟨acc, hD, s1, ha⟩ := hP
    rw [show (cs w).take w.cps.size = cs w from List.take_of_length_le (by
      rw [← len_cs]
      exact Nat.le_refl _)] at ha
    exact k D H1 acc s1 hD ha
section
variable {P : Program} {w : World} {K : PySem.W.Frag} {mg : Str → Option Value} {base : Heap}
theorem ok_lnum {f : Addr} {fd : FuncData} {k : Nat} (F : Fun K "_law_number" "_law_number" sLNum f fd) (ml : mg "len" = none) : FnOk P w K mg base CX0 (k + 1) f fd ["word"] spLNum := by
  refine F.ok scLNum (fun vs H Q E h => ?_) (fun cdv A outer s H vs Q E hr h => ?_)
  · obtain ⟨w, rfl, _⟩ := h
    rfl
  · obtain ⟨w, rfl, hl, q⟩ := h
    refine ⟨_, pss_cons (ps_if (PW.pt (pw_or (pt_cmpR op_eq (pe_callB call_len_str (by rfl) ml PySem.boot_len (pa_cons (pv 0) pa_nil)) pe_int (nomark _)) (pw_or (pt_cmpR op_gt (pe_callB call_len_seq (by rfl) ml PySem.boot_len (pa_cons (pe_lc (own := [("c", 1)]) (g := gName 1) (tt := (tTest (tOp (fun x y H Q => ∃ (c : Nat) (z : Str), x = .str ⟨#[c]⟩ ∧ y = .str z ∧ Q (.bl (!decide (c ∈ z.cps.toList))) H) (tVar 1) (tC (.str "0123456789"))))) (te := (tVar 1)) (by rfl) scLNum.nd (pi_str (pv 0)) (blkOk_by (own := [("c", 1)]) (N := ["word", "c", "total"]) (sc := defScope sLNum) (by decide +kernel)) (fun _ _ _ _ _ => pg_name (i := 1) scLNum.nd rfl (Or.inl rfl)) (fun _ _ _ _ _ => by exact (pts_one (pt_cmpR op_notIn_sign (pv 1) pe_str (by rfl)))) (fun _ _ _ _ _ => by exact (pv 1))) pa_nil)) pe_int (nomark _)) (pw_or1 (PW.pt (pw_and (pt_cmpR op_gt (pe_callB call_len_str (by rfl) ml PySem.boot_len (pa_cons (pv 0) pa_nil)) pe_int (nomark _)) (pw_and1 (pt_cmpR op_eq (pe_ix ix_str (pv 0) pe_int (fun _ _ => rfl)) pe_str (nomark _)))))))))
      (pss_one (ps_ret pe_non))
      pss_nil)
      (pss_cons (ps_set (i := 2) scLNum.nd rfl (.inl rfl) pe_int)
      (pss_cons (ps_for PassesOwn.never rfl (pi_str (pv 0)) (pg_name (i := 1) scLNum.nd rfl (.inl rfl))
      (pss_one (ps_set (i := 2) scLNum.nd rfl (.inl rfl) (pe_op op_add (pe_op op_mul pe_int (pv 2)) (pe_bmS PySem.F.plainAttrs_str PySem.F.slot_str_index PySem.F.type_str_index (mt_indexX rfl takes0) pe_str (pa_cons (pv 1) pa_nil))))))
      (pss_one (ps_ret (pv 2))))), ?_⟩
    have hsz : w.length ≤ sizeLine := Nat.le_trans hl (by decide)
    have el : w.length = (cs w).length := len_cs w
    have hlen : ∀ σ' H', σ'[0]? = some (some (V.str w)) → Vl (tCB (fun xs H Q => ∃ z : Str, xs = [.str z] ∧ z.length ≤ sizeLine ∧ Q (.int z.length) H) (tCons (tVar 0) tNil)) σ' H' (.int w.length) := fun σ' H' e => vl_cb (va_cons (vl_var e) va_nil) fun _ k => ⟨w, rfl, hsz, k⟩
    have hv1 : ∀ H', Vl (tOp rIxS (tVar 0) (tC (.int 0))) [some (.str w), none, none] H' (.str ⟨#[(cs w).headD 0]⟩) ∨ w.length = 0 := fun H' => by
      cases e : cs w with
      | nil =>
        right
        rw [el, e]
        rfl
      | cons c r =>
        left
        refine vl_op (vl_var rfl) vl_c fun Q k => ⟨w, 0, c, rfl, rfl, hsz, ?_, k⟩
        show atI (cs w) 0 = some c
        rw [e]
        exact atI_nat (j := 0) rfl
    refine q_whenx (b := decide ((w.length : Int) = 0) || (decide (0 < (badL (cs w)).length) || (decide ((1 : Int) < w.length) && decide ((cs w).head? = some 48)))) ?_ (fun hb H2 s2 => ?_) (fun hb H2 s2 => ?_)
    · refine ax_or (ax_of ((an_test (vl_eq (hlen _ _ rfl) vl_c rfl)).is ?_)) fun _ H1 s1 => ax_or ((ax_lenNew (n := (badL (cs w)).length) (g := fun i j => decide (j < i)) fun Q k => ?_).is ?_) fun hd H3 s3 => ax_of (an_and (an_test (vl_I0 (hlen _ _ rfl) vl_c)) fun h1 => ?_)
      · rw [Bool.eq_iff_iff, decide_eq_true_eq, decide_eq_true_eq]
        exact ⟨fun z => V.int.inj z, fun z => by rw [z]⟩
      · exact lc_bad hl k
      · show decide ((0 : Int) < ((badL (cs w)).length : Nat)) = _
        rw [Bool.eq_iff_iff, decide_eq_true_eq, decide_eq_true_eq]
        omega
      · rcases hv1 H3 with hv | hv
        · refine (an_test (vl_eq hv vl_c rfl)).is ?_
          have h1 := of_decide_eq_true h1
          rw [str_eq]
          cases e : cs w with
          | nil =>
            rw [el, e] at h1
            exact absurd h1 (by decide)
          | cons c r =>
            show decide ([c] = cs "0") = decide (some c = some 48)
            rw [show cs "0" = [48] by decide +kernel, Bool.eq_iff_iff, decide_eq_true_eq, decide_eq_true_eq]
            simp
        · have h1 := of_decide_eq_true h1
          omega
    · rw [num_not, Bool.not_eq_true'] at hb
      have e : numV w = none := if_neg (by rw [hb]; exact Bool.false_ne_true)
      have := q H2 s2
      rw [e] at this
      exact g_ret vl_c this
    · rw [num_not, Bool.not_eq_false'] at hb
      have e : numV w = some (val w : Int) := if_pos hb
      obtain ⟨_, hd, _⟩ := numL_len hb
      refine q_asg vl_c ?_
      refine ⟨.str w, rfl, w, rfl, for_it walk_str (fun i σ H' => ∃ y1, σ = [some (.str w), y1, some (.int (NumText.digitsVal ((cs w).take i) : Nat))] ∧ H' = H2) ⟨none, rfl, rfl⟩ (fun _ _ _ _ _ => trivial) (fun i x σ H3 H4 hi hP hY => ?_) (fun σ H3 hP => ?_)⟩
      · obtain ⟨y1, rfl, rfl⟩ := hP
        obtain ⟨rfl, c, hc, rfl⟩ := hY
        have hg := sign_at hc
        have hcd := hd c (List.mem_of_getElem? hg)
        have ei := dig_index c (by omega) hcd.1
        refine (vl_op (x := .int (10 * (NumText.digitsVal ((cs w).take i) : Nat))) (y := .int ((c - 48 : Nat) : Int)) (vl_I vl_c (vl_var rfl) (.inl ⟨by decide, by decide⟩)) ?_ fun Q k => ⟨_, _, rfl, rfl, k⟩) _ ?_
        · exact fun Q k => ⟨rfl, .str ⟨#[c]⟩, rfl, _, _, rfl, rfl, fun j hj => by
            cases ei.symm.trans hj
            exact k, fun hn => by
            cases ei.symm.trans hn⟩
        · refine ⟨some (.str ⟨#[c]⟩), ?_, rfl⟩
          have e2 : NumText.digitsVal ((cs w).take (i + 1)) = NumText.digitsVal ((cs w).take i) * 10 + (c - 48) := by
            rw [take_snoc hg]
            exact List.foldl_append ..
          rw [e2]
          have e3 : (10 * (NumText.digitsVal ((cs w).take i) : Nat) + ((c - 48 : Nat) : Int) : Int) = ((NumText.digitsVal ((cs w).take i) * 10 + (c - 48) : Nat) : Int) := by omega
          show [some (V.str w), some (V.str ⟨#[c]⟩), some (V.int (10 * (NumText.digitsVal ((cs w).take i) : Nat) + ((c - 48 : Nat) : Int)))] = _
          rw [e3]
      · obtain ⟨y1, rfl, rfl⟩ := hP
        refine g_ret (vl_var rfl) ?_
        have := q H3 s2
        rw [e] at this
        rw [show (cs w).take w.cps.size = cs w from List.take_of_length_le (by
          rw [← len_cs]
          exact Nat.le_refl _)]
        exact this
end
/-! ### values with a heap that grows on the way -/
def Ve (te : TE) (σ : L2.St) (H : Hp) (v : V) : Prop := ∀ Q : VK, (∀ H', Same H H' → Q v H') → te σ H Q
section
variable {K : PySem.W.Frag} {σ : L2.St} {H : Hp} {ta tb te tl : TE} {D : Ends} {tw : TS} {v x y z : V}
theorem ve_of (h : Vl te σ H v) : Ve te σ H v := fun Q q => h Q (q H (Same.refl H))
theorem Ve.is {w : V} (h : Ve te σ H v) (e : v = w) : Ve te σ H w := e ▸ h
theorem q_asgV {i : Nat} (h : Ve te σ H v) (k : ∀ H', Same H H' → tw D (σ.set i (some v)) H') : tSeq (tAsg te (gName i)) tw D σ H := h _ k
theorem g_asgV {i : Nat} (h : Ve te σ H v) (k : ∀ H', Same H H' → D.nx (σ.set i (some v)) H') : tAsg te (gName i) D σ H := h _ k
theorem g_retV (h : Ve te σ H v) (k : ∀ H', Same H H' → D.rt v H') : tRet te D σ H := h _ k
theorem ve_ixNew {xs : List V} {p : Int} (ha : Vn ta σ H xs) (hb : ∀ H', Same H H' → Vl tb σ H' (.int p)) (hg : atI xs p = some z) : Ve (tOp (rIxL K) ta tb) σ H z := fun Q k =>
  ha _ fun a H1 s1 np e => hb H1 s1 _ ⟨a, xs, p, z, rfl, rfl, .of e, hg, k H1 s1⟩
theorem vl_addS {a b : Str} (ha : Vl ta σ H (.str a)) (hb : Vl tb σ H (.str b)) (hz : a.length + b.length ≤ sizeLine) : Vl (tOp (fun x y H Q => ∃ i j, x = .str i ∧ y = .str j ∧ i.length + j.length ≤ sizeLine ∧ Q (.str (i ++ j)) H) ta tb) σ H (.str (a ++ b)) :=
  vl_op ha hb fun _ k => ⟨a, b, rfl, rfl, hz, k⟩
theorem ve_addS {a b : Str} (ha : Ve ta σ H (.str a)) (hb : ∀ H', Same H H' → Ve tb σ H' (.str b)) (hz : a.length + b.length ≤ sizeLine) : Ve (tOp (fun x y H Q => ∃ i j, x = .str i ∧ y = .str j ∧ i.length + j.length ≤ sizeLine ∧ Q (.str (i ++ j)) H) ta tb) σ H (.str (a ++ b)) :=
  fun Q k => ha _ fun H1 s1 => hb H1 s1 _ fun H2 s2 => ⟨a, b, rfl, rfl, hz, k H2 (s1.trans s2)⟩
theorem ve_join {ws : List Str} {sep : Str} (h : Vn te σ H (ws.map V.str)) (hz : (ws.map (·.length)).sum + ws.length * sep.length ≤ 16777216) :
    Ve (tM1 (fun x xs H Q => ∃ a p, ∃ ys : List Str, x = .str a ∧ xs = [.ref p] ∧ (SqL K H p (ys.map V.str) ∨ SqT K H p (ys.map V.str)) ∧ (ys.map (·.length)).sum + ys.length * a.length ≤ 16777216 ∧ Q (.str (Txt.join a ys)) H) (tC (.str sep)) te) σ H (.str (Txt.join sep ws)) :=
  fun Q k => ⟨⟨_, rfl⟩, h _ fun p H1 s1 np e => ⟨sep, p, ws, rfl, rfl, .inl (.of e), hz, k H1 s1⟩⟩
theorem vl_join {ws : List Str} {sep : Str} {a : Addr} (h : Vl te σ H (.ref a)) (hS : SqL K H a (ws.map V.str)) (hz : (ws.map (·.length)).sum + ws.length * sep.length ≤ 16777216) :
    Vl (tM1 (fun x xs H Q => ∃ a p, ∃ ys : List Str, x = .str a ∧ xs = [.ref p] ∧ (SqL K H p (ys.map V.str) ∨ SqT K H p (ys.map V.str)) ∧ (ys.map (·.length)).sum + ys.length * a.length ≤ 16777216 ∧ Q (.str (Txt.join a ys)) H) (tC (.str sep)) te) σ H (.str (Txt.join sep ws)) :=
  fun Q k => ⟨⟨_, rfl⟩, h _ ⟨sep, a, ws, rfl, rfl, .inl hS, hz, k⟩⟩
theorem vn_split {w : Str} {sep : Str} (h : Vl te σ H (.str w)) (hs : (sep.length == 0) = false) (hz : w.length + 2 ≤ sizeLine) :
    Vn (tM1 (fun x xs H Q => ∃ a b, x = .str a ∧ xs = [.str b] ∧ (b.length == 0) = false ∧ a.length + 2 ≤ sizeLine ∧ rNewStrs (Txt.split a b) H Q) te (tC (.str sep))) σ H ((Txt.split w sep).map V.str) := fun Q q =>
  h _ ⟨⟨_, rfl⟩, w, sep, rfl, rfl, hs, hz, fun p np => q p _ (same_upd np) np upd_same⟩
theorem vl_lenS {w : Str} (h : Vl te σ H (.str w)) (hz : w.length ≤ sizeLine) : Vl (tCB (fun xs H Q => ∃ z : Str, xs = [.str z] ∧ z.length ≤ sizeLine ∧ Q (.int z.length) H) (tCons te tNil)) σ H (.int w.length) := vl_cb (va_cons h va_nil) fun _ k => ⟨w, rfl, hz, k⟩
/-- [e for x in xs], the values told by ys -/
theorem vn_lc {j : Nat} {xs ys : List V} (hl : ∀ Q : VK, (∀ a H1, Same H H1 → SqL K H1 a xs → Q (.ref a) H1) → tl σ H Q) (hxy : xs.length = ys.length) (hz : ys.length ≤ 1000000)
    (he : ∀ (i : Nat) x y H', Same H H' → xs[i]? = some x → ys[i]? = some y → Ve te ((σ.set j none).set j (some x)) H' y) : Vn (tLc (iList K tl) (gName j) tYes te [j]) σ H ys := fun Q q => by
  refine hl _ fun a H1 s1 hx => ⟨a, rfl, ⟨xs, hx⟩, fun D nD => lc_list (xs := xs) (fun i H' => H' D = some (.lst (ys.take i)) ∧ Same H1 H') ⟨upd_same, same_upd nD⟩ (fun i H' _ hP => hP.2.seq hx) (fun i x H2 hi hP => ?_) (fun H2 hP => ?_)⟩
  · obtain ⟨hD, s2⟩ := hP
    have hi2 := (List.getElem?_eq_some_iff.mp hi).1
    have hy : ys[i]? = some ys[i] := List.getElem?_eq_getElem (by omega)
    refine ⟨?_, ?_⟩
    · show ((σ.set j none).set j (some x)).set j none = σ.set j none
      rw [List.set_set, List.set_set]
    · refine iteT (B := H2 D = some (.lst (ys.take (i + 1))) ∧ Same H1 H2) (he i x _ H2 (s1.trans s2) hi hy _ fun H3 s3 => ⟨_, s3 _ _ hD, ?_, ?_, ?_⟩)
      · exact Nat.lt_of_le_of_lt (m := 1000000) (Nat.le_trans (by rw [List.length_take]; exact Nat.min_le_right _ _) hz) (by decide)
      · rw [upd_same, take_snoc hy]
      · exact same_upd' (s2.trans s3) nD
  · obtain ⟨hD, s2⟩ := hP
    rw [hxy, List.take_length] at hD
    exact q D H2 (s1.trans s2) (Same.free s1 nD) hD
theorem vx_list {a : Addr} {xs : List V} (h : Vl tl σ H (.ref a)) (hx : SqL K H a xs) : ∀ Q : VK, (∀ a H1, Same H H1 → SqL K H1 a xs → Q (.ref a) H1) → tl σ H Q := fun Q q => h _ (q a H (Same.refl H) hx)
theorem vx_new {xs : List V} (h : Vn tl σ H xs) : ∀ Q : VK, (∀ a H1, Same H H1 → SqL K H1 a xs → Q (.ref a) H1) → tl σ H Q := fun Q q => h _ fun a H1 s1 _ e => q a H1 s1 (.of e)
end
/-- str of an int or None -/
theorem call_str_o {X : Cx} : CallR X (.type "str") (fun xs H Q => (∃ i, xs = [.int i] ∧ i.natAbs.log2 < 1920 ∧ Q (.str (toString i)) H) ∨ (xs = [.non] ∧ Q (.str "None") H)) := by
  intro pins s σ H xs us Q I r h
  rcases h with h | ⟨rfl, q⟩
  · exact call_str_int pins s σ H xs us Q I r h
  · obtain ⟨u, rfl, r1⟩ := vals1 r
    cases r1
    exact PySem.P.str_of_none ⟨.str _, H, I.tok _, ⟨_, rfl⟩, q⟩
theorem vl_strI {σ : L2.St} {H : Hp} {te : TE} {p : Int} (h : Vl te σ H (.int p)) (hl : p.natAbs.log2 < 1920) : Vl (tCB (fun xs H Q => ∃ i, xs = [V.int i] ∧ i.natAbs.log2 < 1920 ∧ Q (.str (toString i)) H) (tCons te tNil)) σ H (.str (numS p)) := vl_cb (va_cons h va_nil) fun _ k => ⟨p, rfl, hl, k⟩
theorem text_le {n : Int} {ls : List Lnk} (n1 : 1 ≤ n) (n40 : n ≤ 40) (ok : ∀ l ∈ ls, LnkOk n l) : (textC ⟨n, ls⟩).length ≤ 60 * ls.length + 60 := by
  unfold textC
  rw [List.length_append, List.length_append]
  have h1 : (headC n).length + [10].length ≤ 60 := by
    have e : (headS n).length = (headC n ++ [10]).length := by rw [len_cs, head_cs]
    rw [List.length_append] at e
    have h := num_len (i := n) (by omega) (by omega)
    have : (headS n).length ≤ 60 := by
      unfold headS
      simp only [len_app]
      have e0 : Str.empty.length = 0 := rfl
      have e2 : ("\n" : Str).length = 1 := by decide +kernel
      have e3 : ("places " : Str).length = 7 := by decide +kernel
      omega
    omega
  have h2 := flat_le (ws := ls.map fun l => lineC l ++ [10]) (m := 60) (by
    intro u hu
    obtain ⟨l, hl, rfl⟩ := List.mem_map.mp hu
    rw [← line_cs, ← len_cs]
    exact line_len n40 (ok l hl))
  rw [List.length_map] at h2
  show (headC n).length + [10].length + (ls.map fun l => lineC l ++ [10]).flatten.length ≤ _
  omega
theorem join_line (l : Lnk) : Txt.join " " [numS l.a, numS l.b, ptS l.t, ptS l.k] = mkS (lineC l) := by
  refine str_ext ?_
  rw [cs_mk]
  have e1 : cs (Txt.join " " [numS l.a, numS l.b, ptS l.t, ptS l.k]) = TL.joinL (TL.tl " ") ([numS l.a, numS l.b, ptS l.t, ptS l.k].map TL.tl) := by
    rw [TL.join_eq]
    exact TL.tl_join " " _
  rw [e1, sp_tl]
  show cs (numS l.a) ++ ([32] ++ (cs (numS l.b) ++ ([32] ++ (cs (ptS l.t) ++ ([32] ++ cs (ptS l.k)))))) = lineC l
  unfold lineC numC ptC
  simp only [List.append_assoc]
/-! ### the law's text of a net -/
abbrev sWritten : Stmt := topS 27
theorem scWritten : FnScope ["net", "text", "a", "b", "there", "back", "words", "value"] ["net"] (defScope sWritten) := ⟨rfl, rfl, rfl, by decide +kernel, rfl, by decide +kernel, by decide +kernel⟩
def spWritten (K : PySem.W.Frag) : Sp := fun vs H Q _ => ∃ (v : V) (N : Net), vs = [v] ∧ Dp K H v (netD N) ∧ NetOk N ∧ ∀ H', Same H H' → Q (.str (mkS (textC N))) H'
section
variable {P : Program} {w : World} {K : PySem.W.Frag} {mg : Str → Option Value} {base : Heap}
theorem ok_written {f : Addr} {fd : FuncData} {k : Nat} (F : Fun K "_law_written" "_law_written" sWritten f fd) (mi : mg "int" = none) (mS : mg "str" = none) : FnOk P w K mg base CX0 (k + 1) f fd ["net"] (spWritten K) := by
  refine F.ok scWritten (fun vs H Q E h => ?_) (fun cdv A outer s H vs Q E hr h => ?_)
  · obtain ⟨v, N, rfl, _⟩ := h
    rfl
  · obtain ⟨v, N, rfl, hN, ok, q⟩ := h
    refine ⟨_, pss_cons (ps_set (i := 1) scWritten.nd rfl (.inl rfl) (pe_op op_add_str (pe_op op_add_str pe_str (pe_callTy call_str_int (by rfl) mS (by decide +kernel) (pa_cons (pe_ix ix_tup (pv 0) pe_int (fun _ _ => rfl)) pa_nil))) pe_str))
      (pss_cons (ps_for PassesOwn.never rfl (pi_list (pe_ix ix_tup (pv 0) pe_int (fun _ _ => rfl))) (pg_tup rfl (pgs_cons (pg_name (i := 2) scWritten.nd rfl (.inl rfl)) (pgs_cons (pg_name (i := 3) scWritten.nd rfl (.inl rfl)) (pgs_cons (pg_name (i := 4) scWritten.nd rfl (.inl rfl)) (pgs_cons (pg_name (i := 5) scWritten.nd rfl (.inl rfl)) pgs_nil)))))
      (pss_cons (ps_set (i := 6) scWritten.nd rfl (.inl rfl) (pe_op op_cat (pe_lst (pa_cons (pe_callTy call_str_int (by rfl) mS (by decide +kernel) (pa_cons (pv 2) pa_nil)) (pa_cons (pe_callTy call_str_int (by rfl) mS (by decide +kernel) (pa_cons (pv 3) pa_nil)) pa_nil))) (pe_lc (own := [("value", 7)]) (g := gName 7) (tt := tYes) (te := (tOp (rIxL K) (tLst (tCons (tC (.str "-")) (tCons (tCB (fun xs H Q => (∃ i, xs = [V.int i] ∧ i.natAbs.log2 < 1920 ∧ Q (.str (toString i)) H) ∨ (xs = [V.non] ∧ Q (.str "None") H)) (tCons (tVar 7) tNil)) tNil))) (tCB (fun xs H Q => (∃ i, xs = [V.int i] ∧ Q (V.int i) H) ∨ ∃ k, xs = [V.bl k] ∧ Q (V.int (if k then 1 else 0)) H) (tCons (tOp (fun x y H Q => y = V.non ∧ Q (V.bl (!decide (x = V.non))) H) (tVar 7) (tC .non)) tNil)))) (by rfl) scWritten.nd (pi_list (pe_lst (pa_cons (pv 4) (pa_cons (pv 5) pa_nil)))) (blkOk_by (own := [("value", 7)]) (N := ["net", "text", "a", "b", "there", "back", "words", "value"]) (sc := defScope sWritten) (by decide +kernel)) (fun _ _ _ _ _ => pg_name (i := 7) scWritten.nd rfl (Or.inl rfl)) (fun _ _ _ _ _ => by exact pts_nil) (fun _ _ _ _ _ => by exact (pe_ix ix_list (pe_lst (pa_cons pe_str (pa_cons (pe_callTy call_str_o (by rfl) mS (by decide +kernel) (pa_cons (pv 7) pa_nil)) pa_nil))) (pe_callTy call_int1 (by rfl) mi (by decide +kernel) (pa_cons (pe_cmpR op_notN (pv 7) pe_non (nomark _)) pa_nil)) (fun _ _ => rfl))))))
        (pss_one (ps_set (i := 1) scWritten.nd rfl (.inl rfl) (pe_op op_add_str (pe_op op_add_str (pv 1) (pe_join pe_str (pv 6))) pe_str)))))
      (pss_one (ps_ret (pv 1)))), ?_⟩
    obtain ⟨p, c, xs, rfl, hp, hc, hx⟩ := Dp.net_inv hN
    have n1 := ok.n1
    have n40 := ok.n40
    have l16 := ok.len
    have small : ∀ n : Nat, n ≤ 1000000 → n ≤ sizeLine := fun n h => Nat.le_trans h (by decide)
    have hnl := num_len (i := N.n) (by omega) (by omega)
    have e1 : (" " : Str).length = 1 := by decide +kernel
    have e2 : ("\n" : Str).length = 1 := by decide +kernel
    have e3 : ("places " : Str).length = 7 := by decide +kernel
    refine q_asg (v := .str (mkS (textC ⟨N.n, []⟩))) ((vl_addS (vl_addS vl_c (vl_strI (vl_ixT (vl_var rfl) vl_c hp (atI_nat (j := 0) rfl)) (num_log (by omega) (by omega))) ?_) vl_c ?_).is ?_) ?_
    · exact small _ (by omega)
    · exact small _ (by rw [len_app]; omega)
    · congr 1
      refine str_ext ?_
      rw [cs_app, cs_app, c_nl, c_pl, cs_mk]
      unfold textC headC numC
      rw [List.map_nil, List.flatten_nil, List.append_nil]
    refine q_forLnk (j1 := 2) (j2 := 3) (j3 := 4) (j4 := 5) (Hb := H) (vl_ixT (vl_var rfl) vl_c hp (atI_nat (j := 1) rfl)) hc hx (Same.refl H)
      (fun i σ H3 => ∃ y2 y3 y4 y5 y6 y7, σ = [some (.ref p), some (.str (mkS (textC ⟨N.n, N.ls.take i⟩))), y2, y3, y4, y5, y6, y7] ∧ Same H H3)
      ⟨none, none, none, none, none, none, rfl, Same.refl H⟩ (fun i σ H3 hP => ?_) (fun i l σ H3 hl hP => ?_) (fun σ H3 hP => ?_)
    · obtain ⟨_, _, _, _, _, _, _, s3⟩ := hP
      exact s3
    · obtain ⟨y2, y3, y4, y5, y6, y7, rfl, s3⟩ := hP
      have hi := (List.getElem?_eq_some_iff.mp hl).1
      have h := ok.ok l (List.mem_of_getElem? hl)
      have hS := LnkS.of n40 h
      have h1 := num_len hS.a0 hS.a1
      have h2 := num_len hS.b0 hS.b1
      have h3 := pt_len hS.t
      have h4 := pt_len hS.k
      have ht := text_le n1 n40 (ls := N.ls.take i) fun m hm => ok.ok m (List.mem_of_mem_take hm)
      have hti : (N.ls.take i).length ≤ 1600 := by
        rw [List.length_take]
        omega
      refine q_asgN (xs := [numS l.a, numS l.b, ptS l.t, ptS l.k].map V.str) (vn_cat (xs := [.str (numS l.a), .str (numS l.b)]) (ys := [.str (ptS l.t), .str (ptS l.k)]) (vn_lst (va_cons (vl_strI (vl_var rfl) (num_log hS.a0 hS.a1)) (va_cons (vl_strI (vl_var rfl) (num_log hS.b0 hS.b1)) va_nil)) (small 2 (by decide)))
        (fun H' s' => vn_lc (xs := [oV l.t, oV l.k]) (vx_new (vn_lst (va_cons (vl_var rfl) (va_cons (vl_var rfl) va_nil)) (small 2 (by decide)))) rfl (show 2 ≤ 1000000 by decide) fun i x y H2 s2 hxx hyy => ?_) (small 4 (by decide))) fun o H4 s4 no eo => ?_
      · obtain ⟨o, ho, rfl, rfl⟩ : ∃ o : Option Int, Small o ∧ x = oV o ∧ y = .str (ptS o) := by
          match i, hxx, hyy with
          | 0, hxx, hyy => exact ⟨l.t, hS.t, (Option.some.inj hxx).symm, (Option.some.inj hyy).symm⟩
          | 1, hxx, hyy => exact ⟨l.k, hS.k, (Option.some.inj hxx).symm, (Option.some.inj hyy).symm⟩
        cases o with
        | none =>
          exact ve_ixNew (xs := [.str "-", .str "None"]) (p := 0) (vn_lst (va_cons vl_c (va_cons (vl_cb (va_cons (vl_var rfl) va_nil) fun _ k => .inr ⟨rfl, k⟩) va_nil)) (small 2 (by decide))) (fun H' s' => (vl_int1b (k := false) ((vl_notN (vl_var rfl)).is rfl)).is rfl) (atI_nat (j := 0) rfl)
        | some z =>
          exact ve_ixNew (xs := [.str "-", .str (numS z)]) (p := 1) (vn_lst (va_cons vl_c (va_cons (vl_cb (va_cons (vl_var rfl) va_nil) fun _ k => .inl ⟨z, rfl, num_log (ho z rfl).1 (ho z rfl).2, k⟩) va_nil)) (small 2 (by decide))) (fun H' s' => (vl_int1b (k := true) ((vl_notN (vl_var rfl)).is rfl)).is rfl) (atI_nat (j := 1) rfl)
      · have hj : (mkS (lineC l)).length ≤ 60 := by
          have := line_len n40 h
          rw [len_cs, line_cs, List.length_append] at this
          rw [len_cs, cs_mk]
          omega
        have ht2 : (mkS (textC ⟨N.n, N.ls.take i⟩)).length ≤ 100000 := by
          rw [len_cs, cs_mk]
          omega
        refine g_asg (v := .str (mkS (textC ⟨N.n, N.ls.take (i + 1)⟩))) ((vl_addS (vl_addS (vl_var rfl) ((vl_join (ws := [numS l.a, numS l.b, ptS l.t, ptS l.k]) (sep := " ") (vl_var rfl) (.of eo) ?_).is (by rw [join_line])) ?_) vl_c ?_).is ?_) ?_
        · show (numS l.a).length + ((numS l.b).length + ((ptS l.t).length + ((ptS l.k).length + 0))) + 4 * (" " : Str).length ≤ 16777216
          omega
        · exact small _ (by omega)
        · exact small _ (by rw [len_app]; omega)
        · congr 1
          refine str_ext ?_
          rw [cs_app, cs_app, c_nl, cs_mk, cs_mk, cs_mk]
          unfold textC
          rw [take_snoc hl, List.map_append, List.flatten_append, List.map_singleton, List.flatten_singleton]
          simp only [List.append_assoc]
        · exact ⟨_, _, _, _, _, _, rfl, s3.trans s4⟩
    · obtain ⟨y2, y3, y4, y5, y6, y7, rfl, s3⟩ := hP
      rw [List.take_length]
      exact g_ret (vl_var rfl) (q H3 s3)
end
/-! ### a text spoilt -/
theorem cutS_mem {z : Str} {lo hi : Option Int} {c : Nat} (h : c ∈ cs (cutS z lo hi)) : c ∈ cs z := by
  have e : cs (cutS z lo hi) = ((cs z).drop (HT.sIx z.length 0 lo)).take (HT.sIx z.length z.length hi - HT.sIx z.length 0 lo) := rfl
  rw [e] at h
  exact List.mem_of_mem_drop (List.mem_of_mem_take h)
theorem Ascii.cut {z : Str} {lo hi : Option Int} (h : Ascii z) : Ascii (cutS z lo hi) := fun c hc => h c (cutS_mem hc)
theorem Ascii.app {a b : Str} (ha : Ascii a) (hb : Ascii b) : Ascii (a ++ b) := fun c hc => by
  rw [cs_app] at hc
  rcases List.mem_append.mp hc with h | h
  · exact ha c h
  · exact hb c h
def cutR (rs : List Str) (lo hi : Option Int) : List Str := (rs.drop (HT.sIx rs.length 0 lo)).take (HT.sIx rs.length rs.length hi - HT.sIx rs.length 0 lo)
theorem cutR_eq {rs : List Str} {lo hi : Option Int} : cutV (rs.map V.str) lo hi = (cutR rs lo hi).map V.str := by
  unfold cutR cutV
  rw [List.length_map, List.map_take, List.map_drop]
theorem cutR_mem {rs : List Str} {lo hi : Option Int} {u : Str} (h : u ∈ cutR rs lo hi) : u ∈ rs := List.mem_of_mem_drop (List.mem_of_mem_take h)
def wt (rs : List Str) : Nat := (rs.map (fun u => u.length + 1)).sum
theorem wt_app (a b : List Str) : wt (a ++ b) = wt a + wt b := by
  unfold wt
  rw [List.map_append, List.sum_append]
theorem wt_take {rs : List Str} {n : Nat} : wt (rs.take n) ≤ wt rs := by
  have := wt_app (rs.take n) (rs.drop n)
  rw [List.take_append_drop] at this
  omega
theorem wt_drop {rs : List Str} {n : Nat} : wt (rs.drop n) ≤ wt rs := by
  have := wt_app (rs.take n) (rs.drop n)
  rw [List.take_append_drop] at this
  omega
theorem wt_cut {rs : List Str} {lo hi : Option Int} : wt (cutR rs lo hi) ≤ wt rs := Nat.le_trans wt_take wt_drop
theorem wt_mem {rs : List Str} {u : Str} (h : u ∈ rs) : u.length + 1 ≤ wt rs := by
  induction rs with
  | nil => cases h
  | cons x r ih =>
    show _ ≤ (x.length + 1) + wt r
    rcases List.mem_cons.mp h with h | h
    · rw [h]
      exact Nat.le_add_right _ _
    · exact Nat.le_trans (ih h) (Nat.le_add_left _ _)
theorem wt_len {rs : List Str} : rs.length ≤ wt rs := by
  induction rs with
  | nil => exact Nat.zero_le _
  | cons x r ih =>
    show r.length + 1 ≤ (x.length + 1) + wt r
    omega
theorem wt_sum {rs : List Str} : (rs.map (·.length)).sum + rs.length * 1 = wt rs := by
  induction rs with
  | nil => rfl
  | cons x r ih =>
    show (x.length + (r.map (·.length)).sum) + (r.length + 1) * 1 = (x.length + 1) + wt r
    omega
theorem spl_wt {s : Nat} : ∀ (n : Nat) (acc l : List Nat), l.length ≤ n → ((TL.spl [s] 0 acc l).map (fun p => p.length + 1)).sum = acc.length + l.length + 1
  | n, acc, [], _ => by
    rw [TL.spl_nil]
    rfl
  | 0, acc, x :: l, hn => absurd hn (Nat.not_succ_le_zero _)
  | n + 1, acc, x :: l, hn => by
    have hl : l.length ≤ n := Nat.le_of_succ_le_succ hn
    cases e : TL.pre [s] (x :: l) with
    | true =>
      rw [TL.spl_hit e]
      have ih := spl_wt (s := s) n [] l hl
      show (acc.length + 1) + ((TL.spl [s] 0 [] l).map (fun p => p.length + 1)).sum = _
      rw [ih, List.length_cons, List.length_nil]
      omega
    | false =>
      rw [TL.spl_miss e, spl_wt (s := s) n (acc ++ [x]) l hl]
      simp only [List.length_append, List.length_cons, List.length_nil]
      omega
theorem wt_rows (w : Str) : wt (rows w) = w.length + 1 := by
  have e := TL.split_spl w "\n" (by rw [nl_tl]; simp) (TL.kind_ok (by decide +kernel))
  have h := spl_wt (s := 10) (TL.tl w).length [] (TL.tl w) (Nat.le_refl _)
  rw [← nl_tl, ← e, List.map_map] at h
  have hw : (TL.tl w).length = w.length := Array.length_toList
  have e2 : (fun p => p.length + 1) ∘ TL.tl = fun u : Str => u.length + 1 := by
    funext u
    show (TL.tl u).length + 1 = u.length + 1
    rw [← TL.len_tl]
  rw [e2, hw] at h
  show ((Txt.split w "\n").map fun u => u.length + 1).sum = _
  rw [h, List.length_nil]
  omega
theorem joinL_mem {S : List Nat} {c : Nat} : ∀ {ps : List (List Nat)}, c ∈ TL.joinL S ps → c ∈ S ∨ ∃ p ∈ ps, c ∈ p
  | [], h => nomatch h
  | [p], h => .inr ⟨p, List.mem_cons_self, h⟩
  | p :: q :: r, h => by
    have h : c ∈ p ++ (S ++ TL.joinL S (q :: r)) := h
    rcases List.mem_append.mp h with h | h
    · exact .inr ⟨p, List.mem_cons_self, h⟩
    · rcases List.mem_append.mp h with h | h
      · exact .inl h
      · rcases joinL_mem h with h | ⟨x, hx, h⟩
        · exact .inl h
        · exact .inr ⟨x, List.mem_cons_of_mem _ hx, h⟩
theorem joinL_len {s : Nat} : ∀ ps : List (List Nat), (TL.joinL [s] ps).length ≤ (ps.map (fun p => p.length + 1)).sum
  | [] => Nat.le_refl _
  | [p] => by
    show p.length ≤ (p.length + 1) + 0
    omega
  | p :: q :: r => by
    have ih := joinL_len (s := s) (q :: r)
    show (p ++ ([s] ++ TL.joinL [s] (q :: r))).length ≤ (p.length + 1) + ((q :: r).map (fun p => p.length + 1)).sum
    rw [List.length_append, List.length_append]
    show p.length + (1 + _) ≤ _
    omega
theorem join_cs (ws : List Str) : cs (Txt.join "\n" ws) = TL.joinL [10] (ws.map TL.tl) := by
  rw [← nl_tl, TL.join_eq]
  exact TL.tl_join "\n" _
theorem join_ascii {ws : List Str} (h : ∀ u ∈ ws, Ascii u) : Ascii (Txt.join "\n" ws) := fun c hc => by
  rw [join_cs] at hc
  rcases joinL_mem hc with h1 | ⟨p, hp, hc⟩
  · rw [List.mem_singleton.mp h1]
    decide
  · obtain ⟨u, hu, rfl⟩ := List.mem_map.mp hp
    exact h u hu c hc
theorem join_len {ws : List Str} : (Txt.join "\n" ws).length ≤ wt ws := by
  rw [len_cs, join_cs]
  refine Nat.le_trans (joinL_len _) ?_
  rw [List.map_map]
  have e2 : (fun p => p.length + 1) ∘ TL.tl = fun u : Str => u.length + 1 := by
    funext u
    show (TL.tl u).length + 1 = u.length + 1
    rw [← TL.len_tl]
  rw [e2]
  exact Nat.le_refl _
section
variable {K : PySem.W.Frag} {σ : L2.St} {H : Hp} {te : TE} {D : Ends} {tz tw : TS} {P : Int → Prop}
theorem q_forRI {j : Nat} (h : Vi te σ H P) (hb : ∀ n, P n → -(2 ^ 62) ≤ n ∧ n < 2 ^ 62) (Pv : Nat → L2.St → Hp → Prop) (h0 : Pv 0 σ H)
    (hs : ∀ n, P n → ∀ (i : Nat) σ H, (i : Int) < n → Pv i σ H → tz { D with nx := Pv (i + 1), ct := Pv (i + 1), bk := tw D } (σ.set j (some (.int i))) H) (hd : ∀ n, P n → ∀ σ H, Pv n.toNat σ H → tw D σ H) :
    tSeq (tFor (iRng1 (tCons te tNil)) (gName j) tz) tw D σ H := h _ fun n hn => ⟨n, rfl, (hb n hn).1, (hb n hn).2, for_range (lo := 0) (n := n.toNat) Pv h0 (fun i σ H hi p => by
      show tz _ (σ.set j (some (.int (0 + i)))) H
      rw [Int.zero_add]
      exact hs n hn i σ H (by omega) p) (hd n hn)⟩
theorem vl_cutS {w : Str} {tl th : TO} {lo hi : Option Int} (h : Vl te σ H (.str w)) (hl : ∀ Q : Option Int → Hp → Prop, Q lo H → tl σ H Q) (hh : ∀ Q : Option Int → Hp → Prop, Q hi H → th σ H Q) (hz : w.length ≤ sizeLine) : Vl (tSl rSlS te tl th) σ H (.str (cutS w lo hi)) := fun Q q =>
  h _ (hl _ (hh _ ⟨w, rfl, hz, q⟩))
theorem po_none' : ∀ Q : Option Int → Hp → Prop, Q none H → tNoPart σ H Q := fun _ q => q
theorem po_int {n : Int} (h : Vl te σ H (.int n)) : ∀ Q : Option Int → Hp → Prop, Q (some n) H → tPart te σ H Q := fun Q q => h _ ⟨n, rfl, q⟩
theorem vn_cutR {rs : List Str} {a : Addr} {tl th : TO} {lo hi : Option Int} (h : Vl te σ H (.ref a)) (hl : ∀ Q : Option Int → Hp → Prop, Q lo H → tl σ H Q) (hh : ∀ Q : Option Int → Hp → Prop, Q hi H → th σ H Q) (hx : SqL K H a (rs.map V.str)) : Vn (tSl (rSlL K) te tl th) σ H ((cutR rs lo hi).map V.str) := by
  rw [← cutR_eq]
  exact vn_slice h hl hh hx
theorem vn_catR {ta tb : TE} {xs ys : List Str} (ha : Vn ta σ H (xs.map V.str)) (hb : ∀ H', Same H H' → Vn tb σ H' (ys.map V.str)) (hz : xs.length + ys.length ≤ 10000000) : Vn (tOp rCat ta tb) σ H ((xs ++ ys).map V.str) := by
  rw [List.map_append]
  exact vn_cat ha hb (by
    rw [List.length_map, List.length_map]
    exact Nat.le_trans hz (by decide))
end
abbrev sSpoilS : Stmt := topS 28
theorem scSpoilS : FnScope ["draws", "text", "turn", "word", "place", "sign", "lines", "which"] ["draws", "text"] (defScope sSpoilS) := ⟨rfl, rfl, rfl, by decide +kernel, rfl, by decide +kernel, by decide +kernel⟩
def spSpoilS (K : PySem.W.Frag) : Sp := fun vs H Q _ => ∃ (d : Addr) (ds : List Int) (w : Str), vs = [.ref d, .str w] ∧ SqL K H d (ds.map V.int) ∧ Ascii w ∧ w.length ≤ 96060 ∧ ∀ H' u, Same H H' → Ascii u → u.length ≤ 900000 → Q (.str u) H'
theorem sign_some {r : Int} (h0 : 0 ≤ r) (h1 : r < 10) : ∃ c, atI (" \n-0129xp+" : Str).cps.toList r = some c ∧ c < 128 := by
  have e : (" \n-0129xp+" : Str).cps.toList = [32, 10, 45, 48, 49, 50, 57, 120, 112, 43] := by decide +kernel
  rw [e]
  obtain ⟨m, rfl⟩ := Int.eq_ofNat_of_zero_le h0
  have hm : m < 10 := by omega
  have g : [32, 10, 45, 48, 49, 50, 57, 120, 112, 43][m]? = some ([32, 10, 45, 48, 49, 50, 57, 120, 112, 43][m]'hm) := List.getElem?_eq_getElem hm
  refine ⟨_, atI_nat g, ?_⟩
  have : ∀ x ∈ [32, 10, 45, 48, 49, 50, 57, 120, 112, 43], x < 128 := by decide
  exact this _ (List.getElem_mem hm)
section
variable {P : Program} {w : World} {K : PySem.W.Frag} {mg : Str → Option Value} {base : Heap}
theorem ok_spoilS {f : Addr} {fd : FuncData} (F : Fun K "_law_spoilt" "_law_spoilt" sSpoilS f fd) (c_law_at : Kal P w K mg base 1 "_law_at" ["draws", "k", "many"] (spAt K)) (ml : mg "len" = none) (mr : mg "range" = none) : FnOk P w K mg base CX0 2 f fd ["draws", "text"] (spSpoilS K) := by
  refine F.ok scSpoilS (fun vs H Q E h => ?_) (fun cdv A outer s H vs Q E hr h => ?_)
  · obtain ⟨d, ds, w, rfl, _⟩ := h
    rfl
  · obtain ⟨d, ds, w, rfl, hS, hw, hl, q⟩ := h
    refine ⟨_, pss_cons (ps_for PassesOwn.never rfl (pi_range1 (by rfl) mr (pa_cons (pe_k c_law_at hr (by decide) (by rfl) (pa_cons (pv 0) (pa_cons pe_int (pa_cons pe_int pa_nil)))) pa_nil)) (pg_name (i := 2) scSpoilS.nd rfl (.inl rfl))
      (pss_cons (ps_set (i := 3) scSpoilS.nd rfl (.inl rfl) (pe_k c_law_at hr (by decide) (by rfl) (pa_cons (pv 0) (pa_cons (pe_op op_add pe_int (pe_op op_mul pe_int (pv 2))) (pa_cons pe_int pa_nil)))))
        (pss_cons (ps_set (i := 4) scSpoilS.nd rfl (.inl rfl) (pe_k c_law_at hr (by decide) (by rfl) (pa_cons (pv 0) (pa_cons (pe_op op_add pe_int (pe_op op_mul pe_int (pv 2))) (pa_cons (pe_op op_add (pe_callB call_len_str (by rfl) ml PySem.boot_len (pa_cons (pv 1) pa_nil)) pe_int) pa_nil)))))
        (pss_cons (ps_set (i := 5) scSpoilS.nd rfl (.inl rfl) (pe_ix ix_str pe_str (pe_k c_law_at hr (by decide) (by rfl) (pa_cons (pv 0) (pa_cons (pe_op op_add pe_int (pe_op op_mul pe_int (pv 2))) (pa_cons pe_int pa_nil)))) (fun _ _ => rfl)))
        (pss_cons (ps_set (i := 6) scSpoilS.nd rfl (.inl rfl) (pe_split (pv 1) pe_str))
        (pss_cons (ps_set (i := 7) scSpoilS.nd rfl (.inl rfl) (pe_k c_law_at hr (by decide) (by rfl) (pa_cons (pv 0) (pa_cons (pe_op op_add pe_int (pe_op op_mul pe_int (pv 2))) (pa_cons (pe_callB call_len_seq (by rfl) ml PySem.boot_len (pa_cons (pv 6) pa_nil)) pa_nil)))))
        (pss_one (ps_if (pt_cmpR op_eq (pv 3) pe_int (nomark _))
        (pss_one (ps_set (i := 1) scSpoilS.nd rfl (.inl rfl) (pe_op op_add_str (pe_op op_add_str (pe_slice sl_str (pv 1) po_none (po_some (pv 4))) (pv 5)) (pe_slice sl_str (pv 1) (po_some (pv 4)) po_none))))
        (pss_one (ps_if (pt_cmpR op_eq (pv 3) pe_int (nomark _))
          (pss_one (ps_set (i := 1) scSpoilS.nd rfl (.inl rfl) (pe_op op_add_str (pe_slice sl_str (pv 1) po_none (po_some (pv 4))) (pe_slice sl_str (pv 1) (po_some (pe_op op_add (pv 4) pe_int)) po_none))))
          (pss_one (ps_if (pt_cmpR op_eq (pv 3) pe_int (nomark _))
            (pss_one (ps_set (i := 1) scSpoilS.nd rfl (.inl rfl) (pe_op op_add_str (pe_op op_add_str (pe_slice sl_str (pv 1) po_none (po_some (pv 4))) (pv 5)) (pe_slice sl_str (pv 1) (po_some (pe_op op_add (pv 4) pe_int)) po_none))))
            (pss_one (ps_if (pt_cmpR op_eq (pv 3) pe_int (nomark _))
              (pss_one (ps_set (i := 1) scSpoilS.nd rfl (.inl rfl) (pe_join pe_str (pe_op op_cat (pe_slice sl_list (pv 6) po_none (po_some (pv 7))) (pe_slice sl_list (pv 6) (po_some (pe_op op_add (pv 7) pe_int)) po_none)))))
              (pss_one (ps_if (pt_cmpR op_eq (pv 3) pe_int (nomark _))
                (pss_one (ps_set (i := 1) scSpoilS.nd rfl (.inl rfl) (pe_join pe_str (pe_op op_cat (pe_op op_cat (pe_slice sl_list (pv 6) po_none (po_some (pv 7))) (pe_lst (pa_cons (pe_ix ix_list (pv 6) (pv 7) (fun _ _ => rfl)) pa_nil))) (pe_slice sl_list (pv 6) (po_some (pv 7)) po_none)))))
                (pss_one (ps_if (pt_cmpR op_eq (pv 3) pe_int (nomark _))
                  (pss_one (ps_set (i := 1) scSpoilS.nd rfl (.inl rfl) (pe_join pe_str (pe_op op_cat (pe_op op_cat (pe_slice sl_list (pv 6) po_none (po_some (pv 7))) (pe_slice sl_list (pv 6) (po_some (pe_op op_add (pv 7) pe_int)) po_none)) (pe_lst (pa_cons (pe_ix ix_list (pv 6) (pv 7) (fun _ _ => rfl)) pa_nil))))))
                  (pss_one (ps_set (i := 1) scSpoilS.nd rfl (.inl rfl) (pe_slice sl_str (pv 1) po_none (po_some (pv 4)))))))))))))))))))))))
      (pss_one (ps_ret (pv 1))), ?_⟩
    have small : ∀ n : Nat, n ≤ 10000000 → n ≤ sizeLine := fun n h => Nat.le_trans h (by decide)
    refine q_forRI (P := fun r => 0 ≤ r ∧ r < 3) (vi_call (va_cons (vl_var rfl) (va_cons vl_c (va_cons vl_c va_nil))) fun Q E q => ⟨d, ds, 0, 3, rfl, hS, by decide, by decide, q⟩) (fun n hn => ⟨by omega, by omega⟩)
      (fun i σ H3 => ∃ u y2 y3 y4 y5 y6 y7, σ = [some (.ref d), some (.str u), y2, y3, y4, y5, y6, y7] ∧ Same H H3 ∧ Ascii u ∧ u.length + 100 ≤ 96160 * 3 ^ i)
      ⟨w, none, none, none, none, none, none, rfl, Same.refl H, hw, by
        rw [Nat.pow_zero, Nat.mul_one]
        omega⟩ (fun n hn i σ H3 hi hP => ?_) (fun n hn σ H3 hP => ?_)
    · obtain ⟨u, y2, y3, y4, y5, y6, y7, rfl, s3, hu, hul⟩ := hP
      have hS3 := s3.seq hS
      have hub : u.length ≤ 300000 := by
        have : i = 0 ∨ i = 1 := by omega
        rcases this with h | h
        · rw [h, Nat.pow_zero, Nat.mul_one] at hul
          omega
        · rw [h, Nat.pow_one] at hul
          omega
      refine q_asgI (P := fun r => 0 ≤ r ∧ r < 7) (vi_call (va_cons (vl_var rfl) (va_cons (vl_I0 vl_c (vl_I vl_c (vl_var rfl) (.inl ⟨by decide, by decide⟩))) (va_cons vl_c va_nil))) fun Q E q => ⟨d, ds, 1 + 4 * (i : Int), 7, rfl, hS3, by omega, by decide, q⟩) (fun wd _ => ?_)
      refine q_asgI (P := fun r => 0 ≤ r ∧ r < (u.length : Int) + 1) (vi_call (va_cons (vl_var rfl) (va_cons (vl_I0 vl_c (vl_I vl_c (vl_var rfl) (.inl ⟨by decide, by decide⟩))) (va_cons (vl_I0 (vl_lenS (vl_var rfl) (small _ (by omega))) vl_c) va_nil))) fun Q E q => ⟨d, ds, 2 + 4 * (i : Int), (u.length : Int) + 1, rfl, hS3, by omega, by omega, q⟩) (fun pl _ => ?_)
      refine (vi_call (P := fun r => 0 ≤ r ∧ r < 10) (va_cons (vl_var rfl) (va_cons (vl_I0 vl_c (vl_I vl_c (vl_var rfl) (.inl ⟨by decide, by decide⟩))) (va_cons vl_c va_nil))) fun Q E q => ⟨d, ds, 3 + 4 * (i : Int), 10, rfl, hS3, by omega, by decide, q⟩) _ fun rs hrs => ?_
      obtain ⟨sg, hsg, hsa⟩ := sign_some hrs.1 hrs.2
      refine ⟨_, rs, sg, rfl, rfl, by decide +kernel, hsg, ?_⟩
      refine q_asgN (vn_split (vl_var rfl) (by decide +kernel) (Nat.le_trans (show u.length + 2 ≤ 10000000 by omega) (by decide))) fun L H4 s4 nL eL => ?_
      have hra := rows_ascii hu
      have hrw := wt_rows u
      have hrn := rows_ne u
      have hLs : SqL K H4 L ((rows u).map V.str) := .of eL
      clear eL
      have hS4 := s4.seq hS3
      generalize rows u = R at hra hrw hrn hLs
      have hrl := wt_len (rs := R)
      have hR0 : 0 < R.length := List.length_pos_iff.mpr hrn
      refine q_asgI (P := fun r => 0 ≤ r ∧ r < (R.length : Int)) (vi_call (va_cons (vl_var rfl) (va_cons (vl_I0 vl_c (vl_I vl_c (vl_var rfl) (.inl ⟨by decide, by decide⟩))) (va_cons ((vl_lenL (vl_var rfl) hLs).is (by rw [List.length_map])) va_nil))) fun Q E q => ⟨d, ds, 4 + 4 * (i : Int), (R.length : Int), rfl, hS4, by omega, by omega, q⟩) (fun wh hwh => ?_)
      obtain ⟨j, rfl⟩ := Int.eq_ofNat_of_zero_le hwh.1
      have hj : j < R.length := by omega
      have hg : R[j]? = some R[j] := List.getElem?_eq_getElem hj
      have hgm := List.mem_of_getElem? hg
      generalize R[j] = ln at hg hgm
      have hgv : atI (R.map V.str) (j : Int) = some (.str ln) := atI_nat (by
        rw [List.getElem?_map, hg]
        rfl)
      have fin : ∀ (u' : Str) y2 y3 y4 y5 y6 y7 H', Same H4 H' → Ascii u' → u'.length ≤ 3 * u.length + 3 → ∃ u y2' y3' y4' y5' y6' y7', [some (.ref d), some (.str u'), y2, y3, y4, y5, y6, y7] = [some (V.ref d), some (.str u), y2', y3', y4', y5', y6', y7'] ∧ Same H H' ∧ Ascii u ∧ u.length + 100 ≤ 96160 * 3 ^ (i + 1) := fun u' y2 y3 y4 y5 y6 y7 H' s' ha hl' => ⟨u', y2, y3, y4, y5, y6, y7, rfl, (s3.trans s4).trans s', ha, by
        rw [Nat.pow_succ, ← Nat.mul_assoc]
        omega⟩
      have cl : ∀ lo hi, (cutS u lo hi).length ≤ u.length := cutS_length u
      have sgl : (⟨#[sg]⟩ : Str).length = 1 := rfl
      have sga : Ascii ⟨#[sg]⟩ := fun c hc => by
        have e : cs ⟨#[sg]⟩ = [sg] := rfl
        rw [e] at hc
        rw [List.mem_singleton.mp hc]
        exact hsa
      have us : u.length ≤ sizeLine := small _ (by omega)
      have one : wt [ln] = ln.length + 1 := rfl
      have lnl := wt_mem hgm
      have cm : ∀ lo hi, ∀ x ∈ cutR R lo hi, Ascii x := fun lo hi x hx => hra x (cutR_mem hx)
      have cw : ∀ lo hi, wt (cutR R lo hi) ≤ wt R := fun lo hi => wt_cut
      have n1 : ("\n" : Str).length = 1 := by decide +kernel
      refine g_if (b := decide (V.int wd = V.int 0)) (an_test (vl_eq (vl_var rfl) vl_c rfl)) (fun _ => ?_) (fun _ => ?_)
      · refine g_asg (vl_addS (vl_addS (vl_cutS (vl_var rfl) po_none' (po_int (vl_var rfl)) us) (vl_var rfl) ?_) (vl_cutS (vl_var rfl) (po_int (vl_var rfl)) po_none' us) ?_) (fin _ _ _ _ _ _ _ H4 (Same.refl H4) ((hu.cut.app sga).app hu.cut) ?_)
        · have := cl none (some pl)
          exact small _ (by omega)
        · have := cl none (some pl)
          have := cl (some pl) none
          exact small _ (by rw [len_app]; omega)
        · have := cl none (some pl)
          have := cl (some pl) none
          rw [len_app, len_app]
          omega
      · refine g_if (b := decide (V.int wd = V.int 1)) (an_test (vl_eq (vl_var rfl) vl_c rfl)) (fun _ => ?_) (fun _ => ?_)
        · have c1 := cl none (some pl)
          have c2 := cl (some (pl + 1)) none
          refine g_asg (vl_addS (vl_cutS (vl_var rfl) po_none' (po_int (vl_var rfl)) us) (vl_cutS (vl_var rfl) (po_int (vl_I0 (vl_var rfl) vl_c)) po_none' us) ?_) (fin _ _ _ _ _ _ _ H4 (Same.refl H4) (hu.cut.app hu.cut) ?_)
          · exact small _ (by omega)
          · rw [len_app]
            omega
        · refine g_if (b := decide (V.int wd = V.int 2)) (an_test (vl_eq (vl_var rfl) vl_c rfl)) (fun _ => ?_) (fun _ => ?_)
          · have c1 := cl none (some pl)
            have c2 := cl (some (pl + 1)) none
            refine g_asg (vl_addS (vl_addS (vl_cutS (vl_var rfl) po_none' (po_int (vl_var rfl)) us) (vl_var rfl) ?_) (vl_cutS (vl_var rfl) (po_int (vl_I0 (vl_var rfl) vl_c)) po_none' us) ?_) (fin _ _ _ _ _ _ _ H4 (Same.refl H4) ((hu.cut.app sga).app hu.cut) ?_)
            · exact small _ (by omega)
            · exact small _ (by rw [len_app]; omega)
            · rw [len_app, len_app]
              omega
          · have w1 := cw none (some (j : Int))
            have w2 := cw (some ((j : Int) + 1)) none
            have w3 := cw (some (j : Int)) none
            have l1 := wt_len (rs := cutR R none (some (j : Int)))
            have l2 := wt_len (rs := cutR R (some ((j : Int) + 1)) none)
            have l3 := wt_len (rs := cutR R (some (j : Int)) none)
            have a1 : ∀ H', Same H4 H' → Vn (tSl (rSlL K) (tVar 6) tNoPart (tPart (tVar 7))) [some (.ref d), some (.str u), some (.int i), some (.int wd), some (.int pl), some (.str ⟨#[sg]⟩), some (.ref L), some (.int (j : Int))] H' ((cutR R none (some (j : Int))).map V.str) := fun H' s' => vn_cutR (vl_var rfl) po_none' (po_int (vl_var rfl)) (s'.seq hLs)
            have a2 : ∀ H', Same H4 H' → Vn (tSl (rSlL K) (tVar 6) (tPart (tOp (rI0 fun i j => .int (i + j)) (tVar 7) (tC (.int 1)))) tNoPart) [some (.ref d), some (.str u), some (.int i), some (.int wd), some (.int pl), some (.str ⟨#[sg]⟩), some (.ref L), some (.int (j : Int))] H' ((cutR R (some ((j : Int) + 1)) none).map V.str) := fun H' s' => vn_cutR (vl_var rfl) (po_int (vl_I0 (vl_var rfl) vl_c)) po_none' (s'.seq hLs)
            have a3 : ∀ H', Same H4 H' → Vn (tSl (rSlL K) (tVar 6) (tPart (tVar 7)) tNoPart) [some (.ref d), some (.str u), some (.int i), some (.int wd), some (.int pl), some (.str ⟨#[sg]⟩), some (.ref L), some (.int (j : Int))] H' ((cutR R (some (j : Int)) none).map V.str) := fun H' s' => vn_cutR (vl_var rfl) (po_int (vl_var rfl)) po_none' (s'.seq hLs)
            have a4 : ∀ H', Same H4 H' → Vn (tLst (tCons (tOp (rIxL K) (tVar 6) (tVar 7)) tNil)) [some (.ref d), some (.str u), some (.int i), some (.int wd), some (.int pl), some (.str ⟨#[sg]⟩), some (.ref L), some (.int (j : Int))] H' ([ln].map V.str) := fun H' s' => vn_lst (va_cons (vl_ixL (vl_var rfl) (vl_var rfl) (s'.seq hLs) hgv) va_nil) (small 1 (by decide))
            have al : ∀ x ∈ [ln], Ascii x := fun x hx => by
              rw [List.mem_singleton.mp hx]
              exact hra _ hgm
            have jn : ∀ ws : List Str, (∀ x ∈ ws, Ascii x) → wt ws ≤ 3 * u.length + 3 → Ascii (Txt.join "\n" ws) ∧ (Txt.join "\n" ws).length ≤ 3 * u.length + 3 ∧ (ws.map (·.length)).sum + ws.length * ("\n" : Str).length ≤ 16777216 := fun ws h1 h2 => ⟨join_ascii h1, Nat.le_trans join_len h2, by
              rw [n1, wt_sum]
              omega⟩
            have two : ∀ {a b : List Str}, (∀ x ∈ a, Ascii x) → (∀ x ∈ b, Ascii x) → ∀ x ∈ a ++ b, Ascii x := fun h1 h2 x hx => by
              rcases List.mem_append.mp hx with h | h
              · exact h1 x h
              · exact h2 x h
            refine g_if (b := decide (V.int wd = V.int 3)) (an_test (vl_eq (vl_var rfl) vl_c rfl)) (fun _ => ?_) (fun _ => ?_)
            · have hj := jn (cutR R none (some (j : Int)) ++ cutR R (some ((j : Int) + 1)) none) (two (cm _ _) (cm _ _)) (by
                rw [wt_app]
                omega)
              exact g_asgV (ve_join (vn_catR (a1 H4 (Same.refl H4)) (fun H' s' => a2 H' s') (by omega)) hj.2.2) fun H' s' => fin _ _ _ _ _ _ _ H' s' hj.1 hj.2.1
            · refine g_if (b := decide (V.int wd = V.int 4)) (an_test (vl_eq (vl_var rfl) vl_c rfl)) (fun _ => ?_) (fun _ => ?_)
              · have hj := jn (cutR R none (some (j : Int)) ++ [ln] ++ cutR R (some (j : Int)) none) (two (two (cm _ _) al) (cm _ _)) (by
                  rw [wt_app, wt_app]
                  omega)
                exact g_asgV (ve_join (vn_catR (vn_catR (a1 H4 (Same.refl H4)) (fun H' s' => a4 H' s') (by
                  show _ + 1 ≤ 10000000
                  omega)) (fun H' s' => a3 H' s') (by
                  rw [List.length_append]
                  show _ + 1 + _ ≤ 10000000
                  omega)) hj.2.2) fun H' s' => fin _ _ _ _ _ _ _ H' s' hj.1 hj.2.1
              · refine g_if (b := decide (V.int wd = V.int 5)) (an_test (vl_eq (vl_var rfl) vl_c rfl)) (fun _ => ?_) (fun _ => ?_)
                · have hj := jn (cutR R none (some (j : Int)) ++ cutR R (some ((j : Int) + 1)) none ++ [ln]) (two (two (cm _ _) (cm _ _)) al) (by
                    rw [wt_app, wt_app]
                    omega)
                  exact g_asgV (ve_join (vn_catR (vn_catR (a1 H4 (Same.refl H4)) (fun H' s' => a2 H' s') (by omega)) (fun H' s' => a4 H' s') (by
                    rw [List.length_append]
                    show _ + _ + 1 ≤ 10000000
                    omega)) hj.2.2) fun H' s' => fin _ _ _ _ _ _ _ H' s' hj.1 hj.2.1
                · refine g_asg (vl_cutS (vl_var rfl) po_none' (po_int (vl_var rfl)) us) (fin _ _ _ _ _ _ _ H4 (Same.refl H4) hu.cut ?_)
                  have := cl none (some pl)
                  omega
    · obtain ⟨u, y2, y3, y4, y5, y6, y7, rfl, s3, hu, hul⟩ := hP
      refine g_ret (vl_var rfl) (q H3 u s3 hu ?_)
      have : n.toNat = 0 ∨ n.toNat = 1 ∨ n.toNat = 2 := by omega
      rcases this with h | h | h
      · rw [h] at hul
        have : (96160 * 3 ^ 0 : Nat) = 96160 := by decide
        omega
      · rw [h] at hul
        have : (96160 * 3 ^ 1 : Nat) = 288480 := by decide
        omega
      · rw [h] at hul
        have : (96160 * 3 ^ 2 : Nat) = 865440 := by decide
        omega
end
/-! ### the law's reading of a line -/
def kdS : Kd → Str
  | .line => "line"
  | .place => "place"
  | .price => "price"
  | .order => "order"
theorem ret_pairE {te : TE} {x : Str} {D : Ends} {σ : L2.St} {H : Hp} (h : te σ H fun v H1 => [V.str x, v].length ≤ sizeLine ∧ ∀ p, H1 p = none → D.rt (.ref p) (upd H1 p (.tup [.str x, v]))) : tRet (tTup (tCons (tC (.str x)) (tCons te tNil))) D σ H := h
theorem nx_of {f : L2.St → Hp → Prop} {a b c} {σ : L2.St} {H : Hp} (h : f σ H) : (Ends.mk f a b c).nx σ H := h
def pvI (w : Str) : Option Int := if cs w = [45] then some (-1) else numV w
section
variable {K : PySem.W.Frag} {σ : L2.St} {H : Hp} {ta tb te tl t0 t1 t2 t3 : TE} {D : Ends} {tw : TS} {v x y z : V} {tt : TT}
theorem ve_lnum {w : Str} (h : Vl te σ H (.str w)) (hl : w.length ≤ 1000000) : Ve (tCall spLNum [] E0 (tCons te tNil)) σ H (oV (numV w)) := fun Q q => h _ ⟨w, rfl, hl, q⟩
theorem g_appV {l : Addr} {xs : List V} (ho : Vl ta σ H (.ref l)) (hl : H l = some (.lst xs)) (h : Ve te σ H v) (hz : xs.length < sizeLine) (k : ∀ H', Same H H' → D.nx σ (upd H' l (.lst (xs ++ [v])))) :
    tDrop (tBM K "list" rAppend ta (tCons te tNil)) D σ H := ho _ ⟨.inl ⟨rfl, _, .inl (.inl hl)⟩, h _ fun H' s' => ⟨l, xs, v, rfl, rfl, s' _ _ hl, hz, k H' s'⟩⟩
/-- [x for x in xs if ..], its length -/
theorem lc_filter {j : Nat} {xs : List V} {pb : V → Bool} (hj : j < σ.length) (hl : ∀ Q : VK, (∀ a H1, Same H H1 → SqL K H1 a xs → Q (.ref a) H1) → tl σ H Q) (hz : xs.length ≤ 1000000)
    (ht : ∀ x ∈ xs, ∀ H', An tt ((σ.set j none).set j (some x)) H' (pb x)) (Q : VK) (q : ∀ D H' acc, Same H H' → H' D = some (.lst acc) → acc.length = (xs.filter pb).length → Q (.ref D) H') : tLc (iList K tl) (gName j) tt (tVar j) [j] σ H Q := by
  refine hl _ fun a H1 s1 hx => ⟨a, rfl, ⟨xs, hx⟩, fun D nD => lc_list (xs := xs) (fun i H' => ∃ acc, H' D = some (.lst acc) ∧ Same H1 H' ∧ acc.length = ((xs.take i).filter pb).length) ⟨[], upd_same, same_upd nD, rfl⟩ (fun i H' _ hP => hP.choose_spec.2.1.seq hx) (fun i x H2 hi hP => ?_) (fun H2 hP => ?_)⟩
  · obtain ⟨acc, hD, s2, ha⟩ := hP
    have e : (xs.take (i + 1)).filter pb = (xs.take i).filter pb ++ [x].filter pb := by
      rw [take_snoc hi]
      exact List.filter_append ..
    refine ⟨?_, ht x (List.mem_of_getElem? hi) H2 _ ?_⟩
    · show ((σ.set j none).set j (some x)).set j none = σ.set j none
      rw [List.set_set, List.set_set]
    · cases hp : pb x with
      | true =>
        have e2 : [x].filter pb = [x] := by
          rw [List.filter_cons, hp]
          rfl
        refine iteT ⟨x, ?_, acc, hD, ?_, _, upd_same, same_upd' s2 nD, ?_⟩
        · exact List.getElem?_set_self (by
            show j < (σ.set j none).length
            rw [List.length_set]
            exact hj)
        · have h1 : ((xs.take i).filter pb).length ≤ xs.length := Nat.le_trans (List.length_filter_le _ _) (by rw [List.length_take]; exact Nat.min_le_right _ _)
          exact Nat.lt_of_le_of_lt (m := 1000000) (by omega) (by decide)
        · rw [e, e2, List.length_append, List.length_append, ha]
      | false =>
        have e2 : [x].filter pb = [] := by
          rw [List.filter_cons, hp]
          rfl
        refine iteF ⟨acc, hD, s2, ?_⟩
        rw [e, e2, List.append_nil]
        exact ha
  · obtain ⟨acc, hD, s2, ha⟩ := hP
    rw [List.take_length] at ha
    exact q D H2 acc (s1.trans s2) hD ha
theorem vl_inL {a : Addr} {xs : List V} (h : Vl te σ H (.ref a)) (hx : SqL K H a xs) (f1 : flatV x = true) (f2 : xs.all flatV = true) : Vl (tOp (rIn K false) (tC x) te) σ H (.bl (inV x xs)) := vl_op vl_c h fun _ k => ⟨a, xs, rfl, .inl hx, f1, f2, k⟩
theorem flat_o (o : Option Int) : flatV (oV o) = true := by cases o <;> rfl
/-- max of a list of two -/
theorem an_max2 {a : Addr} {p q n : Int} (h : Vl te σ H (.ref a)) (hx : SqL K H a [.int p, .int q]) (hn : Vl tb σ H (.int n)) : An (tTest (tOp (rI0 fun i j => .bl (decide (j ≤ i))) (tCB (rMax K) (tCons te tNil)) tb)) σ H (decide (n ≤ p ∨ n ≤ q)) := fun Q k =>
  h _ ⟨a, [p, q], rfl, hx, by show 0 < 2; decide, fun m hm hall => hn _ ⟨m, n, rfl, rfl, _, rfl, by
    have hp := hall p (by simp)
    have hq := hall q (by simp)
    have hm : m = p ∨ m = q := by simpa using hm
    have e : decide (n ≤ m) = decide (n ≤ p ∨ n ≤ q) := by
      rw [Bool.eq_iff_iff, decide_eq_true_eq, decide_eq_true_eq]
      omega
    rw [e]
    exact k⟩⟩
/-- tuple(xs) <= t -/
theorem ax_leLT {a T : Addr} {p q r s : Int} (h : Vl te σ H (.ref a)) (hx : SqL K H a [.int p, .int q]) (hb : ∀ H', Same H H' → Vl tb σ H' (.ref T)) (hT : SqT K H T [.int r, .int s]) :
    Ax (tTest (tOp (rLeT K) (tCB (fun xs H Q => ∃ p ys, xs = [V.ref p] ∧ ((SqL K H p ys ∧ ∀ l, H l = none → Q (.ref l) (upd H l (.tup ys))) ∨ (SqT K H p ys ∧ Q (.ref p) H))) (tCons te tNil)) tb)) σ H (decide (p < r ∨ (p = r ∧ q ≤ s))) := fun Q k =>
  h _ ⟨a, _, rfl, .inl ⟨hx, fun S nS => hb _ (same_upd nS) _ ⟨S, T, [p, q], [r, s], rfl, rfl, .of upd_same, seqT (same_upd nS) hT, _, rfl, by
    rw [lexAt2]
    exact k _ (same_upd nS)⟩⟩⟩
theorem ve_tup4 {v0 v1 v2 v3 : V} (h0 : Ve t0 σ H v0) (h1 : ∀ H', Same H H' → Ve t1 σ H' v1) (h2 : ∀ H', Same H H' → Ve t2 σ H' v2) (h3 : ∀ H', Same H H' → Ve t3 σ H' v3) (Q : VK) (q : ∀ R H', Same H H' → H' R = some (.tup [v0, v1, v2, v3]) → Q (.ref R) H') :
    tTup (tCons t0 (tCons t1 (tCons t2 (tCons t3 tNil)))) σ H Q := h0 _ fun H1 s1 => h1 H1 s1 _ fun H2 s2 => h2 H2 (s1.trans s2) _ fun H3 s3 => h3 H3 ((s1.trans s2).trans s3) _ fun H4 s4 => ⟨by show 4 ≤ sizeLine; decide, fun R nR => q R _ ((((s1.trans s2).trans s3).trans s4).trans (same_upd nR)) upd_same⟩
end
theorem inV_two {a b : Option Int} : inV .non [oV a, oV b] = (a.isNone || b.isNone) := by
  cases a <;> cases b <;> rfl
theorem numV_non {w : Str} : (numV w).isNone = !numB w := by
  unfold numV
  cases numB w <;> rfl
theorem pvI_non {w : Str} : (pvI w).isNone = !pB w := by
  unfold pvI pB
  by_cases e : cs w = [45]
  · rw [if_pos e, decide_eq_true e]
    rfl
  · rw [if_neg e, decide_eq_false e, Bool.false_or]
    exact numV_non
/-- what a price's word stands for: -1 for a shut way -/
def pvV (w : Str) : Int := if cs w = [45] then -1 else (val w : Int)
theorem pvI_some {w : Str} (h : pB w = true) : pvI w = some (pvV w) := by
  unfold pvI pvV
  unfold pB at h
  by_cases e : cs w = [45]
  · rw [if_pos e, if_pos e]
  · rw [if_neg e, if_neg e]
    rw [decide_eq_false e, Bool.false_or] at h
    exact if_pos h
theorem numV_some {w : Str} (h : numB w = true) : numV w = some (val w : Int) := if_pos h
theorem pv_bad {w : Str} : (decide (V.int (pvV w) = V.int 0) || decide ((1000000 : Int) < pvV w)) = !priceB (priceW w) := by
  have e0 : decide (V.int (pvV w) = V.int 0) = decide (pvV w = 0) := by
    rw [Bool.eq_iff_iff, decide_eq_true_eq, decide_eq_true_eq]
    exact ⟨fun z => V.int.inj z, fun z => by rw [z]⟩
  rw [e0]
  unfold pvV priceW
  by_cases e : cs w = [45]
  · rw [if_pos e, if_pos e]
    rfl
  · rw [if_neg e, if_neg e]
    show _ = !(decide ((1 : Int) ≤ val w) && decide ((val w : Int) ≤ 1000000))
    rw [Bool.eq_iff_iff]
    simp only [Bool.or_eq_true, decide_eq_true_eq, Bool.not_eq_true', Bool.and_eq_false_iff, decide_eq_false_iff_not]
    omega
theorem pv_neg {w : Str} : (if pvV w < 0 then none else some (pvV w)) = priceW w := by
  unfold pvV priceW
  by_cases e : cs w = [45]
  · rw [if_pos e, if_pos e]
    rfl
  · rw [if_neg e, if_neg e, if_neg (by omega)]
abbrev sLLine : Stmt := topS 30
theorem scLLine : FnScope ["line", "size", "before", "words", "word", "places", "prices", "value"] ["line", "size", "before"] (defScope sLLine) := ⟨rfl, rfl, rfl, by decide +kernel, rfl, by decide +kernel, by decide +kernel⟩
def spLLine (K : PySem.W.Frag) : Sp := fun vs H Q _ => ∃ (w : Str) (n : Int) (bV : V) (p q : Int), vs = [.str w, .int n, bV] ∧ w.length ≤ 1000000 ∧ ((bV = .non ∧ p = 0 ∧ q = 0) ∨ ∃ T, bV = .ref T ∧ SqT K H T [.int p, .int q]) ∧ ∀ H' T, Same H H' →
  (match linkR n p q (words w) with
    | .bad k => SqT K H' T [.str (kdS k), .non]
    | .ok l => ∃ R, SqT K H' T [.str "", .ref R] ∧ SqT K H' R (lnkV l)) → Q (.ref T) H'
section
variable {P : Program} {w : World} {K : PySem.W.Frag} {mg : Str → Option Value} {base : Heap}
theorem ok_lline {f : Addr} {fd : FuncData} (F : Fun K "_law_line" "_law_line" sLLine f fd) (c_law_number : Kal P w K mg base 1 "_law_number" ["word"] spLNum) (ml : mg "len" = none) (mx : mg "max" = none) (mt : mg "tuple" = none) (mi : mg "int" = none) : FnOk P w K mg base CX0 2 f fd ["line", "size", "before"] (spLLine K) := by
  refine F.ok scLLine (fun vs H Q E h => ?_) (fun cdv A outer s H vs Q E hr h => ?_)
  · obtain ⟨w, n, bV, p, q, rfl, _⟩ := h
    rfl
  · obtain ⟨w, n, bV, p, q, rfl, hl, hb, qq⟩ := h
    refine ⟨_, pss_cons (ps_set (i := 3) scLLine.nd rfl (.inl rfl) (pe_split (pv 0) pe_str))
      (pss_cons (ps_if (pt_cmpR op_ne (pe_callB call_len_seq (by rfl) ml PySem.boot_len (pa_cons (pv 3) pa_nil)) pe_int (nomark _))
      (pss_one (ps_ret (pe_tup (pa_cons pe_str (pa_cons pe_non pa_nil)))))
      pss_nil)
      (pss_cons (ps_setLc (i := 5) (own := [("word", 4)]) (g := gName 4) (tt := tYes) (te := (tCall spLNum [] E0 (tCons (tVar 4) tNil))) (by rfl) scLLine.nd rfl rfl (sw_true rfl rfl rfl (by decide +kernel)) (pi_list (pe_slice sl_list (pv 3) po_none (po_some pe_int))) (blkOk_by (own := [("word", 4)]) (N := ["line", "size", "before", "words", "word", "places", "prices", "value"]) (sc := defScope sLLine) (by decide +kernel)) (fun _ _ _ _ _ => pg_name (i := 4) scLLine.nd rfl (Or.inl rfl)) (fun _ _ _ _ _ => by exact pts_nil) (fun _ _ _ _ _ => by exact (pe_k c_law_number hr (by decide) (by rfl) (pa_cons (pv 4) pa_nil))))
      (pss_cons (ps_set (i := 6) scLLine.nd rfl (.inl rfl) (pe_lst pa_nil))
      (pss_cons (ps_for PassesOwn.never rfl (pi_list (pe_slice sl_list (pv 3) (po_some pe_int) po_none)) (pg_name (i := 4) scLLine.nd rfl (.inl rfl))
      (pss_one (ps_if (pt_cmpR op_eq (pv 4) pe_str (nomark _))
        (pss_one (ps_expr (pe_bm PySem.F.plainAttrs_list PySem.F.slot_list_append PySem.F.type_list_append mt_append (pv 6) (pa_cons (pe_un un_neg pe_int) pa_nil))))
        (pss_one (ps_expr (pe_bm PySem.F.plainAttrs_list PySem.F.slot_list_append PySem.F.type_list_append mt_append (pv 6) (pa_cons (pe_k c_law_number hr (by decide) (by rfl) (pa_cons (pv 4) pa_nil)) pa_nil)))))))
      (pss_cons (ps_if (PW.pt (pw_or (pt_cmpR op_in_seq pe_non (pv 5) (by rfl)) (pw_or1 (pt_cmpR op_in_seq pe_non (pv 6) (by rfl)))))
      (pss_one (ps_ret (pe_tup (pa_cons pe_str (pa_cons pe_non pa_nil)))))
      pss_nil)
      (pss_cons (ps_if (pt_cmpR op_ge (pe_callB (cr_max rfl) (by rfl) mx (by decide +kernel) (pa_cons (pv 5) pa_nil)) (pv 1) (nomark _))
      (pss_one (ps_ret (pe_tup (pa_cons pe_str (pa_cons pe_non pa_nil)))))
      pss_nil)
      (pss_cons (ps_if (pt_cmpR op_gt (pe_callB call_len_seq (by rfl) ml PySem.boot_len (pa_cons (pe_lc (own := [("value", 7)]) (g := gName 7) (tt := (tOr (tTest (tOp rEq (tVar 7) (tC (.int 0)))) (tTest (tOp (rI0 fun i j => .bl (decide (j < i))) (tVar 7) (tC (.int 1000000)))))) (te := (tVar 7)) (by rfl) scLLine.nd (pi_list (pv 6)) (blkOk_by (own := [("value", 7)]) (N := ["line", "size", "before", "words", "word", "places", "prices", "value"]) (sc := defScope sLLine) (by decide +kernel)) (fun _ _ _ _ _ => pg_name (i := 7) scLLine.nd rfl (Or.inl rfl)) (fun _ _ _ _ _ => by exact (pts_one (PW.pt (pw_or (pt_cmpR op_eq (pv 7) pe_int (nomark _)) (pw_or1 (pt_cmpR op_gt (pv 7) pe_int (nomark _))))))) (fun _ _ _ _ _ => by exact (pv 7))) pa_nil)) pe_int (nomark _))
      (pss_one (ps_ret (pe_tup (pa_cons pe_str (pa_cons pe_non pa_nil)))))
      pss_nil)
      (pss_cons (ps_if (PW.pt (pw_or (pt_cmpR op_ge (pe_ix ix_list (pv 5) pe_int (fun _ _ => rfl)) (pe_ix ix_list (pv 5) pe_int (fun _ _ => rfl)) (nomark _)) (pw_or1 (PW.pt (pw_and (pt_cmpR op_notN (pv 2) pe_non (nomark _)) (pw_and1 (pt_cmpR (op_leT hr.units0) (pe_callTy call_tuple_of (by rfl) mt (by decide +kernel) (pa_cons (pv 5) pa_nil)) (pv 2) (nomark _))))))))
      (pss_one (ps_ret (pe_tup (pa_cons pe_str (pa_cons pe_non pa_nil)))))
      pss_nil)
      (pss_one (ps_ret (pe_tup (pa_cons pe_str (pa_cons (pe_tup (pa_cons (pe_ix ix_list (pv 5) pe_int (fun _ _ => rfl)) (pa_cons (pe_ix ix_list (pv 5) pe_int (fun _ _ => rfl)) (pa_cons (pe_ix ix_list (pe_lst (pa_cons (pe_ix ix_list (pv 6) pe_int (fun _ _ => rfl)) (pa_cons pe_non pa_nil))) (pe_callTy call_int1 (by rfl) mi (by decide +kernel) (pa_cons (pe_cmpR op_lt (pe_ix ix_list (pv 6) pe_int (fun _ _ => rfl)) pe_int (nomark _)) pa_nil)) (fun _ _ => rfl)) (pa_cons (pe_ix ix_list (pe_lst (pa_cons (pe_ix ix_list (pv 6) pe_int (fun _ _ => rfl)) (pa_cons pe_non pa_nil))) (pe_callTy call_int1 (by rfl) mi (by decide +kernel) (pa_cons (pe_cmpR op_lt (pe_ix ix_list (pv 6) pe_int (fun _ _ => rfl)) pe_int (nomark _)) pa_nil)) (fun _ _ => rfl)) pa_nil))))) pa_nil))))))))))))), ?_⟩
    have small : ∀ n : Nat, n ≤ 10000000 → n ≤ sizeLine := fun n h => Nat.le_trans h (by decide)
    refine q_asgN (vn_split (vl_var rfl) (by decide +kernel) (Nat.le_trans (show w.length + 2 ≤ 10000000 by omega) (by decide))) fun W H1 s1 nW eW => ?_
    have hwl := (words_le w).1
    have hW : SqL K H1 W ((words w).map V.str) := .of eW
    clear eW
    have retB : ∀ (k : Kd) (H' : Hp) (σ : L2.St) (D : Ends), Same H H' → linkR n p q (words w) = .bad k → D.rt = Q → tRet (tTup (tCons (tC (.str (kdS k))) (tCons (tC .non) tNil))) D σ H' := fun k H' σ D s' e eD => ⟨by show 2 ≤ sizeLine; decide, fun T nT => by
      rw [eD]
      refine qq _ T (s'.trans (same_upd nT)) ?_
      rw [e]
      exact .of upd_same⟩
    generalize words w = ws at hW hwl qq retB
    refine q_when (b := !decide (V.int (ws.length : Int) = V.int 4)) (an_test (vl_ne ((vl_lenL (vl_var rfl) hW).is (by rw [List.length_map])) vl_c rfl)) (fun hb4 => ?_) (fun hb4 => ?_)
    · have hn : ws.length ≠ 4 := fun z => by
        rw [z] at hb4
        rw [Bool.not_eq_true'] at hb4
        exact of_decide_eq_false hb4 rfl
      refine retB .line H1 _ _ s1 ?_ rfl
      match ws, hn with
      | [], _ => rfl
      | [_], _ => rfl
      | [_, _], _ => rfl
      | [_, _, _], _ => rfl
      | [_, _, _, _], hn => exact absurd rfl hn
      | _ :: _ :: _ :: _ :: _ :: _, _ => rfl
    · rw [Bool.not_eq_false'] at hb4
      obtain ⟨w0, w1, w2, w3, rfl⟩ : ∃ w0 w1 w2 w3, ws = [w0, w1, w2, w3] := by
        have hn : ws.length = 4 := by
          have := V.int.inj (of_decide_eq_true hb4)
          omega
        match ws, hn with
        | [w0, w1, w2, w3], _ => exact ⟨w0, w1, w2, w3, rfl⟩
      have ll : ∀ u ∈ [w0, w1, w2, w3], u.length ≤ 1000000 := fun u hu => Nat.le_trans (hwl u hu) hl
      have l0 := ll w0 (by simp)
      have l1 := ll w1 (by simp)
      have l2 := ll w2 (by simp)
      have l3 := ll w3 (by simp)
      have eR : linkR n p q [w0, w1, w2, w3] = (if linkLineB [w0, w1, w2, w3] then (if n ≤ (val w0 : Int) ∨ n ≤ (val w1 : Int) then .bad .place else if (!priceB (priceW w2) || !priceB (priceW w3)) = true then .bad .price
          else if (val w1 : Int) ≤ val w0 ∨ ((val w0 : Int) < p ∨ ((val w0 : Int) = p ∧ (val w1 : Int) ≤ q)) then .bad .order else .ok ⟨val w0, val w1, priceW w2, priceW w3⟩) else .bad .line) := rfl
      -- places = [..]
      refine q_asgN (xs := [oV (numV w0), oV (numV w1)]) (vn_lc (xs := [V.str w0, V.str w1]) (vx_new (by
          have h := vn_slice (K := K) (lo := none) (hi := some 2) (xs := [w0, w1, w2, w3].map V.str) (te := tVar 3) (tl := tNoPart) (th := tPart (tC (.int 2))) (σ := [some (.str w), some (.int n), some bV, some (.ref W), none, none, none, none]) (vl_var rfl) (fun _ q => q) (fun _ q => ⟨2, rfl, q⟩) hW
          rw [show cutV ([w0, w1, w2, w3].map V.str) none (some 2) = [V.str w0, V.str w1] from cut_to (n := 2) (by show 2 ≤ 4; decide)] at h
          exact h)) rfl (show 2 ≤ 1000000 by decide) fun i x y H' s' hx hy => ?_) fun L H2 s2 nL eL => ?_
      · match i, hx, hy with
        | 0, hx, hy =>
          cases hx
          cases hy
          exact ve_lnum (vl_var rfl) l0
        | 1, hx, hy =>
          cases hx
          cases hy
          exact ve_lnum (vl_var rfl) l1
      -- prices = []
      refine q_lnew fun o no => ?_
      have Lo : L ≠ o := ne_of_none eL no
      have s3 : Same H2 (upd H2 o (.lst [])) := same_upd no
      have hW3 := (s2.trans s3).seq hW
      have h2 := vn_slice (K := K) (lo := some 2) (hi := none) (xs := [w0, w1, w2, w3].map V.str) (te := tVar 3) (tl := tPart (tC (.int 2))) (th := tNoPart) (σ := [some (.str w), some (.int n), some bV, some (.ref W), none, some (.ref L), some (.ref o), none]) (vl_var rfl) (fun _ q => ⟨2, rfl, q⟩) (fun _ q => q) hW3
      rw [show cutV ([w0, w1, w2, w3].map V.str) (some 2) none = [w2, w3].map V.str from cut_from (n := 2) (by show 2 ≤ 4; decide)] at h2
      refine h2 _ fun S H4 s4 nS eS => ?_
      have So : S ≠ o := (ne_of_none upd_same nS).symm
      refine forStrs (us := [w2, w3]) (.of eS) (fun i σ H' => ∃ y4, σ = [some (.str w), some (.int n), some bV, some (.ref W), y4, some (.ref L), some (.ref o), none] ∧ Same H2 H' ∧ H' S = some (.lst ([w2, w3].map V.str)) ∧ H' o = some (.lst (([w2, w3].take i).map fun u => oV (pvI u)))) ⟨none, rfl, s3.trans s4, eS, s4 _ _ upd_same⟩ (fun i σ H' hP => ?_) (fun i u σ H' hi hP => ?_) (fun σ H' hP => ?_)
      · obtain ⟨_, _, _, h, _⟩ := hP
        exact .of h
      · obtain ⟨y4, rfl, s5, hS, ho⟩ := hP
        have hu : u.length ≤ 1000000 := by
          have := List.mem_of_getElem? hi
          simp only [List.mem_cons, List.not_mem_nil, or_false] at this
          rcases this with e | e <;> subst e <;> assumption
        have hsz : (([w2, w3].take i).map fun u => oV (pvI u)).length < sizeLine := by
          rw [List.length_map, List.length_take]
          exact Nat.lt_of_le_of_lt (Nat.min_le_right _ _) (show 2 < sizeLine by decide)
        have next : ∀ H5, Same H' H5 → ∃ y4, [some (V.str w), some (.int n), some bV, some (.ref W), some (.str u), some (.ref L), some (.ref o), none] = [some (.str w), some (.int n), some bV, some (.ref W), y4, some (.ref L), some (.ref o), none] ∧ Same H2 (upd H5 o (.lst ((([w2, w3].take i).map fun u => oV (pvI u)) ++ [oV (pvI u)]))) ∧ upd H5 o (.lst ((([w2, w3].take i).map fun u => oV (pvI u)) ++ [oV (pvI u)])) S = some (.lst ([w2, w3].map V.str)) ∧ upd H5 o (.lst ((([w2, w3].take i).map fun u => oV (pvI u)) ++ [oV (pvI u)])) o = some (.lst (([w2, w3].take (i + 1)).map fun u => oV (pvI u))) := fun H5 s6 => ⟨some (.str u), rfl, same_upd' (s5.trans s6) no, by
          rw [upd_ne So]
          exact s6 _ _ hS, by
          rw [upd_same, take_snoc hi, List.map_append]
          rfl⟩
        refine g_if (b := decide (V.str u = V.str "-")) (an_test (vl_eq (vl_var rfl) vl_c rfl)) (fun hd => ?_) (fun hd => ?_)
        · rw [str_eq, c_dash] at hd
          have e : oV (pvI u) = .int (-1) := by
            unfold pvI
            rw [if_pos (of_decide_eq_true hd)]
            rfl
          refine g_app (vl_var rfl) ho (v := oV (pvI u)) ((vl_neg vl_c).is e.symm) hsz (next H' (Same.refl H'))
        · rw [str_eq, c_dash] at hd
          have e : pvI u = numV u := if_neg (of_decide_eq_false hd)
          refine g_appV (vl_var rfl) ho (v := oV (pvI u)) ((ve_lnum (vl_var rfl) hu).is (by rw [e])) hsz fun H5 s6 => next H5 s6
      · obtain ⟨y4, rfl, s5, hS, ho⟩ := hP
        have hsl := s1.trans (s2.trans s5)
        have hL : SqL K H' L [oV (numV w0), oV (numV w1)] := .of (s5 _ _ eL)
        have hO : SqL K H' o [oV (pvI w2), oV (pvI w3)] := .of ho
        clear ho eL
        refine nx_of ?_
        refine q_when (b := inV .non [oV (numV w0), oV (numV w1)] || inV .non [oV (pvI w2), oV (pvI w3)]) ?_ (fun hb1 => ?_) (fun hb1 => ?_)
        · refine an_or (an_test (vl_inL (vl_var rfl) hL rfl ?_)) fun _ => an_test (vl_inL (vl_var rfl) hO rfl ?_)
          · rw [List.all_cons, List.all_cons, flat_o, flat_o]
            rfl
          · rw [List.all_cons, List.all_cons, flat_o, flat_o]
            rfl
        · rw [inV_two, inV_two, numV_non, numV_non, pvI_non, pvI_non] at hb1
          refine retB .line H' _ _ hsl ?_ rfl
          rw [eR]
          refine if_neg fun z => ?_
          have z : (numB w0 && (numB w1 && (pB w2 && pB w3))) = true := z
          rw [Bool.and_eq_true, Bool.and_eq_true, Bool.and_eq_true] at z
          rw [z.1, z.2.1, z.2.2.1, z.2.2.2] at hb1
          exact absurd hb1 (by decide)
        · rw [inV_two, inV_two, numV_non, numV_non, pvI_non, pvI_non] at hb1
          simp only [Bool.or_eq_false_iff, Bool.not_eq_false'] at hb1
          obtain ⟨⟨b0, b1⟩, b2, b3⟩ := hb1
          have eL : linkLineB [w0, w1, w2, w3] = true := by
            show (numB w0 && (numB w1 && (pB w2 && pB w3))) = true
            rw [b0, b1, b2, b3]
            rfl
          rw [if_pos eL] at eR
          rw [numV_some b0, numV_some b1] at hL
          rw [pvI_some b2, pvI_some b3] at hO
          have hL : SqL K H' L [.int (val w0), .int (val w1)] := hL
          have hO : SqL K H' o [.int (pvV w2), .int (pvV w3)] := hO
          refine q_when (b := decide (n ≤ (val w0 : Int) ∨ n ≤ (val w1 : Int))) (an_max2 (vl_var rfl) hL (vl_var rfl)) (fun hb2 => ?_) (fun hb2 => ?_)
          · rw [if_pos (of_decide_eq_true hb2)] at eR
            exact retB .place H' _ _ hsl eR rfl
          · rw [if_neg (of_decide_eq_false hb2)] at eR
            let pb : V → Bool := fun x => match x with
              | .int z => decide (V.int z = V.int 0) || decide ((1000000 : Int) < z)
              | _ => false
            refine q_whenx (b := !priceB (priceW w2) || !priceB (priceW w3)) ((ax_lenNew (n := ([V.int (pvV w2), .int (pvV w3)].filter pb).length) (g := fun i j => decide (j < i)) (lc_filter (by show 7 < 8; decide) (vx_list (vl_var rfl) hO) (show 2 ≤ 1000000 by decide) fun x hx H5 => ?_)).is ?_) (fun hb3 H5 s6 => ?_) (fun hb3 H5 s6 => ?_)
            · obtain ⟨z, rfl⟩ : ∃ z, x = .int z := by
                simp only [List.mem_cons, List.not_mem_nil, or_false] at hx
                rcases hx with e | e
                · exact ⟨_, e⟩
                · exact ⟨_, e⟩
              exact an_or (an_test (vl_eq (vl_var rfl) vl_c rfl)) fun _ => an_test (vl_I0 (vl_var rfl) vl_c)
            · have e2 : pb (.int (pvV w2)) = !priceB (priceW w2) := pv_bad
              have e3 : pb (.int (pvV w3)) = !priceB (priceW w3) := pv_bad
              rw [List.filter_cons, List.filter_cons, e2, e3]
              cases priceB (priceW w2) <;> cases priceB (priceW w3) <;> rfl
            · rw [if_pos hb3] at eR
              exact retB .price H5 _ _ (hsl.trans s6) eR rfl
            · rw [if_neg (by rw [hb3]; exact Bool.false_ne_true)] at eR
              have hL5 := s6.seq hL
              have hO5 := s6.seq hO
              refine q_whenx (b := decide ((val w1 : Int) ≤ val w0) || decide (0 ≤ (val w0 : Int) ∧ ((val w0 : Int) < p ∨ ((val w0 : Int) = p ∧ (val w1 : Int) ≤ q)))) ?_ (fun hb4 H6 s7 => ?_) (fun hb4 H6 s7 => ?_)
              · refine ax_or (ax_of (an_test (vl_I0 (vl_ixL (vl_var rfl) vl_c hL5 (atI_nat (j := 0) rfl)) (vl_ixL (vl_var rfl) vl_c hL5 (atI_nat (j := 1) rfl))))) fun hab H6 s7 => ?_
                have hab := of_decide_eq_false hab
                rcases hb with ⟨rfl, rfl, rfl⟩ | ⟨T, rfl, hT⟩
                · refine (ax_and (k := false) (m := false) (ax_of (an_test ((vl_notN (vl_var rfl)).is rfl))) fun z => nomatch z).is ?_
                  rw [Bool.false_and]
                  exact (decide_eq_false (by omega)).symm
                · refine (ax_and (k := true) (ax_of (an_test ((vl_notN (vl_var rfl)).is rfl))) fun _ H7 s8 => ax_leLT (vl_var rfl) ((s7.trans s8).seq hL5) (fun _ _ => vl_var rfl) (seqT (((hsl.trans s6).trans s7).trans s8) hT)).is ?_
                  rw [Bool.true_and, Bool.eq_iff_iff, decide_eq_true_eq, decide_eq_true_eq]
                  omega
              · rw [Bool.or_eq_true, decide_eq_true_eq, decide_eq_true_eq] at hb4
                rw [if_pos (by omega)] at eR
                exact retB .order H6 _ _ ((hsl.trans s6).trans s7) eR rfl
              · rw [Bool.or_eq_false_iff, decide_eq_false_iff_not, decide_eq_false_iff_not] at hb4
                rw [if_neg (by omega)] at eR
                have hL6 := s7.seq hL5
                have hO6 := s7.seq hO5
                have pick : ∀ (z : Int) (te : TE) (H' : Hp), (∀ H7, Same H' H7 → Vl te [some (.str w), some (.int n), some bV, some (.ref W), y4, some (.ref L), some (.ref o), none] H7 (.int z)) → Ve (tOp (rIxL K) (tLst (tCons te (tCons (tC .non) tNil))) (tCB (fun xs H Q => (∃ i, xs = [V.int i] ∧ Q (V.int i) H) ∨ ∃ k, xs = [V.bl k] ∧ Q (V.int (if k then 1 else 0)) H) (tCons (tOp (rI0 fun i j => .bl (decide (i < j))) te (tC (.int 0))) tNil)))
                    [some (.str w), some (.int n), some bV, some (.ref W), y4, some (.ref L), some (.ref o), none] H' (oV (if z < 0 then none else some z)) := fun z te H' h => by
                  refine ve_ixNew (xs := [.int z, .non]) (vn_lst (va_cons (h H' (Same.refl H')) (va_cons vl_c va_nil)) (small 2 (by decide))) (fun H7 s7 => vl_int1b (vl_I0 (h H7 s7) vl_c)) ?_
                  by_cases hz : z < 0
                  · rw [decide_eq_true hz, if_pos hz]
                    exact atI_nat (j := 1) rfl
                  · rw [decide_eq_false hz, if_neg hz]
                    exact atI_nat (j := 0) rfl
                refine ret_pairE ?_
                refine ve_tup4 (v2 := oV (priceW w2)) (v3 := oV (priceW w3)) (ve_of (vl_ixL (vl_var rfl) vl_c hL6 (atI_nat (j := 0) rfl))) (fun H7 s8 => ve_of (vl_ixL (vl_var rfl) vl_c (s8.seq hL6) (atI_nat (j := 1) rfl))) (fun H7 s8 => ?_) (fun H7 s8 => ?_) _ fun R H7 s8 eRR => ?_
                · rw [← pv_neg]
                  exact pick (pvV w2) _ H7 fun H8 s9 => vl_ixL (vl_var rfl) vl_c ((s8.trans s9).seq hO6) (atI_nat (j := 0) rfl)
                · rw [← pv_neg]
                  exact pick (pvV w3) _ H7 fun H8 s9 => vl_ixL (vl_var rfl) vl_c ((s8.trans s9).seq hO6) (atI_nat (j := 1) rfl)
                refine ⟨by show 2 ≤ sizeLine; decide, fun T nT => qq _ T (((hsl.trans s6).trans s7).trans (s8.trans (same_upd nT))) ?_⟩
                rw [eR]
                exact ⟨R, .of upd_same, .of (same_upd nT _ _ eRR)⟩
end
/-! ### the law's reading of a text -/
def resD : Sum (Kd × Nat) Net → PyData
  | .inl f => .tuple [.str (kdS f.1), .int (f.2 : Nat)]
  | .inr N => .tuple [.str "net", netD N]
def hdB : List Str → Bool
  | [w0, w1] => decide (cs w0 = cs "places") && numB w1
  | _ => false
theorem placesR_bad {ws : List Str} (h : hdB ws = false) : placesR ws = .bad .line := by
  match ws, h with
  | [], _ => rfl
  | [_], _ => rfl
  | [w0, w1], h =>
    have h : (decide (cs w0 = cs "places") && numB w1) = false := h
    exact if_neg (by rw [h]; exact Bool.false_ne_true)
  | _ :: _ :: _ :: _, _ => rfl
theorem drop_cons {R : List Str} {l0 : Str} (h0 : R[0]? = some l0) (h : R.length ≠ 1) : R.dropLast = l0 :: R.dropLast.tail := by
  cases R with
  | nil => cases h0
  | cons x r =>
    cases r with
    | nil => exact absurd rfl h
    | cons y z =>
      have e : x = l0 := Option.some.inj h0
      rw [e]
      rfl
theorem one_drop {R : List Str} (h : R.length = 1) : R.dropLast = [] := by
  cases R with
  | nil => rfl
  | cons x r =>
    cases r with
    | nil => rfl
    | cons y z => cases h
theorem two_of {ws : List Str} (h : ws.length = 2) : ∃ w0 w1, ws = [w0, w1] := by
  match ws, h with
  | [w0, w1], _ => exact ⟨w0, w1, rfl⟩
theorem hd_two {ws : List Str} (h : hdB ws = true) : ∃ w0 w1, ws = [w0, w1] := by
  match ws, h with
  | [w0, w1], _ => exact ⟨w0, w1, rfl⟩
theorem hd_not {ws : List Str} (h : ws.length ≠ 2) : hdB ws = false := by
  match ws, h with
  | [], _ => rfl
  | [_], _ => rfl
  | [_, _], h => exact absurd rfl h
  | _ :: _ :: _ :: _, _ => rfl
theorem kdS_ne (k : Kd) : kdS k ≠ "" := by
  cases k <;> decide +kernel
section
variable {K : PySem.W.Frag} {σ : L2.St} {H : Hp} {te : TE} {v : V}
theorem ax_isNV (h : Ve te σ H v) : Ax (tTest (tOp (fun x y H Q => y = V.non ∧ Q (V.bl (decide (x = V.non))) H) te (tC .non))) σ H (decide (v = .non)) := fun Q k => h _ fun H' s' => ⟨rfl, _, rfl, k H' s'⟩
end
theorem net_new {K : PySem.W.Frag} {H : Hp} {o R : Addr} {n : Int} {ys : List V} {ls : List Lnk} (ho : H o = some (.lst ys)) (hy : DpAll K H ys (ls.map lnkD)) (nR : H R = none) : NetAt K (upd H R (.tup [.int n, .ref o])) (.ref R) ⟨n, ls⟩ :=
  ⟨R, o, ys, rfl, upd_same, same_upd nR _ _ ho, DpAll.to hy (same_upd nR)⟩
abbrev sLRead : Stmt := topS 31
theorem scLRead : FnScope ["text", "lines", "words", "size", "links", "k", "before", "fault", "link"] ["text"] (defScope sLRead) := ⟨rfl, rfl, rfl, by decide +kernel, rfl, by decide +kernel, by decide +kernel⟩
def spLRead (K : PySem.W.Frag) : Sp := fun vs H Q _ => ∃ w : Str, vs = [.str w] ∧ w.length ≤ 900000 ∧ ∀ H' T, Same H H' → Dp K H' (.ref T) (resD (textR w)) → Q (.ref T) H'
section
variable {P : Program} {w : World} {K : PySem.W.Frag} {mg : Str → Option Value} {base : Heap}
theorem ok_lread {f : Addr} {fd : FuncData} (F : Fun K "_law_read" "_law_read" sLRead f fd) (c_law_number : Kal P w K mg base 1 "_law_number" ["word"] spLNum) (c_law_line : Kal P w K mg base 2 "_law_line" ["line", "size", "before"] (spLLine K)) (ml : mg "len" = none) (mr : mg "range" = none) : FnOk P w K mg base CX0 3 f fd ["text"] (spLRead K) := by
  refine F.ok scLRead (fun vs H Q E h => ?_) (fun cdv A outer s H vs Q E hr h => ?_)
  · obtain ⟨w, rfl, _⟩ := h
    rfl
  · obtain ⟨w, rfl, hl, q⟩ := h
    refine ⟨_, pss_cons (ps_set (i := 1) scLRead.nd rfl (.inl rfl) (pe_split (pv 0) pe_str))
      (pss_cons (ps_set (i := 2) scLRead.nd rfl (.inl rfl) (pe_split (pe_ix ix_list (pv 1) pe_int (fun _ _ => rfl)) pe_str))
      (pss_cons (ps_if (PW.pt (pw_or (pt_cmpR op_eq (pe_callB call_len_seq (by rfl) ml PySem.boot_len (pa_cons (pv 1) pa_nil)) pe_int (nomark _)) (pw_or (pt_cmpR op_ne (pe_callB call_len_seq (by rfl) ml PySem.boot_len (pa_cons (pv 2) pa_nil)) pe_int (nomark _)) (pw_or (pt_cmpR op_ne (pe_ix ix_list (pv 2) pe_int (fun _ _ => rfl)) pe_str (nomark _)) (pw_or1 (pt_cmpR op_isN (pe_k c_law_number hr (by decide) (by rfl) (pa_cons (pe_ix ix_list (pv 2) pe_int (fun _ _ => rfl)) pa_nil)) pe_non (nomark _)))))))
      (pss_one (ps_ret (pe_tup (pa_cons pe_str (pa_cons pe_int pa_nil)))))
      pss_nil)
      (pss_cons (ps_set (i := 3) scLRead.nd rfl (.inl rfl) (pe_k c_law_number hr (by decide) (by rfl) (pa_cons (pe_ix ix_list (pv 2) pe_int (fun _ _ => rfl)) pa_nil)))
      (pss_cons (ps_if (pt_not (pt_chain op_le op_le pe_int (pv 3) pe_int))
      (pss_one (ps_ret (pe_tup (pa_cons pe_str (pa_cons pe_int pa_nil)))))
      pss_nil)
      (pss_cons (ps_set (i := 4) scLRead.nd rfl (.inl rfl) (pe_lst pa_nil))
      (pss_cons (ps_for PassesOwn.never rfl (pi_range2 (by rfl) mr (pa_cons pe_int (pa_cons (pe_callB call_len_seq (by rfl) ml PySem.boot_len (pa_cons (pv 1) pa_nil)) pa_nil))) (pg_name (i := 5) scLRead.nd rfl (.inl rfl))
      (pss_cons (ps_if (pt_cmpR op_eq (pv 5) (pe_op op_sub (pe_callB call_len_seq (by rfl) ml PySem.boot_len (pa_cons (pv 1) pa_nil)) pe_int) (nomark _))
        (pss_cons (ps_if (pt_cmpR op_eq (pe_ix ix_list (pv 1) (pv 5) (fun _ _ => rfl)) pe_str (nomark _))
          (pss_one (ps_ret (pe_tup (pa_cons pe_str (pa_cons (pe_tup (pa_cons (pv 3) (pa_cons (pv 4) pa_nil))) pa_nil)))))
          pss_nil)
          (pss_one (ps_ret (pe_tup (pa_cons pe_str (pa_cons (pv 5) pa_nil))))))
        pss_nil)
        (pss_cons (ps_set (i := 6) scLRead.nd rfl (.inl rfl) pe_non)
        (Evl.pss_cut (ps_if (pt_cmpR op_gt (pe_callB call_len_seq (by rfl) ml PySem.boot_len (pa_cons (pv 4) pa_nil)) pe_int (nomark _))
        (pss_one (ps_set (i := 6) scLRead.nd rfl (.inl rfl) (pe_slice sl_tup (pe_ix ix_list (pv 4) (pe_un un_neg pe_int) (fun _ _ => rfl)) po_none (po_some pe_int))))
        pss_nil)
        (pss_cons (ps_asg (pe_k c_law_line hr (by decide) (by rfl) (pa_cons (pe_ix ix_list (pv 1) (pv 5) (fun _ _ => rfl)) (pa_cons (pv 3) (pa_cons (pv 6) pa_nil)))) (pg_tup rfl (pgs_cons (pg_name (i := 7) scLRead.nd rfl (.inl rfl)) (pgs_cons (pg_name (i := 8) scLRead.nd rfl (.inl rfl)) pgs_nil))))
        (pss_cons (ps_if (pt_cmpR op_ne (pv 7) pe_str (nomark _))
        (pss_one (ps_ret (pe_tup (pa_cons (pv 7) (pa_cons (pv 5) pa_nil)))))
        pss_nil)
        (pss_one (ps_expr (pe_bm PySem.F.plainAttrs_list PySem.F.slot_list_append PySem.F.type_list_append mt_append (pv 4) (pa_cons (pv 8) pa_nil))))))))))
      (pss_one (ps_ret (pe_tup (pa_cons pe_str (pa_cons pe_int pa_nil))))))))))), ?_⟩
    have hrl := rows_le w
    have hrn := rows_ne w
    refine q_asgN (vn_split (vl_var rfl) (by decide +kernel) (Nat.le_trans (show w.length + 2 ≤ 2000000 by omega) (by decide))) fun ps H1 s1 np eps => ?_
    have q : ∀ H' T, Same H H' → Dp K H' (.ref T) (resD (readR (rows w).dropLast ((rows w).getLast?.getD ""))) → Q (.ref T) H' := q
    have hps : H1 ps = some (.lst ((rows w).map V.str)) := eps
    clear eps
    generalize rows w = R at q hrl hrn hps
    have hR0 : 0 < R.length := List.length_pos_iff.mpr hrn
    obtain ⟨last, eL⟩ : ∃ last, last = R.getLast?.getD "" := ⟨_, rfl⟩
    have hlastg := last_get (d := ("" : Str)) hrn
    rw [← eL] at q hlastg
    have hg0 : R[0]? = some R[0] := List.getElem?_eq_getElem hR0
    generalize R[0] = l0 at hg0
    have hl0 : l0.length ≤ 900000 := Nat.le_trans (hrl.1 _ (List.mem_of_getElem? hg0)) hl
    have gv : ∀ {j : Nat} {u : Str}, R[j]? = some u → atI (R.map V.str) (j : Int) = some (.str u) := fun {j u} h => atI_nat (by
      rw [List.getElem?_map, h]
      rfl)
    refine q_asgN (vn_split (w := l0) (vl_ixL (vl_var rfl) vl_c (.of hps) (gv hg0)) (by decide +kernel) (Nat.le_trans (show l0.length + 2 ≤ 2000000 by omega) (by decide))) fun W H2 s2 nW eW => ?_
    have hW : SqL K H2 W ((words l0).map V.str) := .of eW
    have hwl := (words_le l0).1
    have hR : SqL K H2 ps (R.map V.str) := .of (s2 _ _ hps)
    clear eW
    have s12 := s1.trans s2
    have retF : ∀ (k : Kd) (j : Nat) (H' : Hp) (σ : L2.St) (D : Ends) (te : TE), Same H H' → Vl te σ H' (.int (j : Nat)) → readR R.dropLast last = .inl (k, j) → D.rt = Q → tRet (tTup (tCons (tC (.str (kdS k))) (tCons te tNil))) D σ H' := fun k j H' σ D te s' hv e eD => hv _ ⟨by show 2 ≤ sizeLine; decide, fun T nT => by
      rw [eD]
      refine q _ T (s'.trans (same_upd nT)) ?_
      rw [e]
      exact .tup (.of upd_same) (.cons (.str _) (.cons (.int _) .nil))⟩
    have eRd : ∀ r, R.dropLast = l0 :: r → readR R.dropLast last = (match placesR (words l0) with
          | .bad k => .inl (k, 0)
          | .ok n => match rdL n 0 0 1 r [] with
            | .inl f => .inl f
            | .inr ls => if cs last = [] then .inr ⟨n, ls⟩ else .inl (.line, (l0 :: r).length)) := fun r e => by
      rw [e]
      rfl
    have hdl : R.length ≠ 1 → R.dropLast = l0 :: R.dropLast.tail := drop_cons hg0
    generalize words l0 = ws at hW hwl eRd
    refine q_whenx (b := decide ((R.length : Int) = 1) || !hdB ws) ?_ (fun hb H3 s3 => ?_) (fun hb H3 s3 => ?_)
    · refine ax_or (ax_of ((an_test (vl_eq ((vl_lenL (vl_var rfl) hR).is (by rw [List.length_map])) vl_c rfl)).is ?_)) fun _ H3 s3 => ?_
      · rw [Bool.eq_iff_iff, decide_eq_true_eq, decide_eq_true_eq]
        exact ⟨fun z => V.int.inj z, fun z => by rw [z]⟩
      · have hW3 := s3.seq hW
        by_cases hn : ws.length = 2
        · obtain ⟨w0, w1, rfl⟩ := two_of hn
          have l1 : w1.length ≤ 1000000 := Nat.le_trans (hwl w1 (by simp)) (by omega)
          refine (ax_or (k := false) (m := !decide (cs w0 = cs "places") || !numB w1) (ax_of ((an_test (vl_ne ((vl_lenL (vl_var rfl) hW3).is (by rw [List.length_map])) vl_c rfl)).is (by show (!decide (V.int 2 = V.int 2)) = false; rw [decide_eq_true rfl]; rfl))) fun _ H4 s4 => ax_or (ax_of ((an_test (vl_ne (vl_ixL (vl_var rfl) vl_c (s4.seq hW3) (atI_nat (j := 0) rfl)) vl_c rfl)).is (by rw [str_eq]))) fun _ H5 s5 => (ax_isNV (ve_lnum (vl_ixL (vl_var rfl) vl_c ((s4.trans s5).seq hW3) (atI_nat (j := 1) rfl)) l1)).is (by rw [oV_non, numV_non])).is ?_
          show (false || (!decide (cs w0 = cs "places") || !numB w1)) = !(decide (cs w0 = cs "places") && numB w1)
          rw [Bool.false_or, Bool.not_and]
        · refine (ax_or (k := true) (m := false) (ax_of ((an_test (vl_ne ((vl_lenL (vl_var rfl) hW3).is (by rw [List.length_map])) vl_c rfl)).is ?_)) fun z => nomatch z).is ?_
          · rw [decide_eq_false (fun z => hn (by
              have := V.int.inj z
              omega))]
            rfl
          · rw [hd_not hn]
            rfl
    · refine retF .line 0 H3 _ _ _ (s12.trans s3) vl_c ?_ rfl
      by_cases h1 : R.length = 1
      · rw [one_drop h1]
        rfl
      · rw [decide_eq_false (show ¬ (R.length : Int) = 1 by omega), Bool.false_or, Bool.not_eq_true'] at hb
        rw [eRd _ (hdl h1), placesR_bad hb]
    · rw [Bool.or_eq_false_iff, decide_eq_false_iff_not, Bool.not_eq_false'] at hb
      obtain ⟨w0, w1, rfl⟩ := hd_two hb.2
      have hb2 : (decide (cs w0 = cs "places") && numB w1) = true := hb.2
      have n1 : numB w1 = true := (Bool.and_eq_true_iff.mp hb2).2
      have l1 : w1.length ≤ 1000000 := Nat.le_trans (hwl w1 (by simp)) (by omega)
      have hlen : R.length ≠ 1 := by omega
      have eR := eRd _ (hdl hlen)
      have hdl := hdl hlen
      generalize R.dropLast.tail = r at eR hdl
      have hRe : R.length = r.length + 2 := by
        have := congrArg List.length hdl
        rw [List.length_dropLast, List.length_cons] at this
        omega
      have hRg : ∀ i u, r[i]? = some u → R[i + 1]? = some u := fun i u h => by
        have h2 : (R.dropLast)[i + 1]? = some u := by
          rw [hdl]
          exact h
        rw [List.dropLast_eq_take, List.getElem?_take] at h2
        split at h2
        · exact h2
        · cases h2
      have eP : placesR [w0, w1] = (if 1 ≤ (val w1 : Int) ∧ (val w1 : Int) ≤ 40 then PR.ok (val w1) else .bad .place) := if_pos hb2
      rw [eP] at eR
      have s13 := s12.trans s3
      refine q_asgV ((ve_lnum (vl_ixL (vl_var rfl) vl_c (s3.seq hW) (atI_nat (j := 1) rfl)) l1).is (show oV (numV w1) = .int (val w1 : Nat) by rw [numV_some n1]; rfl)) fun H4 s4 => ?_
      refine q_when (b := !(decide ((1 : Int) ≤ (val w1 : Nat)) && decide (((val w1 : Nat) : Int) ≤ 40))) (an_not (an_test (vl_chainI vl_c (vl_var rfl) vl_c))) (fun hb => ?_) (fun hb => ?_)
      · rw [if_neg (fun z => by
          rw [decide_eq_true z.1, decide_eq_true z.2] at hb
          exact absurd hb (by decide))] at eR
        exact retF .place 0 H4 _ _ _ (s13.trans s4) vl_c eR rfl
      · rw [Bool.not_eq_false', Bool.and_eq_true, decide_eq_true_eq, decide_eq_true_eq] at hb
        rw [if_pos hb] at eR
        have eR : readR R.dropLast last = (match rdL (val w1 : Nat) 0 0 1 r [] with
            | .inl f => .inl f
            | .inr ls => if cs last = [] then .inr ⟨(val w1 : Nat), ls⟩ else .inl (.line, (l0 :: r).length)) := eR
        generalize ((val w1 : Nat) : Int) = n at eR hb ⊢
        have s14 := s13.trans s4
        have hR4 : SqL K H4 ps (R.map V.str) := .of ((s3.trans s4) _ _ (s2 _ _ hps))
        refine q_lnew fun o no => ?_
        have so : Same H4 (upd H4 o (.lst [])) := same_upd no
        refine q_forR2 (lo := 1) (n := (R.length : Int)) (va_cons vl_c (va_cons ((vl_lenL (vl_var rfl) (so.seq hR4)).is (by rw [List.length_map])) va_nil)) ⟨by decide, by decide, by have := hrl.2; omega, by have := hrl.2; omega⟩
          (fun i σ H5 => i ≤ r.length ∧ ∃ y5 y6 y7 y8 p q acc ys, σ = [some (.str w), some (.ref ps), some (.ref W), some (.int n), some (.ref o), y5, y6, y7, y8] ∧ H5 o = some (.lst ys) ∧ Same H4 (but H5 o) ∧ DpAll K (but H5 o) ys (acc.map lnkD) ∧ acc.length ≤ i ∧ ((acc = [] ∧ p = 0 ∧ q = 0) ∨ ∃ l, acc[acc.length - 1]? = some l ∧ l.a = p ∧ l.b = q ∧ acc ≠ []) ∧ rdL n 0 0 1 r [] = rdL n p q (1 + i) (r.drop i) acc)
          ⟨Nat.zero_le _, none, none, none, none, 0, 0, [], [], rfl, upd_same, same_but so no, .nil, Nat.le_refl _, .inl ⟨rfl, rfl, rfl⟩, rfl⟩ (fun i σ H5 hi hP => ?_) (fun σ H5 hP => ?_)
        · obtain ⟨hir, y5, y6, y7, y8, p, q0, acc, ys, rfl, ho, s5, hy, hal, hpq, er⟩ := hP
          have h5 : Same H4 H5 := s5.trans but_same
          have hR5 := h5.seq hR4
          have hlen5 : ∀ σ' : L2.St, σ'[1]? = some (some (.ref ps)) → Vl (tCB (fun xs H Q => ∃ p ys, xs = [V.ref p] ∧ (SqL K H p ys ∨ SqT K H p ys) ∧ Q (V.int ys.length) H) (tCons (tVar 1) tNil)) σ' H5 (.int (R.length : Nat)) := fun σ' e => (vl_lenL (vl_var e) hR5).is (by rw [List.length_map])
          refine q_when (b := decide (V.int (1 + (i : Int)) = V.int ((R.length : Int) - 1))) (an_test (vl_eq (vl_var rfl) (vl_I0 (hlen5 _ rfl) vl_c) rfl)) (fun hb => ?_) (fun hb => ?_)
          · have hb := V.int.inj (of_decide_eq_true hb)
            have ei : i = r.length := by omega
            subst ei
            rw [List.drop_length] at er
            have er : rdL n 0 0 1 r [] = .inr acc := er
            rw [er] at eR
            have eR : readR R.dropLast last = if cs last = [] then .inr ⟨n, acc⟩ else .inl (.line, (l0 :: r).length) := eR
            have gl : atI (R.map V.str) (1 + (r.length : Int)) = some (.str last) := by
              have := gv hlastg
              rw [show ((R.length - 1 : Nat) : Int) = 1 + (r.length : Int) by omega] at this
              exact this
            refine q_when (b := decide (V.str last = V.str "")) (an_test (vl_eq (vl_ixL (vl_var rfl) (vl_var rfl) hR5 gl) vl_c rfl)) (fun hb => ?_) (fun hb => ?_)
            · rw [str_eq, show cs "" = [] by decide +kernel] at hb
              rw [if_pos (of_decide_eq_true hb)] at eR
              refine ⟨.int n, rfl, .ref o, rfl, by show 2 ≤ sizeLine; decide, fun A nA => ⟨by show 2 ≤ sizeLine; decide, fun T nT => ?_⟩⟩
              have hN := net_new (n := n) ho (DpAll.to hy but_same) nA
              refine q _ T ((s14.trans h5).trans ((same_upd nA).trans (same_upd nT))) ?_
              rw [eR]
              exact .tup (.of upd_same) (.cons (.str _) (.cons (hN.to (same_upd nT)).dp .nil))
            · rw [str_eq, show cs "" = [] by decide +kernel] at hb
              rw [if_neg (of_decide_eq_false hb)] at eR
              exact retF .line _ H5 _ _ _ (s14.trans h5) ((vl_var rfl).is (by
                rw [List.length_cons]
                congr 1
                omega)) eR rfl
          · have hb : i < r.length := by
              have := of_decide_eq_false hb
              have : i ≠ r.length := fun z => this (by
                congr 1
                omega)
              omega
            have hg : r[i]? = some r[i] := List.getElem?_eq_getElem hb
            have ed : r.drop i = r[i] :: r.drop (i + 1) := List.drop_eq_getElem_cons hb
            rw [ed] at er
            generalize r[i] = u at hg er
            have hu : u.length ≤ 1000000 := Nat.le_trans (hrl.1 _ (List.mem_of_getElem? (hRg i u hg))) (by omega)
            have gl : atI (R.map V.str) (1 + (i : Int)) = some (.str u) := by
              have := gv (hRg i u hg)
              rw [show ((i + 1 : Nat) : Int) = 1 + (i : Int) by omega] at this
              exact this
            have er : rdL n 0 0 1 r [] = (match linkR n p q0 (words u) with
              | .bad kd => .inl (kd, 1 + i)
              | .ok x => rdL n x.a x.b (1 + i + 1) (r.drop (i + 1)) (acc ++ [x])) := er
            have lx := DpAll.len hy
            rw [List.length_map] at lx
            refine q_asg vl_c ?_
            refine q_cut (M := fun σ' H' => ∃ bV : V, σ' = [some (.str w), some (.ref ps), some (.ref W), some (.int n), some (.ref o), some (.int (1 + (i : Int))), some bV, y7, y8] ∧ Same H5 H' ∧ ((bV = .non ∧ p = 0 ∧ q0 = 0) ∨ ∃ T, bV = .ref T ∧ SqT K H' T [.int p, .int q0])) ?_ ?_
            · have vlen : ∀ σ' : L2.St, σ'[4]? = some (some (.ref o)) → Vl (tCB (fun xs H Q => ∃ p ys, xs = [V.ref p] ∧ (SqL K H p ys ∨ SqT K H p ys) ∧ Q (V.int ys.length) H) (tCons (tVar 4) tNil)) σ' H5 (.int ys.length) := fun σ' e => vl_lenL (vl_var e) (.of ho)
              refine g_when (b := decide ((0 : Int) < (ys.length : Int))) (an_test (vl_I0 (vlen _ rfl) vl_c)) (fun hb => ?_) (fun hb => ?_)
              · have hb := of_decide_eq_true hb
                rcases hpq with ⟨rfl, _, _⟩ | ⟨l, hla, rfl, rfl, hne⟩
                · rw [lx] at hb
                  exact absurd hb (by decide)
                · obtain ⟨v', ev, dv⟩ := DpAll.get (i := acc.length - 1) (d := lnkD l) hy (by
                    rw [List.getElem?_map, hla]
                    rfl)
                  obtain ⟨tl, rfl, htl⟩ := Dp.lnk_inv dv
                  have ev2 : atI ys (-1) = some (.ref tl) := by
                    rw [← lx] at ev
                    have e : ixN ys.length (-1) = some (ys.length - 1) := by
                      unfold ixN
                      first
                        | (rw [if_neg (by omega), if_pos (by omega)]; congr 1; omega)
                        | (rw [if_pos (by omega)]; congr 1; omega)
                        | (simp; omega)
                    unfold atI
                    rw [e]
                    exact ev
                  refine (vl_ixL (K := K) (vl_var rfl) (vl_neg vl_c) (.of ho) ev2) _ ?_
                  refine ⟨2, rfl, tl, lnkV l, rfl, seqT but_same htl, fun z => ?_, fun q2 nq2 => ?_⟩
                  · have := z.2
                    rw [show HT.sIx (lnkV l).length (lnkV l).length (some 2) = min 2 4 from HT.sIx_nat 4 4 2] at this
                    exact absurd (show (2 : Nat) = 4 from this) (by decide)
                  · rw [show cutV (lnkV l) none (some 2) = [.int l.a, .int l.b] from cut_to (xs := lnkV l) (n := 2) (by show 2 ≤ 4; decide)]
                    exact ⟨.ref q2, rfl, same_upd nq2, .inr ⟨q2, rfl, .of upd_same⟩⟩
              · refine ⟨.non, rfl, Same.refl H5, .inl ⟨rfl, ?_⟩⟩
                have hb := of_decide_eq_false hb
                rcases hpq with ⟨_, h1, h2⟩ | ⟨l, hla, _, _, hne⟩
                · exact ⟨h1, h2⟩
                · have := List.length_pos_iff.mpr hne
                  omega
            · rintro σ' H6 ⟨bV, rfl, s6, hbV⟩
              refine (vl_ixL (K := K) (vl_var rfl) (vl_var rfl) (s6.seq hR5) gl) _ ⟨.int n, rfl, bV, rfl, u, n, bV, p, q0, rfl, hu, hbV, fun H7 T s7 hT => ?_⟩
              have ho7 := s7 _ _ (s6 _ _ ho)
              have e1i : (1 + (i : Int)) = ((1 + i : Nat) : Int) := by omega
              cases el : linkR n p q0 (words u) with
              | bad kd =>
                rw [el] at er hT
                have er : rdL n 0 0 1 r [] = .inl (kd, 1 + i) := er
                rw [er] at eR
                have hT : SqT K H7 T [.str (kdS kd), .non] := hT
                refine ⟨T, _, rfl, hT, rfl, _, _, rfl, _, _, rfl, rfl, ?_⟩
                refine q_when (b := !decide (V.str (kdS kd) = V.str "")) (an_test (vl_ne (vl_var rfl) vl_c rfl)) (fun _ => ?_) (fun hb => ?_)
                · refine ⟨.str (kdS kd), rfl, .int (1 + (i : Int)), rfl, by show 2 ≤ sizeLine; decide, fun A nA => ?_⟩
                  refine q _ A (((s14.trans h5).trans (s6.trans s7)).trans (same_upd nA)) ?_
                  rw [eR]
                  exact .tup (.of upd_same) (.cons (.str _) (.cons (by
                    rw [e1i]
                    exact .int _) .nil))
                · rw [decide_eq_false (fun z => kdS_ne kd (V.str.inj z))] at hb
                  cases hb
              | ok x =>
                rw [el] at er hT
                obtain ⟨R2, hT, hR2⟩ := hT
                refine ⟨T, _, rfl, hT, rfl, _, _, rfl, _, _, rfl, rfl, ?_⟩
                refine q_when (b := !decide (V.str "" = V.str "")) (an_test (vl_ne (vl_var rfl) vl_c rfl)) (fun hb => ?_) (fun _ => ?_)
                · rw [decide_eq_true rfl] at hb
                  cases hb
                · refine g_app (vl_var rfl) ho7 (vl_var rfl) ?_ ?_
                  · rw [lx]
                    exact Nat.lt_of_le_of_lt (m := 1000000) (by have := hrl.2; omega) (by decide)
                  · have sB : Same (but H5 o) (but (upd H7 o (.lst (ys ++ [.ref R2]))) o) := by
                      rw [but_upd]
                      exact but_mono (s6.trans s7)
                    refine ⟨by omega, _, _, _, _, x.a, x.b, acc ++ [x], ys ++ [.ref R2], rfl, upd_same, s5.trans sB, ?_, ?_, .inr ⟨x, ?_, rfl, rfl, by simp⟩, ?_⟩
                    · rw [List.map_append]
                      refine DpAll.app (DpAll.to hy sB) (DpAll.one (Dp.lnk ?_))
                      rw [but_upd]
                      exact seqT_but hR2 ho7
                    · rw [List.length_append]
                      exact Nat.succ_le_succ hal
                    · rw [List.length_append]
                      show (acc ++ [x])[acc.length + 1 - 1]? = some x
                      rw [Nat.add_sub_cancel, List.getElem?_append_right (Nat.le_refl _), Nat.sub_self]
                      rfl
                    · rw [er, show 1 + (i + 1) = 1 + i + 1 by omega]
        · obtain ⟨hir, _⟩ := hP
          exact absurd hir (by omega)
end
/-! ### errors that are caught, told with their lines -/
theorem vl_byLow {C a d : Addr} {te : TE} {σ : L2.St} {H : Hp} {v : V} (h : Vl te σ H (.ref a)) (hd : H d = some (.xd [("at", v)])) : Vl (tByLow C a (.ref C) (some d) te) σ H v := fun Q q => h _ ⟨rfl, rfl, d, v, rfl, hd, q⟩
def pairD (x : Str) (d : PyData) : PyData := .tuple [.str x, d]
theorem ret_pair {K : PySem.W.Frag} {σ : L2.St} {H : Hp} {D : Ends} {te : TE} {x : Str} {v : V} {d : PyData} (h : Vl te σ H v) (hd : Dp K H v d) (k : ∀ p H', Same H H' → Dp K H' (.ref p) (pairD x d) → D.rt (.ref p) H') :
    tRet (tTup (tCons (tC (.str x)) (tCons te tNil))) D σ H := h _ ⟨by show 2 ≤ sizeLine; decide, fun p np => k p _ (same_upd np) (.tup (.of upd_same) (.cons (.str x) (.cons (Dp.to hd (same_upd np)) .nil)))⟩
/-- an error of the class at one place is none of the class at the other -/
structure Apart (K : PySem.W.Frag) (C C' : Addr) : Prop where
  no : PySem.W.exmOne K (.ref C) (.ref C') = some false
/-- a name of a class that is only asked for -/
structure NmAt (mg : Str → Option Value) (x : Str) (C : Addr) : Prop where
  gC : mg x = some (.ref C)
abbrev sTT : Stmt := topS 32
theorem scTT : FnScope ["text", "e"] ["text"] (defScope sTT) := ⟨rfl, rfl, rfl, by decide +kernel, rfl, by decide +kernel, by decide +kernel⟩
def spTT (K : PySem.W.Frag) : Sp := fun vs H Q _ => ∃ w : Str, vs = [.str w] ∧ Ascii w ∧ w.length ≤ 900000 ∧ ∀ H' T, Same H H' → Dp K H' (.ref T) (resD (textR w)) → Q (.ref T) H'
section
variable {P : Program} {w : World} {K : PySem.W.Frag} {mg : Str → Option Value} {base : Heap} {CA CP CB CO CE fI : Addr}
theorem ok_tt {f : Addr} {fd : FuncData} (F : Fun K "_law_told" "_law_told" sTT f fd) (hA : PySem.LowX.LowTxt K mg "BadLine" CA fI) (hP : PySem.LowX.LowTxt K mg "BadPlace" CP fI) (hB : PySem.LowX.LowTxt K mg "BadPrice" CB fI) (hO : PySem.LowX.LowTxt K mg "WrongOrder" CO fI) (hE : NmAt mg "OverpassesError" CE)
    (PA : Apart K CP CA) (BA : Apart K CB CA) (BP : Apart K CB CP) (OA : Apart K CO CA) (OP : Apart K CO CP) (OB : Apart K CO CB) (c_read_net : KalX P w K mg base 4 "read_net" ["text"] (spRead K CA CP CB CO)) : FnOk P w K mg base CX0 5 f fd ["text"] (spTT K) := by
  refine F.ok scTT (fun vs H Q E h => ?_) (fun cdv A outer s H vs Q E hr h => ?_)
  · obtain ⟨w, rfl, _⟩ := h
    rfl
  · obtain ⟨w, rfl, hw, hl, q⟩ := h
    refine ⟨_, pss_one (ps_try_cl (tb := fun W => tRet (tTup (tCons (tC (.str "net")) (tCons (tCallS (spRead K CA CP CB CO) (WE W) (tCons (tVar 0) tNil)) tNil)))) (Wout := fun _ _ _ _ => False) rfl rfl takes0 (fun W pn xe tk _ => (pss_one (ps_ret (pe_tup (pa_cons pe_str (pa_cons (pe_ks c_read_net hr (by decide) (by rfl) tk (pa_cons (pv 0) pa_nil)) pa_nil)))))) (.named (i := 1) (ts := fun a cls d => tRet (tTup (tCons (tC (.str "line")) (tCons (tByLow CA a cls d (tVar 1)) tNil)))) scTT.nd rfl rfl ⟨rfl, by decide, .inl hA.gC⟩ (fun a oe cls d pn hz hf => (pss_one (ps_ret (pe_tup (pa_cons pe_str (pa_cons (pe_byLow hA hz hf (pv 1)) pa_nil)))))) (.named (i := 1) (ts := fun a cls d => tRet (tTup (tCons (tC (.str "place")) (tCons (tByLow CP a cls d (tVar 1)) tNil)))) scTT.nd rfl rfl ⟨rfl, by decide, .inl hP.gC⟩ (fun a oe cls d pn hz hf => (pss_one (ps_ret (pe_tup (pa_cons pe_str (pa_cons (pe_byLow hP hz hf (pv 1)) pa_nil)))))) (.named (i := 1) (ts := fun a cls d => tRet (tTup (tCons (tC (.str "price")) (tCons (tByLow CB a cls d (tVar 1)) tNil)))) scTT.nd rfl rfl ⟨rfl, by decide, .inl hB.gC⟩ (fun a oe cls d pn hz hf => (pss_one (ps_ret (pe_tup (pa_cons pe_str (pa_cons (pe_byLow hB hz hf (pv 1)) pa_nil)))))) (.named (i := 1) (ts := fun a cls d => tRet (tTup (tCons (tC (.str "order")) (tCons (tByLow CO a cls d (tVar 1)) tNil)))) scTT.nd rfl rfl ⟨rfl, by decide, .inl hO.gC⟩ (fun a oe cls d pn hz hf => (pss_one (ps_ret (pe_tup (pa_cons pe_str (pa_cons (pe_byLow hO hz hf (pv 1)) pa_nil)))))) (.bare (ts := fun a cls d => tRet (tTup (tCons (tC (.str "other")) (tCons (tC (.int 0)) tNil)))) ⟨rfl, by decide, .inl hE.gC⟩ (fun a oe cls d pn hz hf => (pss_one (ps_ret (pe_tup (pa_cons pe_str (pa_cons pe_int pa_nil)))))) .nil)))))), ?_⟩
    refine ⟨.str w, rfl, w, rfl, hw, hl, ?_⟩
    cases e : textR w with
    | inr N =>
      intro H' v s' hN
      rw [e] at q
      exact ⟨by show 2 ≤ sizeLine; decide, fun T nT => q _ T (s'.trans (same_upd nT)) (.tup (.of upd_same) (.cons (.str _) (.cons (hN.to (same_upd nT)).dp .nil)))⟩
    | inl f =>
      obtain ⟨kd, j⟩ := f
      rw [e] at q
      intro H' d s' hd
      cases kd with
      | line =>
        refine ⟨true, hA.te, fun _ a0 _ => ?_, fun z => nomatch z⟩
        exact ret_pair (K := K) (vl_byLow (vl_var rfl) hd) (.int (j : Nat)) fun p H2 s2 d2 => q H2 p (s'.trans s2) d2
      | place =>
        refine ⟨false, PA.no, (fun z => nomatch z), fun _ => ⟨true, hP.te, fun _ a0 _ => ?_, fun z => nomatch z⟩⟩
        exact ret_pair (K := K) (vl_byLow (vl_var rfl) hd) (.int (j : Nat)) fun p H2 s2 d2 => q H2 p (s'.trans s2) d2
      | price =>
        refine ⟨false, BA.no, (fun z => nomatch z), fun _ => ⟨false, BP.no, (fun z => nomatch z), fun _ => ⟨true, hB.te, fun _ a0 _ => ?_, fun z => nomatch z⟩⟩⟩
        exact ret_pair (K := K) (vl_byLow (vl_var rfl) hd) (.int (j : Nat)) fun p H2 s2 d2 => q H2 p (s'.trans s2) d2
      | order =>
        refine ⟨false, OA.no, (fun z => nomatch z), fun _ => ⟨false, OP.no, (fun z => nomatch z), fun _ => ⟨false, OB.no, (fun z => nomatch z), fun _ => ⟨true, hO.te, fun _ a0 _ => ?_, fun z => nomatch z⟩⟩⟩⟩
        exact ret_pair (K := K) (vl_byLow (vl_var rfl) hd) (.int (j : Nat)) fun p H2 s2 d2 => q H2 p (s'.trans s2) d2
end
/-! ### the law of texts -/
theorem lay_net (N : Net) : (netD N).canLay0 = true ∧ (netD N).depth ≤ 3 := by
  have h := lay_lnks N.ls
  constructor
  · show (true && (PyData.canLayAll0 (N.ls.map lnkD) && true)) = true
    rw [h.1]
    rfl
  · show max 0 (max (PyData.depthAll (N.ls.map lnkD) + 1) 0) + 1 ≤ 3
    have := h.2
    omega
theorem shaped_pair {x : Str} {d : PyData} (hx : PyData.canLay0 (.str x) = true) (h : d.canLay0 = true) (h2 : d.depth ≤ 3) : SeqAt.shaped (pairD x d) = true := by
  show ((PyData.canLay0 (.str x) && (d.canLay0 && true)) && decide (max 0 (max d.depth 0) + 1 ≤ 64)) = true
  rw [hx, h, decide_eq_true (by omega)]
  rfl
theorem shaped_res (r : Sum (Kd × Nat) Net) : SeqAt.shaped (resD r) = true := by
  cases r with
  | inl f =>
    obtain ⟨kd, j⟩ := f
    cases kd with
    | line => exact shaped_pair (x := "line") (d := .int (j : Nat)) (by decide +kernel) rfl (Nat.zero_le _)
    | place => exact shaped_pair (x := "place") (d := .int (j : Nat)) (by decide +kernel) rfl (Nat.zero_le _)
    | price => exact shaped_pair (x := "price") (d := .int (j : Nat)) (by decide +kernel) rfl (Nat.zero_le _)
    | order => exact shaped_pair (x := "order") (d := .int (j : Nat)) (by decide +kernel) rfl (Nat.zero_le _)
  | inr N => exact shaped_pair (by decide +kernel) (lay_net _).1 (lay_net _).2
theorem refl_of {d : PyData} (h : SeqAt.shaped d = true) : PyData.eqv d d = true := SeqAt.eqv_refl _ (Bool.and_eq_true_iff.mp h).1
/-- d != e where both are the same data -/
theorem ax_ne {K : PySem.W.Frag} {σ : L2.St} {H : Hp} {te te2 : TE} {d : PyData} (hd : SeqAt.shaped d = true) (h1 : ∀ Q : VK, (∀ v H', Same H H' → Dp K H' v d → Q v H') → te σ H Q) (h2 : ∀ H', Same H H' → ∀ Q : VK, (∀ v H2, Same H' H2 → Dp K H2 v d → Q v H2) → te2 σ H' Q) :
    Ax (tTest (tOp (rNeD K) te te2)) σ H false := fun Q k => h1 _ fun v H1 s1 d1 => h2 H1 s1 _ fun u H2 s2 d2 => ⟨d, d, Dp.to d1 s2, d2, hd, hd, _, rfl, by
  rw [refl_of hd]
  exact k H2 (s1.trans s2)⟩
theorem ax_neV {σ : L2.St} {H : Hp} {ta tb : TE} {x y : V} (ha : Vl ta σ H x) (hb : Ve tb σ H y) (hs : scal x y = true) : Ax (tTest (tOp rNe ta tb)) σ H (!decide (x = y)) := fun Q k => ha _ (hb _ fun H' s' => ⟨hs, _, rfl, k H' s'⟩)
abbrev sLaw : Stmt := topS 33
theorem scLaw : FnScope ["script", "draws", "net", "kept", "text", "back", "other"] ["script"] (defScope sLaw) := ⟨rfl, rfl, rfl, by decide +kernel, rfl, by decide +kernel, by decide +kernel⟩
def spLaw (K : PySem.W.Frag) : Sp := fun vs H Q _ => ∃ (a : Addr) (ns : List Int), vs = [.ref a] ∧ SqL K H a (ns.map V.int) ∧ ns.length ≤ 63 ∧ ∀ H', Q (.bl true) H'
section
variable {P : Program} {w : World} {K : PySem.W.Frag} {mg : Str → Option Value} {base : Heap} {CA CP CB CO : Addr}
theorem ok_law {f : Addr} {fd : FuncData} (F : Fun K "law" "law" sLaw f fd) (c_law_draws : Kal P w K mg base 1 "_law_draws" ["script"] (spDraws K)) (c_law_at : Kal P w K mg base 1 "_law_at" ["draws", "k", "many"] (spAt K)) (c_law_net : Kal P w K mg base 3 "_law_net" ["draws", "k", "most"] (spNet K))
    (c_write_net : Kal P w K mg base 2 "write_net" ["net"] (spWrite K)) (c_law_written : Kal P w K mg base 1 "_law_written" ["net"] (spWritten K)) (c_read_net : KalX P w K mg base 4 "read_net" ["text"] (spRead K CA CP CB CO)) (c_law_spoilt : Kal P w K mg base 2 "_law_spoilt" ["draws", "text"] (spSpoilS K))
    (c_law_told : Kal P w K mg base 5 "_law_told" ["text"] (spTT K)) (c_law_read : Kal P w K mg base 3 "_law_read" ["text"] (spLRead K)) (mi : mg "int" = none) (mL : mg "list" = none) (ms : mg "isinstance" = none) (mS : mg "str" = none) (mt : mg "tuple" = none) : FnOk P w K mg base CX0 6 f fd ["script"] (spLaw K) := by
  refine F.ok scLaw (fun vs H Q E h => ?_) (fun cdv A outer s H vs Q E hr h => ?_)
  · obtain ⟨a, ns, rfl, _⟩ := h
    rfl
  · obtain ⟨a, ns, rfl, hS, hlen, q⟩ := h
    refine ⟨_, pss_cons (ps_set (i := 1) scLaw.nd rfl (.inl rfl) (pe_k c_law_draws hr (by decide) (by rfl) (pa_cons (pv 0) pa_nil)))
      (pss_cons (ps_set (i := 2) scLaw.nd rfl (.inl rfl) (pe_k c_law_net hr (by decide) (by rfl) (pa_cons (pv 1) (pa_cons pe_int (pa_cons (pe_ix ix_list (pe_lst (pa_cons pe_int (pa_cons pe_int pa_nil))) (pe_callTy call_int1 (by rfl) mi (by decide +kernel) (pa_cons (pe_cmpR op_eq (pe_k c_law_at hr (by decide) (by rfl) (pa_cons (pv 1) (pa_cons pe_int (pa_cons pe_int pa_nil)))) pe_int (nomark _)) pa_nil)) (fun _ _ => rfl)) pa_nil)))))
      (pss_cons (ps_set (i := 3) scLaw.nd rfl (.inl rfl) (pe_tup (pa_cons (pe_ix ix_tup (pv 2) pe_int (fun _ _ => rfl)) (pa_cons (pe_callTy call_list_of (by rfl) mL (by decide +kernel) (pa_cons (pe_ix ix_tup (pv 2) pe_int (fun _ _ => rfl)) pa_nil)) pa_nil))))
      (pss_cons (ps_set (i := 4) scLaw.nd rfl (.inl rfl) (pe_k c_write_net hr (by decide) (by rfl) (pa_cons (pv 2) pa_nil)))
      (pss_cons (ps_if (PW.pt (pw_or (pt_not (pt_val (pe_callB call_isi (by rfl) ms (by decide +kernel) (pa_cons (pv 4) (pa_cons (pe_bltn (v := .ty "str") (by rfl) mS (by decide +kernel) rfl) pa_nil))))) (pw_or (pt_cmpR op_ne (pv 4) (pe_k c_law_written hr (by decide) (by rfl) (pa_cons (pv 3) pa_nil)) (nomark _)) (pw_or1 (pt_cmpR (op_neD hr.units) (pv 2) (pv 3) (nomark _))))))
      (pss_one (ps_ret pe_bl))
      pss_nil)
      (pss_cons (ps_set (i := 5) scLaw.nd rfl (.inl rfl) (pe_kx (E := fun _ _ _ => False) c_read_net hr (by decide) (by rfl) takes0 (pa_cons (pv 4) pa_nil)))
      (pss_cons (ps_if (PW.pt (pw_or (pt_not (pt_val (pe_callB call_isi (by rfl) ms (by decide +kernel) (pa_cons (pv 5) (pa_cons (pe_bltn (v := .ty "tuple") (by rfl) mt (by decide +kernel) rfl) pa_nil))))) (pw_or (pt_not (pt_val (pe_callB call_isi (by rfl) ms (by decide +kernel) (pa_cons (pe_ix ix_tup (pv 5) pe_int (fun _ _ => rfl)) (pa_cons (pe_bltn (v := .ty "list") (by rfl) mL (by decide +kernel) rfl) pa_nil))))) (pw_or1 (pt_cmpR (op_neD hr.units) (pv 5) (pv 3) (nomark _))))))
      (pss_one (ps_ret pe_bl))
      pss_nil)
      (pss_cons (ps_set (i := 6) scLaw.nd rfl (.inl rfl) (pe_k c_law_spoilt hr (by decide) (by rfl) (pa_cons (pv 1) (pa_cons (pv 4) pa_nil))))
      (pss_one (ps_ret (pe_cmpR (op_eqD hr.units) (pe_k c_law_told hr (by decide) (by rfl) (pa_cons (pv 6) pa_nil)) (pe_k c_law_read hr (by decide) (by rfl) (pa_cons (pv 6) pa_nil)) (nomark _))))))))))), ?_⟩
    -- draws
    refine q_asgE ⟨.ref a, rfl, a, ns, rfl, hS, hlen, fun H1 d ds s1 nd hd hok => ?_⟩
    have hD1 : SqL K H1 d (ds.map V.int) := .of hd
    -- net
    refine q_asgE ⟨.ref d, rfl, by show 2 ≤ sizeLine; decide, fun p0 np0 => ?_⟩
    have sp0 : Same H1 (upd H1 p0 (.lst [.int 9, .int 40])) := same_upd np0
    refine ⟨.ref d, rfl, d, ds, 10, 12, rfl, sp0.seq hD1, by decide, by decide, fun r0 hr0 => ?_⟩
    have hm : ∃ m, (m = 9 ∨ m = 40) ∧ atI [V.int 9, V.int 40] (if decide (V.int r0 = V.int 7) = true then 1 else 0) = some (.int m) := by
      cases decide (V.int r0 = V.int 7) with
      | false => exact ⟨9, .inl rfl, atI_nat (j := 0) rfl⟩
      | true => exact ⟨40, .inr rfl, atI_nat (j := 1) rfl⟩
    obtain ⟨m, hm, gm⟩ := hm
    refine ⟨rfl, .inr ⟨_, rfl, p0, _, _, _, rfl, rfl, .inl (.inl upd_same), gm, ?_⟩⟩
    refine ⟨d, ds, 12, m, rfl, sp0.seq hD1, by decide, by omega, by omega, fun H2 v N s2 hN okN hn => ?_⟩
    obtain ⟨p, c, xs, rfl, hp, hc, hx⟩ := hN
    have n1 := okN.n1
    have n40 := okN.n40
    have l16 := okN.len
    -- kept
    refine q_asgE ((vl_ixT (K := K) (vl_var rfl) vl_c (.of hp) (atI_nat (j := 0) rfl)) _ ?_)
    refine (vl_ixT (K := K) (vl_var rfl) vl_c (.of hp) (atI_nat (j := 1) rfl)) _ ?_
    refine ⟨c, xs, rfl, .inl (.of hc), fun l nl => ⟨by show 2 ≤ sizeLine; decide, fun t nt => ?_⟩⟩
    have s3 : Same H2 (upd H2 l (.lst xs)) := same_upd nl
    have s4 : Same (upd H2 l (.lst xs)) (upd (upd H2 l (.lst xs)) t (.tup [.int N.n, .ref l])) := same_upd nt
    have hK4 : NetAt K (upd (upd H2 l (.lst xs)) t (.tup [.int N.n, .ref l])) (.ref t) N := ⟨t, l, xs, rfl, upd_same, s4 _ _ upd_same, DpAll.to hx (s3.trans s4)⟩
    have hN4 : NetAt K (upd (upd H2 l (.lst xs)) t (.tup [.int N.n, .ref l])) (.ref p) N := NetAt.to ⟨p, c, xs, rfl, hp, hc, hx⟩ (s3.trans s4)
    have hD4 := ((sp0.trans s2).trans (s3.trans s4)).seq hD1
    generalize upd (upd H2 l (.lst xs)) t (.tup [.int N.n, .ref l]) = H4 at s4 hK4 hN4 hD4 ⊢
    have tl : (mkS (textC N)).length ≤ 96060 := Nat.le_trans (text_len okN) (by omega)
    have ta := text_ascii okN
    -- text
    refine q_asgE ⟨.ref p, rfl, .ref p, N, rfl, hN4.dp, okN, fun H5 s5 => ?_⟩
    refine q_whenx (b := false) (ax_or (k := false) (m := false) (ax_of ((an_not (b := true) (an_B fun Q k => ?_)))) fun _ H6 s6 => ax_or (k := false) (m := false) ((ax_neV (x := .str (mkS (textC N))) (y := .str (mkS (textC N))) (vl_var rfl) (fun Q k => ?_) rfl).is (by rw [decide_eq_true rfl]; rfl)) fun _ H7 s7 => ax_ne (shaped_net N) (fun Q k => (vl_var rfl) _ (k _ _ (Same.refl _) (hN4.to ((s5.trans s6).trans s7)).dp)) (fun H8 s8 Q k => (vl_var rfl) _ (k _ _ (Same.refl _) (hK4.to (((s5.trans s6).trans s7).trans s8)).dp))) (fun e => nomatch e) (fun _ H9 s9 => ?_)
    · exact ⟨_, rfl, _, .ty "str", .type "str", .type "str", true, rfl, .ty _, .base (.str _), kit_ty (by decide +kernel), k⟩
    · exact ⟨.ref t, rfl, .ref t, N, rfl, (hK4.to (s5.trans s6)).dp, okN, fun H' s' => k H' s'⟩
    have s49 := s5.trans s9
    -- back
    refine q_asgE ⟨.str _, rfl, mkS (textC N), rfl, ta, Nat.le_trans tl (by decide), ?_⟩
    rw [text_back okN]
    intro H10 vb s10 hb
    obtain ⟨p', c', xs', rfl, hp', hc', hx'⟩ := id hb
    refine q_whenx (b := false) (ax_or (k := false) (m := false) (ax_of ((an_not (b := true) (an_B fun Q k => ?_)))) fun _ H6 s6 => ax_or (k := false) (m := false) (ax_of ((an_not (b := true) (an_B fun Q k => ?_)))) fun _ H7 s7 => ax_ne (shaped_net N) (fun Q k => (vl_var rfl) _ (k _ _ (Same.refl _) (hb.to (s6.trans s7)).dp)) (fun H8 s8 Q k => (vl_var rfl) _ (k _ _ (Same.refl _) (hK4.to (((s49.trans s10).trans (s6.trans s7)).trans s8)).dp))) (fun e => nomatch e) (fun _ H11 s11 => ?_)
    · exact ⟨_, rfl, _, .ty "tuple", .type "tuple", .type "tuple", true, rfl, .ty _, .base (.tup hp'), kit_ty (by decide +kernel), k⟩
    · refine (vl_ixT (K := K) (vl_var rfl) vl_c (.of (s6 _ _ hp')) (atI_nat (j := 1) rfl)) _ ?_
      exact ⟨_, .ty "list", .type "list", .type "list", true, rfl, .ty _, .base (.lst (s6 _ _ hc')), kit_ty (by decide +kernel), k⟩
    have s411 := (s49.trans s10).trans s11
    -- other
    refine q_asgE ⟨.ref d, rfl, .str _, rfl, d, ds, mkS (textC N), rfl, s411.seq hD4, ta, tl, fun H12 u s12 hu hul => ?_⟩
    refine ⟨.str u, rfl, u, rfl, hu, hul, fun H13 T s13 d1 => ⟨.str u, rfl, u, rfl, hul, fun H14 T2 s14 d2 => ⟨_, _, Dp.to d1 s14, d2, shaped_res _, shaped_res _, ?_⟩⟩⟩
    rw [refl_of (shaped_res _)]
    exact q _
end
/-! ### what the top has written; the law's own head -/
theorem df_mk {K : PySem.W.Frag} {h : Heap} {mg : Str → Option Value} {x : Str} {st : Stmt} {ps : List Str} {f : Addr} {oc : Value} {od an : Option Addr} {osl : Array (Option Value)} {kV doc pm cdv ct : Value} (X : K.In h) (G : h.Ns mainGlobals mg)
    (a : PySem.W.nsIn K mainGlobals x = some (some (.ref f))) (l : K.lookup f = some ⟨oc, od, .func (PySem.W.fnOf x x (defArgs st) (defBody st) (defScope st) .none kV doc pm an cdv ct), osl⟩) (c : PySem.W.codeIn K cdv x = true) (k : PySem.W.keepIn K (.ref f) = true)
    (hb : ∀ (kV doc pm : Value) (an : Option Addr) (cdv ct : Value) (us : List Value), us.length = ps.length → bindArgs (PySem.W.fnOf x x (defArgs st) (defBody st) (defScope st) .none kV doc pm an cdv ct) ⟨us, []⟩ = pure (ps.zip us)) : Df K mg x st ps :=
  ⟨f, _, fun_mk l c k, PySem.W.mg_of X G a, (fun_mk l c k).binds hb⟩
theorem exm_two {K : PySem.W.Frag} {S : Addr} {c : Value} {b : Bool} (h1 : PySem.W.subIn K (.ref S) (.type "BaseException") = some true) (h2 : PySem.W.isClsIn K S = true) (h3 : PySem.W.typeIn K (.ref S) = some (.type "type")) (h4 : PySem.W.subIn K c (.ref S) = some b) : PySem.W.exmOne K c (.ref S) = some b := by
  have e1 : (PySem.W.subIn K (.ref S) (.type "BaseException") == some true) = true := by rw [h1] <;> rfl
  have e2 : ((PySem.W.clsIn K S).isSome && PySem.W.typeIn K (.ref S) == some (.type "type")) = true := by
    have h2' : (PySem.W.clsIn K S).isSome = true := h2
    rw [h2', h3] <;> rfl
  show (if (PySem.W.subIn K (.ref S) (.type "BaseException") == some true) = true then (if ((PySem.W.clsIn K S).isSome && PySem.W.typeIn K (.ref S) == some (.type "type")) = true then PySem.W.subIn K c (.ref S) else none) else none) = some b
  rw [if_pos e1, if_pos e2]
  exact h4
/-- what is asked of an error's class -/
structure ErrAt (K : PySem.W.Frag) (x : Str) (C CO fI : Addr) : Prop where
  a : PySem.W.nsIn K mainGlobals x = some (some (.ref C))
  xL : ∃ nm q N bs sn sub ab col dd m0 m1 m2 m3 m5, K.lookup C = some (excClassObj nm q C N bs [.ref CO, .type "ValueError", .type "Exception", .type "BaseException", .type "object"] true sn sub ab col dd m0 m1 m2 m3 m5 "ValueError.__new__")
  sa : PySem.W.findIn K (.ref C) "__setattr__" = some (some (.builtin "object.__setattr__"))
  ga : PySem.W.findIn K (.ref C) "__getattribute__" = some (some (.builtin "BaseException.__getattribute__"))
  gg : PySem.W.findIn K (.ref C) "__getattr__" = some none
  nb : PySem.W.findIn K (.ref C) "at" = some none
  ii : PySem.W.findIn K (.ref C) "__init__" = some (some (.ref fI))
  kC : PySem.W.keepIn K (.ref C) = true
  eC : PySem.W.subIn K (.ref C) (.type "BaseException") = some true
  tC : PySem.W.typeIn K (.ref C) = some (.type "type")
  hC : PySem.W.hasDictIn K C = true
  iC : PySem.W.isClsIn K C = true
  sC : PySem.W.subIn K (.ref C) (.ref C) = some true
structure InitAt (K : PySem.W.Frag) (fI : Addr) : Prop where
  t : PySem.W.typeIn K (.ref fI) = some (.type "function")
  l : ∃ oc od dc pm an cd ct sl, K.lookup fI = some ⟨oc, od, .func (PySem.W.fnOf "__init__" "OverpassesError.__init__" (PySem.LowX.iA ⟨4, 17, 4, 21⟩ ⟨4, 23, 4, 25⟩) (PySem.LowX.iB ⟨5, 8, 5, 12⟩ ⟨5, 8, 5, 15⟩ ⟨5, 18, 5, 20⟩ ⟨5, 8, 5, 20⟩) PySem.LowX.iS .none .none dc pm an cd ct), sl⟩ ∧ PySem.W.codeIn K cd "OverpassesError.__init__" = true
theorem low_mk {K : PySem.W.Frag} {h : Heap} {mg : Str → Option Value} {x : Str} {C CO fI : Addr} (X : K.In h) (G : h.Ns mainGlobals mg) (E : ErrAt K x C CO fI) (I : InitAt K fI) : PySem.LowX.LowTxt K mg x C fI := by
  obtain ⟨nm, q, N, bs, sn, sub, ab, col, dd, m0, m1, m2, m3, m5, xL⟩ := E.xL
  obtain ⟨oc, od, dc, pm, an, cd, ct, sl, l1, c1⟩ := I.l
  exact { gC := PySem.W.mg_of X G E.a, cls := ⟨nm, q, N, bs, _, sn, sub, ab, col, dd, m0, m1, m2, m3, m5, xL, rfl⟩, sa := E.sa, ga := E.ga, gg := E.gg, noN := E.nb, iC := E.ii, tC := I.t, kC := E.kC, exC := E.eC, tyC := E.tC, hdC := E.hC, te := exm_two E.eC E.iC E.tC E.sC, fn := ⟨_, _, _, _, _, _, _, _, _, _, _, _, _, _, l1, c1⟩ }
theorem all_mk {l : PySem.W.OpenLaw} {w : World} {K : PySem.W.Frag} {h : Heap} {mg : Str → Option Value} {fa f0 f1 f2 f3 f4 f5 f6 f7 f8 f9 f10 f11 f12 f13 f14 f15 f16 f17 f18 f19 f20 f21 : Addr} (X : K.In h) (G : h.Ns mainGlobals mg) (hfa : mg "law" = some (.ref fa))
    {od0 an0 od1 an1 od2 an2 od3 an3 od4 an4 od5 an5 od6 an6 od7 an7 od8 an8 od9 an9 od10 an10 od11 an11 od12 an12 od13 an13 od14 an14 od15 an15 od16 an16 od17 an17 od18 an18 od19 an19 od20 an20 od21 an21 : Option Addr} {sl0 sl1 sl2 sl3 sl4 sl5 sl6 sl7 sl8 sl9 sl10 sl11 sl12 sl13 sl14 sl15 sl16 sl17 sl18 sl19 sl20 sl21 : Array (Option Value)} {oc0 kV0 dc0 pm0 cd0 ct0 oc1 kV1 dc1 pm1 cd1 ct1 oc2 kV2 dc2 pm2 cd2 ct2 oc3 kV3 dc3 pm3 cd3 ct3 oc4 kV4 dc4 pm4 cd4 ct4 oc5 kV5 dc5 pm5 cd5 ct5 oc6 kV6 dc6 pm6 cd6 ct6 oc7 kV7 dc7 pm7 cd7 ct7 oc8 kV8 dc8 pm8 cd8 ct8 oc9 kV9 dc9 pm9 cd9 ct9 oc10 kV10 dc10 pm10 cd10 ct10 oc11 kV11 dc11 pm11 cd11 ct11 oc12 kV12 dc12 pm12 cd12 ct12 oc13 kV13 dc13 pm13 cd13 ct13 oc14 kV14 dc14 pm14 cd14 ct14 oc15 kV15 dc15 pm15 cd15 ct15 oc16 kV16 dc16 pm16 cd16 ct16 oc17 kV17 dc17 pm17 cd17 ct17 oc18 kV18 dc18 pm18 cd18 ct18 oc19 kV19 dc19 pm19 cd19 ct19 oc20 kV20 dc20 pm20 cd20 ct20 oc21 kV21 dc21 pm21 cd21 ct21 : Value}
    (a0 : PySem.W.nsIn K mainGlobals "_law_draws" = some (some (.ref f0))) (l0 : K.lookup f0 = some ⟨oc0, od0, .func (PySem.W.fnOf "_law_draws" "_law_draws" (defArgs sDraws) (defBody sDraws) (defScope sDraws) .none kV0 dc0 pm0 an0 cd0 ct0), sl0⟩) (c0 : PySem.W.codeIn K cd0 "_law_draws" = true) (k0 : PySem.W.keepIn K (.ref f0) = true)
    (a1 : PySem.W.nsIn K mainGlobals "_law_at" = some (some (.ref f1))) (l1 : K.lookup f1 = some ⟨oc1, od1, .func (PySem.W.fnOf "_law_at" "_law_at" (defArgs sAt) (defBody sAt) (defScope sAt) .none kV1 dc1 pm1 an1 cd1 ct1), sl1⟩) (c1 : PySem.W.codeIn K cd1 "_law_at" = true) (k1 : PySem.W.keepIn K (.ref f1) = true)
    (a2 : PySem.W.nsIn K mainGlobals "_law_mix" = some (some (.ref f2))) (l2 : K.lookup f2 = some ⟨oc2, od2, .func (PySem.W.fnOf "_law_mix" "_law_mix" (defArgs sMix) (defBody sMix) (defScope sMix) .none kV2 dc2 pm2 an2 cd2 ct2), sl2⟩) (c2 : PySem.W.codeIn K cd2 "_law_mix" = true) (k2 : PySem.W.keepIn K (.ref f2) = true)
    (a3 : PySem.W.nsIn K mainGlobals "_law_price" = some (some (.ref f3))) (l3 : K.lookup f3 = some ⟨oc3, od3, .func (PySem.W.fnOf "_law_price" "_law_price" (defArgs sPrice) (defBody sPrice) (defScope sPrice) .none kV3 dc3 pm3 an3 cd3 ct3), sl3⟩) (c3 : PySem.W.codeIn K cd3 "_law_price" = true) (k3 : PySem.W.keepIn K (.ref f3) = true)
    (a4 : PySem.W.nsIn K mainGlobals "_law_net" = some (some (.ref f4))) (l4 : K.lookup f4 = some ⟨oc4, od4, .func (PySem.W.fnOf "_law_net" "_law_net" (defArgs sNet) (defBody sNet) (defScope sNet) .none kV4 dc4 pm4 an4 cd4 ct4), sl4⟩) (c4 : PySem.W.codeIn K cd4 "_law_net" = true) (k4 : PySem.W.keepIn K (.ref f4) = true)
    (a5 : PySem.W.nsIn K mainGlobals "is_price" = some (some (.ref f5))) (l5 : K.lookup f5 = some ⟨oc5, od5, .func (PySem.W.fnOf "is_price" "is_price" (defArgs sIsPrice) (defBody sIsPrice) (defScope sIsPrice) .none kV5 dc5 pm5 an5 cd5 ct5), sl5⟩) (c5 : PySem.W.codeIn K cd5 "is_price" = true) (k5 : PySem.W.keepIn K (.ref f5) = true)
    (a6 : PySem.W.nsIn K mainGlobals "write_net" = some (some (.ref f6))) (l6 : K.lookup f6 = some ⟨oc6, od6, .func (PySem.W.fnOf "write_net" "write_net" (defArgs sWrite) (defBody sWrite) (defScope sWrite) .none kV6 dc6 pm6 an6 cd6 ct6), sl6⟩) (c6 : PySem.W.codeIn K cd6 "write_net" = true) (k6 : PySem.W.keepIn K (.ref f6) = true)
    (a7 : PySem.W.nsIn K mainGlobals "read_net" = some (some (.ref f7))) (l7 : K.lookup f7 = some ⟨oc7, od7, .func (PySem.W.fnOf "read_net" "read_net" (defArgs sRead) (defBody sRead) (defScope sRead) .none kV7 dc7 pm7 an7 cd7 ct7), sl7⟩) (c7 : PySem.W.codeIn K cd7 "read_net" = true) (k7 : PySem.W.keepIn K (.ref f7) = true)
    (a8 : PySem.W.nsIn K mainGlobals "_price_text" = some (some (.ref f8))) (l8 : K.lookup f8 = some ⟨oc8, od8, .func (PySem.W.fnOf "_price_text" "_price_text" (defArgs sPText) (defBody sPText) (defScope sPText) .none kV8 dc8 pm8 an8 cd8 ct8), sl8⟩) (c8 : PySem.W.codeIn K cd8 "_price_text" = true) (k8 : PySem.W.keepIn K (.ref f8) = true)
    (a9 : PySem.W.nsIn K mainGlobals "_read_places" = some (some (.ref f9))) (l9 : K.lookup f9 = some ⟨oc9, od9, .func (PySem.W.fnOf "_read_places" "_read_places" (defArgs sRPlaces) (defBody sRPlaces) (defScope sRPlaces) .none kV9 dc9 pm9 an9 cd9 ct9), sl9⟩) (c9 : PySem.W.codeIn K cd9 "_read_places" = true) (k9 : PySem.W.keepIn K (.ref f9) = true)
    (a10 : PySem.W.nsIn K mainGlobals "_read_link" = some (some (.ref f10))) (l10 : K.lookup f10 = some ⟨oc10, od10, .func (PySem.W.fnOf "_read_link" "_read_link" (defArgs sRLink) (defBody sRLink) (defScope sRLink) .none kV10 dc10 pm10 an10 cd10 ct10), sl10⟩) (c10 : PySem.W.codeIn K cd10 "_read_link" = true) (k10 : PySem.W.keepIn K (.ref f10) = true)
    (a11 : PySem.W.nsIn K mainGlobals "_is_link_line" = some (some (.ref f11))) (l11 : K.lookup f11 = some ⟨oc11, od11, .func (PySem.W.fnOf "_is_link_line" "_is_link_line" (defArgs sIsLL) (defBody sIsLL) (defScope sIsLL) .none kV11 dc11 pm11 an11 cd11 ct11), sl11⟩) (c11 : PySem.W.codeIn K cd11 "_is_link_line" = true) (k11 : PySem.W.keepIn K (.ref f11) = true)
    (a12 : PySem.W.nsIn K mainGlobals "_is_number" = some (some (.ref f12))) (l12 : K.lookup f12 = some ⟨oc12, od12, .func (PySem.W.fnOf "_is_number" "_is_number" (defArgs sIsNum) (defBody sIsNum) (defScope sIsNum) .none kV12 dc12 pm12 an12 cd12 ct12), sl12⟩) (c12 : PySem.W.codeIn K cd12 "_is_number" = true) (k12 : PySem.W.keepIn K (.ref f12) = true)
    (a13 : PySem.W.nsIn K mainGlobals "_number" = some (some (.ref f13))) (l13 : K.lookup f13 = some ⟨oc13, od13, .func (PySem.W.fnOf "_number" "_number" (defArgs sNum) (defBody sNum) (defScope sNum) .none kV13 dc13 pm13 an13 cd13 ct13), sl13⟩) (c13 : PySem.W.codeIn K cd13 "_number" = true) (k13 : PySem.W.keepIn K (.ref f13) = true)
    (a14 : PySem.W.nsIn K mainGlobals "_read_price" = some (some (.ref f14))) (l14 : K.lookup f14 = some ⟨oc14, od14, .func (PySem.W.fnOf "_read_price" "_read_price" (defArgs sRPrice) (defBody sRPrice) (defScope sRPrice) .none kV14 dc14 pm14 an14 cd14 ct14), sl14⟩) (c14 : PySem.W.codeIn K cd14 "_read_price" = true) (k14 : PySem.W.keepIn K (.ref f14) = true)
    (a15 : PySem.W.nsIn K mainGlobals "_law_written" = some (some (.ref f15))) (l15 : K.lookup f15 = some ⟨oc15, od15, .func (PySem.W.fnOf "_law_written" "_law_written" (defArgs sWritten) (defBody sWritten) (defScope sWritten) .none kV15 dc15 pm15 an15 cd15 ct15), sl15⟩) (c15 : PySem.W.codeIn K cd15 "_law_written" = true) (k15 : PySem.W.keepIn K (.ref f15) = true)
    (a16 : PySem.W.nsIn K mainGlobals "_law_spoilt" = some (some (.ref f16))) (l16 : K.lookup f16 = some ⟨oc16, od16, .func (PySem.W.fnOf "_law_spoilt" "_law_spoilt" (defArgs sSpoilS) (defBody sSpoilS) (defScope sSpoilS) .none kV16 dc16 pm16 an16 cd16 ct16), sl16⟩) (c16 : PySem.W.codeIn K cd16 "_law_spoilt" = true) (k16 : PySem.W.keepIn K (.ref f16) = true)
    (a17 : PySem.W.nsIn K mainGlobals "_law_number" = some (some (.ref f17))) (l17 : K.lookup f17 = some ⟨oc17, od17, .func (PySem.W.fnOf "_law_number" "_law_number" (defArgs sLNum) (defBody sLNum) (defScope sLNum) .none kV17 dc17 pm17 an17 cd17 ct17), sl17⟩) (c17 : PySem.W.codeIn K cd17 "_law_number" = true) (k17 : PySem.W.keepIn K (.ref f17) = true)
    (a18 : PySem.W.nsIn K mainGlobals "_law_line" = some (some (.ref f18))) (l18 : K.lookup f18 = some ⟨oc18, od18, .func (PySem.W.fnOf "_law_line" "_law_line" (defArgs sLLine) (defBody sLLine) (defScope sLLine) .none kV18 dc18 pm18 an18 cd18 ct18), sl18⟩) (c18 : PySem.W.codeIn K cd18 "_law_line" = true) (k18 : PySem.W.keepIn K (.ref f18) = true)
    (a19 : PySem.W.nsIn K mainGlobals "_law_read" = some (some (.ref f19))) (l19 : K.lookup f19 = some ⟨oc19, od19, .func (PySem.W.fnOf "_law_read" "_law_read" (defArgs sLRead) (defBody sLRead) (defScope sLRead) .none kV19 dc19 pm19 an19 cd19 ct19), sl19⟩) (c19 : PySem.W.codeIn K cd19 "_law_read" = true) (k19 : PySem.W.keepIn K (.ref f19) = true)
    (a20 : PySem.W.nsIn K mainGlobals "_law_told" = some (some (.ref f20))) (l20 : K.lookup f20 = some ⟨oc20, od20, .func (PySem.W.fnOf "_law_told" "_law_told" (defArgs sTT) (defBody sTT) (defScope sTT) .none kV20 dc20 pm20 an20 cd20 ct20), sl20⟩) (c20 : PySem.W.codeIn K cd20 "_law_told" = true) (k20 : PySem.W.keepIn K (.ref f20) = true)
    (a21 : PySem.W.nsIn K mainGlobals "law" = some (some (.ref f21))) (l21 : K.lookup f21 = some ⟨oc21, od21, .func (PySem.W.fnOf "law" "law" (defArgs sLaw) (defBody sLaw) (defScope sLaw) .none kV21 dc21 pm21 an21 cd21 ct21), sl21⟩) (c21 : PySem.W.codeIn K cd21 "law" = true) (k21 : PySem.W.keepIn K (.ref f21) = true)
    {CO fI : Addr} {C0 C1 C2 C3 : Addr} {ocI : Value} {odI anI : Option Addr} {slI : Array (Option Value)} {dcI pmI cdI ctI : Value}
    (tI : PySem.W.typeIn K (.ref fI) = some (.type "function")) (lI : K.lookup fI = some ⟨ocI, odI, .func (PySem.W.fnOf "__init__" "OverpassesError.__init__" (PySem.LowX.iA ⟨4, 17, 4, 21⟩ ⟨4, 23, 4, 25⟩) (PySem.LowX.iB ⟨5, 8, 5, 12⟩ ⟨5, 8, 5, 15⟩ ⟨5, 18, 5, 20⟩ ⟨5, 8, 5, 20⟩) PySem.LowX.iS .none .none dcI pmI anI cdI ctI), slI⟩) (cI : PySem.W.codeIn K cdI "OverpassesError.__init__" = true)
    {nm100 : Str} {q100 : Str} {N100 : Addr} {bs100 : List Value} {sn100 : List Str} {sub100 : List Value} {ab100 : Bool} {col100 : Option Bool} {dd100 : Option Addr} {m0100 : Option Value} {m1100 : Option Value} {m2100 : Option Value} {m3100 : Option Value} {m5100 : Option Value}
    (ea0 : PySem.W.nsIn K mainGlobals "BadLine" = some (some (.ref C0))) (ex0 : K.lookup C0 = some (excClassObj nm100 q100 C0 N100 bs100 [.ref CO, .type "ValueError", .type "Exception", .type "BaseException", .type "object"] true sn100 sub100 ab100 col100 dd100 m0100 m1100 m2100 m3100 m5100 "ValueError.__new__"))
    (es0 : PySem.W.findIn K (.ref C0) "__setattr__" = some (some (.builtin "object.__setattr__"))) (eg0 : PySem.W.findIn K (.ref C0) "__getattribute__" = some (some (.builtin "BaseException.__getattribute__"))) (eh0 : PySem.W.findIn K (.ref C0) "__getattr__" = some none) (en0 : PySem.W.findIn K (.ref C0) "at" = some none) (ei0 : PySem.W.findIn K (.ref C0) "__init__" = some (some (.ref fI)))
    (ek0 : PySem.W.keepIn K (.ref C0) = true) (eb0 : PySem.W.subIn K (.ref C0) (.type "BaseException") = some true) (et0 : PySem.W.typeIn K (.ref C0) = some (.type "type")) (ed0 : PySem.W.hasDictIn K C0 = true) (ec0 : PySem.W.isClsIn K C0 = true) (ef0 : PySem.W.subIn K (.ref C0) (.ref C0) = some true)
    {nm101 : Str} {q101 : Str} {N101 : Addr} {bs101 : List Value} {sn101 : List Str} {sub101 : List Value} {ab101 : Bool} {col101 : Option Bool} {dd101 : Option Addr} {m0101 : Option Value} {m1101 : Option Value} {m2101 : Option Value} {m3101 : Option Value} {m5101 : Option Value}
    (ea1 : PySem.W.nsIn K mainGlobals "BadPlace" = some (some (.ref C1))) (ex1 : K.lookup C1 = some (excClassObj nm101 q101 C1 N101 bs101 [.ref CO, .type "ValueError", .type "Exception", .type "BaseException", .type "object"] true sn101 sub101 ab101 col101 dd101 m0101 m1101 m2101 m3101 m5101 "ValueError.__new__"))
    (es1 : PySem.W.findIn K (.ref C1) "__setattr__" = some (some (.builtin "object.__setattr__"))) (eg1 : PySem.W.findIn K (.ref C1) "__getattribute__" = some (some (.builtin "BaseException.__getattribute__"))) (eh1 : PySem.W.findIn K (.ref C1) "__getattr__" = some none) (en1 : PySem.W.findIn K (.ref C1) "at" = some none) (ei1 : PySem.W.findIn K (.ref C1) "__init__" = some (some (.ref fI)))
    (ek1 : PySem.W.keepIn K (.ref C1) = true) (eb1 : PySem.W.subIn K (.ref C1) (.type "BaseException") = some true) (et1 : PySem.W.typeIn K (.ref C1) = some (.type "type")) (ed1 : PySem.W.hasDictIn K C1 = true) (ec1 : PySem.W.isClsIn K C1 = true) (ef1 : PySem.W.subIn K (.ref C1) (.ref C1) = some true)
    {nm102 : Str} {q102 : Str} {N102 : Addr} {bs102 : List Value} {sn102 : List Str} {sub102 : List Value} {ab102 : Bool} {col102 : Option Bool} {dd102 : Option Addr} {m0102 : Option Value} {m1102 : Option Value} {m2102 : Option Value} {m3102 : Option Value} {m5102 : Option Value}
    (ea2 : PySem.W.nsIn K mainGlobals "BadPrice" = some (some (.ref C2))) (ex2 : K.lookup C2 = some (excClassObj nm102 q102 C2 N102 bs102 [.ref CO, .type "ValueError", .type "Exception", .type "BaseException", .type "object"] true sn102 sub102 ab102 col102 dd102 m0102 m1102 m2102 m3102 m5102 "ValueError.__new__"))
    (es2 : PySem.W.findIn K (.ref C2) "__setattr__" = some (some (.builtin "object.__setattr__"))) (eg2 : PySem.W.findIn K (.ref C2) "__getattribute__" = some (some (.builtin "BaseException.__getattribute__"))) (eh2 : PySem.W.findIn K (.ref C2) "__getattr__" = some none) (en2 : PySem.W.findIn K (.ref C2) "at" = some none) (ei2 : PySem.W.findIn K (.ref C2) "__init__" = some (some (.ref fI)))
    (ek2 : PySem.W.keepIn K (.ref C2) = true) (eb2 : PySem.W.subIn K (.ref C2) (.type "BaseException") = some true) (et2 : PySem.W.typeIn K (.ref C2) = some (.type "type")) (ed2 : PySem.W.hasDictIn K C2 = true) (ec2 : PySem.W.isClsIn K C2 = true) (ef2 : PySem.W.subIn K (.ref C2) (.ref C2) = some true)
    {nm103 : Str} {q103 : Str} {N103 : Addr} {bs103 : List Value} {sn103 : List Str} {sub103 : List Value} {ab103 : Bool} {col103 : Option Bool} {dd103 : Option Addr} {m0103 : Option Value} {m1103 : Option Value} {m2103 : Option Value} {m3103 : Option Value} {m5103 : Option Value}
    (ea3 : PySem.W.nsIn K mainGlobals "WrongOrder" = some (some (.ref C3))) (ex3 : K.lookup C3 = some (excClassObj nm103 q103 C3 N103 bs103 [.ref CO, .type "ValueError", .type "Exception", .type "BaseException", .type "object"] true sn103 sub103 ab103 col103 dd103 m0103 m1103 m2103 m3103 m5103 "ValueError.__new__"))
    (es3 : PySem.W.findIn K (.ref C3) "__setattr__" = some (some (.builtin "object.__setattr__"))) (eg3 : PySem.W.findIn K (.ref C3) "__getattribute__" = some (some (.builtin "BaseException.__getattribute__"))) (eh3 : PySem.W.findIn K (.ref C3) "__getattr__" = some none) (en3 : PySem.W.findIn K (.ref C3) "at" = some none) (ei3 : PySem.W.findIn K (.ref C3) "__init__" = some (some (.ref fI)))
    (ek3 : PySem.W.keepIn K (.ref C3) = true) (eb3 : PySem.W.subIn K (.ref C3) (.type "BaseException") = some true) (et3 : PySem.W.typeIn K (.ref C3) = some (.type "type")) (ed3 : PySem.W.hasDictIn K C3 = true) (ec3 : PySem.W.isClsIn K C3 = true) (ef3 : PySem.W.subIn K (.ref C3) (.ref C3) = some true)
    (ao : PySem.W.nsIn K mainGlobals "OverpassesError" = some (some (.ref CO)))
    (ap1_0 : PySem.W.subIn K (.ref C1) (.ref C0) = some false)
    (ap2_0 : PySem.W.subIn K (.ref C2) (.ref C0) = some false)
    (ap2_1 : PySem.W.subIn K (.ref C2) (.ref C1) = some false)
    (ap3_0 : PySem.W.subIn K (.ref C3) (.ref C0) = some false)
    (ap3_1 : PySem.W.subIn K (.ref C3) (.ref C1) = some false)
    (ap3_2 : PySem.W.subIn K (.ref C3) (.ref C2) = some false)
    {tk0 : Tok} (q0 : PySem.W.nsIn K mainGlobals "HIGHEST_PRICE" = some (some (.int 1000000 tk0)))
    {tk1 : Tok} (q1 : PySem.W.nsIn K mainGlobals "MOST_PLACES" = some (some (.int 40 tk1)))
    (z0 : PySem.W.nsIn K mainGlobals "range" = some none) (z1 : PySem.W.nsIn K mainGlobals "min" = some none) (z2 : PySem.W.nsIn K mainGlobals "max" = some none) (z3 : PySem.W.nsIn K mainGlobals "len" = some none) (z4 : PySem.W.nsIn K mainGlobals "abs" = some none) (z5 : PySem.W.nsIn K mainGlobals "int" = some none) (z6 : PySem.W.nsIn K mainGlobals "str" = some none) (z7 : PySem.W.nsIn K mainGlobals "list" = some none) (z8 : PySem.W.nsIn K mainGlobals "tuple" = some none) (z9 : PySem.W.nsIn K mainGlobals "isinstance" = some none) :
    ∃ fd : FuncData, (∀ (s : Shared) (v : Value), BindsTo s fd ⟨[v], []⟩ [("script", v)]) ∧ ∀ base : Heap, K.In base → base.Ns mainGlobals mg → FnOk l.prog w K mg base CX0 6 fa fd ["script"] (spLaw K) := by
  have e := hfa.symm.trans (PySem.W.mg_of X G a21)
  cases e
  have D__law_draws : Df K mg "_law_draws" sDraws ["script"] := df_mk X G a0 l0 c0 k0 (fun _ _ _ _ _ _ us hl => match us, hl with | [_], _ => rfl)
  have D__law_at : Df K mg "_law_at" sAt ["draws", "k", "many"] := df_mk X G a1 l1 c1 k1 (fun _ _ _ _ _ _ us hl => match us, hl with | [_, _, _], _ => rfl)
  have D__law_mix : Df K mg "_law_mix" sMix ["draws", "k", "many"] := df_mk X G a2 l2 c2 k2 (fun _ _ _ _ _ _ us hl => match us, hl with | [_, _, _], _ => rfl)
  have D__law_price : Df K mg "_law_price" sPrice ["draws", "k"] := df_mk X G a3 l3 c3 k3 (fun _ _ _ _ _ _ us hl => match us, hl with | [_, _], _ => rfl)
  have D__law_net : Df K mg "_law_net" sNet ["draws", "k", "most"] := df_mk X G a4 l4 c4 k4 (fun _ _ _ _ _ _ us hl => match us, hl with | [_, _, _], _ => rfl)
  have D_is_price : Df K mg "is_price" sIsPrice ["value"] := df_mk X G a5 l5 c5 k5 (fun _ _ _ _ _ _ us hl => match us, hl with | [_], _ => rfl)
  have D_write_net : Df K mg "write_net" sWrite ["net"] := df_mk X G a6 l6 c6 k6 (fun _ _ _ _ _ _ us hl => match us, hl with | [_], _ => rfl)
  have D_read_net : Df K mg "read_net" sRead ["text"] := df_mk X G a7 l7 c7 k7 (fun _ _ _ _ _ _ us hl => match us, hl with | [_], _ => rfl)
  have D__price_text : Df K mg "_price_text" sPText ["value"] := df_mk X G a8 l8 c8 k8 (fun _ _ _ _ _ _ us hl => match us, hl with | [_], _ => rfl)
  have D__read_places : Df K mg "_read_places" sRPlaces ["line"] := df_mk X G a9 l9 c9 k9 (fun _ _ _ _ _ _ us hl => match us, hl with | [_], _ => rfl)
  have D__read_link : Df K mg "_read_link" sRLink ["line", "at", "n", "before"] := df_mk X G a10 l10 c10 k10 (fun _ _ _ _ _ _ us hl => match us, hl with | [_, _, _, _], _ => rfl)
  have D__is_link_line : Df K mg "_is_link_line" sIsLL ["parts"] := df_mk X G a11 l11 c11 k11 (fun _ _ _ _ _ _ us hl => match us, hl with | [_], _ => rfl)
  have D__is_number : Df K mg "_is_number" sIsNum ["part"] := df_mk X G a12 l12 c12 k12 (fun _ _ _ _ _ _ us hl => match us, hl with | [_], _ => rfl)
  have D__number : Df K mg "_number" sNum ["digits"] := df_mk X G a13 l13 c13 k13 (fun _ _ _ _ _ _ us hl => match us, hl with | [_], _ => rfl)
  have D__read_price : Df K mg "_read_price" sRPrice ["part"] := df_mk X G a14 l14 c14 k14 (fun _ _ _ _ _ _ us hl => match us, hl with | [_], _ => rfl)
  have D__law_written : Df K mg "_law_written" sWritten ["net"] := df_mk X G a15 l15 c15 k15 (fun _ _ _ _ _ _ us hl => match us, hl with | [_], _ => rfl)
  have D__law_spoilt : Df K mg "_law_spoilt" sSpoilS ["draws", "text"] := df_mk X G a16 l16 c16 k16 (fun _ _ _ _ _ _ us hl => match us, hl with | [_, _], _ => rfl)
  have D__law_number : Df K mg "_law_number" sLNum ["word"] := df_mk X G a17 l17 c17 k17 (fun _ _ _ _ _ _ us hl => match us, hl with | [_], _ => rfl)
  have D__law_line : Df K mg "_law_line" sLLine ["line", "size", "before"] := df_mk X G a18 l18 c18 k18 (fun _ _ _ _ _ _ us hl => match us, hl with | [_, _, _], _ => rfl)
  have D__law_read : Df K mg "_law_read" sLRead ["text"] := df_mk X G a19 l19 c19 k19 (fun _ _ _ _ _ _ us hl => match us, hl with | [_], _ => rfl)
  have D__law_told : Df K mg "_law_told" sTT ["text"] := df_mk X G a20 l20 c20 k20 (fun _ _ _ _ _ _ us hl => match us, hl with | [_], _ => rfl)
  have b_range := PySem.W.mg_none_of X G z0
  have b_min := PySem.W.mg_none_of X G z1
  have b_max := PySem.W.mg_none_of X G z2
  have b_len := PySem.W.mg_none_of X G z3
  have b_abs := PySem.W.mg_none_of X G z4
  have b_int := PySem.W.mg_none_of X G z5
  have b_str := PySem.W.mg_none_of X G z6
  have b_list := PySem.W.mg_none_of X G z7
  have b_tuple := PySem.W.mg_none_of X G z8
  have b_isinstance := PySem.W.mg_none_of X G z9
  have g_HIGHEST_PRICE := PySem.W.mg_of X G q0
  have g_MOST_PLACES := PySem.W.mg_of X G q1
  have E_BadLine : PySem.LowX.LowTxt K mg "BadLine" C0 fI := low_mk X G ⟨ea0, ⟨_, _, _, _, _, _, _, _, _, _, _, _, _, _, ex0⟩, es0, eg0, eh0, en0, ei0, ek0, eb0, et0, ed0, ec0, ef0⟩ ⟨tI, _, _, _, _, _, _, _, _, lI, cI⟩
  have E_BadPlace : PySem.LowX.LowTxt K mg "BadPlace" C1 fI := low_mk X G ⟨ea1, ⟨_, _, _, _, _, _, _, _, _, _, _, _, _, _, ex1⟩, es1, eg1, eh1, en1, ei1, ek1, eb1, et1, ed1, ec1, ef1⟩ ⟨tI, _, _, _, _, _, _, _, _, lI, cI⟩
  have E_BadPrice : PySem.LowX.LowTxt K mg "BadPrice" C2 fI := low_mk X G ⟨ea2, ⟨_, _, _, _, _, _, _, _, _, _, _, _, _, _, ex2⟩, es2, eg2, eh2, en2, ei2, ek2, eb2, et2, ed2, ec2, ef2⟩ ⟨tI, _, _, _, _, _, _, _, _, lI, cI⟩
  have E_WrongOrder : PySem.LowX.LowTxt K mg "WrongOrder" C3 fI := low_mk X G ⟨ea3, ⟨_, _, _, _, _, _, _, _, _, _, _, _, _, _, ex3⟩, es3, eg3, eh3, en3, ei3, ek3, eb3, et3, ed3, ec3, ef3⟩ ⟨tI, _, _, _, _, _, _, _, _, lI, cI⟩
  have E_OverpassesError : NmAt mg "OverpassesError" CO := ⟨PySem.W.mg_of X G ao⟩
  have A_BadPlace_BadLine : Apart K C1 C0 := ⟨exm_two eb0 ec0 et0 ap1_0⟩
  have A_BadPrice_BadLine : Apart K C2 C0 := ⟨exm_two eb0 ec0 et0 ap2_0⟩
  have A_BadPrice_BadPlace : Apart K C2 C1 := ⟨exm_two eb1 ec1 et1 ap2_1⟩
  have A_WrongOrder_BadLine : Apart K C3 C0 := ⟨exm_two eb0 ec0 et0 ap3_0⟩
  have A_WrongOrder_BadPlace : Apart K C3 C1 := ⟨exm_two eb1 ec1 et1 ap3_1⟩
  have A_WrongOrder_BadPrice : Apart K C3 C2 := ⟨exm_two eb2 ec2 et2 ap3_2⟩
  have F_law := fun_mk (st := sLaw) l21 c21 k21
  refine ⟨PySem.W.fnOf "law" "law" (defArgs sLaw) (defBody sLaw) (defScope sLaw) .none kV21 dc21 pm21 an21 cd21 ct21, fun s v => .of_eq rfl, fun base _ _ => ?_⟩
  have cD := kal_of D__law_draws (fun f fd F => ok_draws (P := l.prog) (w := w) (base := base) (k := 0) F b_range b_min b_len b_abs b_int)
  have cA := kal_of D__law_at (fun f fd F => ok_at (P := l.prog) (w := w) (base := base) (k := 0) F b_len b_int)
  have cM := kal_of D__law_mix (fun f fd F => ok_mix (P := l.prog) (w := w) (base := base) (k := 0) F b_len b_int)
  have cPr := kal_of D__law_price (fun f fd F => ok_price F cM b_int)
  have cN := kal_of D__law_net (fun f fd F => ok_net F cM cPr b_range)
  have cI0 := kal_of D_is_price (fun f fd F => ok_isPrice (P := l.prog) (w := w) (base := base) (k := 0) F g_HIGHEST_PRICE)
  have cB := kal_of D__is_number (fun f fd F => ok_isNum (P := l.prog) (w := w) (base := base) (K := K) (mg := mg) (k := 0) F)
  have cV := kal_of D__number (fun f fd F => ok_num (P := l.prog) (w := w) (base := base) (k := 0) F b_int)
  have cP := kal_of D__read_price (fun f fd F => ok_rprice F cV)
  have cL := kal_of D__is_link_line (fun f fd F => ok_isLL F cB b_len)
  have cRP := kalx_of D__read_places (fun f fd F => ok_rplaces (CB := C2) (CO := C3) F E_BadLine E_BadPlace cB cV g_MOST_PLACES b_len)
  have cRL := kalx_of D__read_link (fun f fd F => ok_rlink F E_BadLine E_BadPlace E_BadPrice E_WrongOrder cL cV cP cI0)
  have cR := kalx_of D_read_net (fun f fd F => ok_read F E_BadLine cRP cRL b_len b_range)
  have cPT := kal_of D__price_text (fun f fd F => ok_ptext (P := l.prog) (w := w) (base := base) (K := K) (k := 0) F b_str)
  have cW := kal_of D_write_net (fun f fd F => ok_write F cPT)
  have cWr := kal_of D__law_written (fun f fd F => ok_written (P := l.prog) (w := w) (base := base) (k := 0) F b_int b_str)
  have cS := kal_of D__law_spoilt (fun f fd F => ok_spoilS F cA b_len b_range)
  have cLN := kal_of D__law_number (fun f fd F => ok_lnum (P := l.prog) (w := w) (base := base) (K := K) (k := 0) F b_len)
  have cLL := kal_of D__law_line (fun f fd F => ok_lline F cLN b_len b_max b_tuple b_int)
  have cLR := kal_of D__law_read (fun f fd F => ok_lread F cLN cLL b_len b_range)
  have cT := kal_of D__law_told (fun f fd F => ok_tt F E_BadLine E_BadPlace E_BadPrice E_WrongOrder E_OverpassesError A_BadPlace_BadLine A_BadPrice_BadLine A_BadPrice_BadPlace A_WrongOrder_BadLine A_WrongOrder_BadPlace A_WrongOrder_BadPrice cR)
  exact ok_law F_law cD cA cN cW cWr cR cS cT cLR b_int b_list b_isinstance b_str b_tuple
end Ovc
open PySem PySem.W PyProof.Rows
set_option maxHeartbeats 0 in
theorem PySem.Challenge.cw_overpasses_k02_texts_of_nets_holds : PySem.Challenge.rw_overpasses_k02_texts_of_nets.Holds := by
  w_on; o_law; k_head; (case hw => w_witness2)
  k_fill
  refine L2.walk_of (l := PySem.Challenge.rw_overpasses_k02_texts_of_nets) (n := 63) (k := 6) (x := "script") (CX := fun _ => L2.CX0) (sp := fun w => Ovc.spLaw _) rfl (by decide) rfl ⟨rfl, by decide, by decide⟩ (fun w h Y => PySem.W.kIn_of Y) ?F (fun _ _ a ns hl _ hS => ⟨a, ns, rfl, hS, hl, fun _ => rfl⟩) (fun _ _ _ _ _ h => h)
  case F =>
    intro w mg fa h KX G hmg
    refine' Ovc.all_mk KX G hmg ?a0 ?l0 ?c0 ?k0 ?a1 ?l1 ?c1 ?k1 ?a2 ?l2 ?c2 ?k2 ?a3 ?l3 ?c3 ?k3 ?a4 ?l4 ?c4 ?k4 ?a5 ?l5 ?c5 ?k5 ?a6 ?l6 ?c6 ?k6 ?a7 ?l7 ?c7 ?k7 ?a8 ?l8 ?c8 ?k8 ?a9 ?l9 ?c9 ?k9 ?a10 ?l10 ?c10 ?k10 ?a11 ?l11 ?c11 ?k11 ?a12 ?l12 ?c12 ?k12 ?a13 ?l13 ?c13 ?k13 ?a14 ?l14 ?c14 ?k14 ?a15 ?l15 ?c15 ?k15 ?a16 ?l16 ?c16 ?k16 ?a17 ?l17 ?c17 ?k17 ?a18 ?l18 ?c18 ?k18 ?a19 ?l19 ?c19 ?k19 ?a20 ?l20 ?c20 ?k20 ?a21 ?l21 ?c21 ?k21 ?tI ?lI ?cI ?ea0 ?ex0 ?es0 ?eg0 ?eh0 ?en0 ?ei0 ?ek0 ?eb0 ?et0 ?ed0 ?ec0 ?ef0 ?ea1 ?ex1 ?es1 ?eg1 ?eh1 ?en1 ?ei1 ?ek1 ?eb1 ?et1 ?ed1 ?ec1 ?ef1 ?ea2 ?ex2 ?es2 ?eg2 ?eh2 ?en2 ?ei2 ?ek2 ?eb2 ?et2 ?ed2 ?ec2 ?ef2 ?ea3 ?ex3 ?es3 ?eg3 ?eh3 ?en3 ?ei3 ?ek3 ?eb3 ?et3 ?ed3 ?ec3 ?ef3 ?ao ?ap1_0 ?ap2_0 ?ap2_1 ?ap3_0 ?ap3_1 ?ap3_2 ?q0 ?q1 ?z0 ?z1 ?z2 ?z3 ?z4 ?z5 ?z6 ?z7 ?z8 ?z9
    (case a0 => k_is)
    (case l0 => k_is)
    (case c0 => k_is)
    (case k0 => k_is)
    (case a1 => k_is)
    (case l1 => k_is)
    (case c1 => k_is)
    (case k1 => k_is)
    (case a2 => k_is)
    (case l2 => k_is)
    (case c2 => k_is)
    (case k2 => k_is)
    (case a3 => k_is)
    (case l3 => k_is)
    (case c3 => k_is)
    (case k3 => k_is)
    (case a4 => k_is)
    (case l4 => k_is)
    (case c4 => k_is)
    (case k4 => k_is)
    (case a5 => k_is)
    (case l5 => k_is)
    (case c5 => k_is)
    (case k5 => k_is)
    (case a6 => k_is)
    (case l6 => k_is)
    (case c6 => k_is)
    (case k6 => k_is)
    (case a7 => k_is)
    (case l7 => k_is)
    (case c7 => k_is)
    (case k7 => k_is)
    (case a8 => k_is)
    (case l8 => k_is)
    (case c8 => k_is)
    (case k8 => k_is)
    (case a9 => k_is)
    (case l9 => k_is)
    (case c9 => k_is)
    (case k9 => k_is)
    (case a10 => k_is)
    (case l10 => k_is)
    (case c10 => k_is)
    (case k10 => k_is)
    (case a11 => k_is)
    (case l11 => k_is)
    (case c11 => k_is)
    (case k11 => k_is)
    (case a12 => k_is)
    (case l12 => k_is)
    (case c12 => k_is)
    (case k12 => k_is)
    (case a13 => k_is)
    (case l13 => k_is)
    (case c13 => k_is)
    (case k13 => k_is)
    (case a14 => k_is)
    (case l14 => k_is)
    (case c14 => k_is)
    (case k14 => k_is)
    (case a15 => k_is)
    (case l15 => k_is)
    (case c15 => k_is)
    (case k15 => k_is)
    (case a16 => k_is)
    (case l16 => k_is)
    (case c16 => k_is)
    (case k16 => k_is)
    (case a17 => k_is)
    (case l17 => k_is)
    (case c17 => k_is)
    (case k17 => k_is)
    (case a18 => k_is)
    (case l18 => k_is)
    (case c18 => k_is)
    (case k18 => k_is)
    (case a19 => k_is)
    (case l19 => k_is)
    (case c19 => k_is)
    (case k19 => k_is)
    (case a20 => k_is)
    (case l20 => k_is)
    (case c20 => k_is)
    (case k20 => k_is)
    (case a21 => k_is)
    (case l21 => k_is)
    (case c21 => k_is)
    (case k21 => k_is)
    (case ea0 => k_is)
    (case ex0 => k_is)
    (case es0 => k_is)
    (case eg0 => k_is)
    (case eh0 => k_is)
    (case en0 => k_is)
    (case ei0 => k_is)
    (case ek0 => k_is)
    (case eb0 => k_is)
    (case et0 => k_is)
    (case ed0 => k_is)
    (case ec0 => k_is)
    (case ef0 => first | rfl | k_is)
    (case ea1 => k_is)
    (case ex1 => k_is)
    (case es1 => k_is)
    (case eg1 => k_is)
    (case eh1 => k_is)
    (case en1 => k_is)
    (case ei1 => k_is)
    (case ek1 => k_is)
    (case eb1 => k_is)
    (case et1 => k_is)
    (case ed1 => k_is)
    (case ec1 => k_is)
    (case ef1 => first | rfl | k_is)
    (case ea2 => k_is)
    (case ex2 => k_is)
    (case es2 => k_is)
    (case eg2 => k_is)
    (case eh2 => k_is)
    (case en2 => k_is)
    (case ei2 => k_is)
    (case ek2 => k_is)
    (case eb2 => k_is)
    (case et2 => k_is)
    (case ed2 => k_is)
    (case ec2 => k_is)
    (case ef2 => first | rfl | k_is)
    (case ea3 => k_is)
    (case ex3 => k_is)
    (case es3 => k_is)
    (case eg3 => k_is)
    (case eh3 => k_is)
    (case en3 => k_is)
    (case ei3 => k_is)
    (case ek3 => k_is)
    (case eb3 => k_is)
    (case et3 => k_is)
    (case ed3 => k_is)
    (case ec3 => k_is)
    (case ef3 => first | rfl | k_is)
    (case ao => k_is)
    (case ap1_0 => first | rfl | k_is)
    (case ap2_0 => first | rfl | k_is)
    (case ap2_1 => first | rfl | k_is)
    (case ap3_0 => first | rfl | k_is)
    (case ap3_1 => first | rfl | k_is)
    (case ap3_2 => first | rfl | k_is)
    (case q0 => k_is)
    (case q1 => k_is)
    (case z0 => k_is)
    (case z1 => k_is)
    (case z2 => k_is)
    (case z3 => k_is)
    (case z4 => k_is)
    (case z5 => k_is)
    (case z6 => k_is)
    (case z7 => k_is)
    (case z8 => k_is)
    (case z9 => k_is)
    (case tI => k_is)
    (case lI => k_is)
    (case cI => k_is)
