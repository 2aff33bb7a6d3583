import PyProof.Rows.All
import Wide.All
import OpenK.AllK
import Wide.FinOn
import PySem.Challenge.RW_overpasses_k07_whole_every_pair_is_neede
import HandS.Base
import HandS.Call
import HandS.List
import HandS.Comp
import HandS.Dict
import HandS.Ends
import HandS.Iter
import HandS.Text
import HandS.Words
import HandS.Evl
import HandS.IsInst
import HandS.Style
import HandS.Exc
import HandS.TryOnly
import HandS.TryMany
import HandS.ExcOwn
import HandS.WordsExc
import HandS.TupLe
import HandS.Conv
import HandS.Walk
import HandS.WordsDict
import HandS.More
import PyProof.ZipIter
import PyProof.CallType
import PyProof.Walk
import PyProof.WalkLemmas
import PyProof.RangeIter
import PyProof.RulesTry
import HandS.Deep
set_option Elab.async false
set_option linter.all false
set_option maxRecDepth 100000
set_option maxHeartbeats 2000000
namespace Ovc
open PySem PySem.Spec PyProof.Rows L2
def topS (i : Nat) : Stmt := PySem.Challenge.pw_overpasses_k07_whole_every_pair_is_neede.main.body.getD i (.Pass ⟨0, 0, 0, 0⟩)
/-! ### heaps -/
theorem same_upd {H : Hp} {p : Addr} {o : HO} (h : H p = none) : Same H (upd H p o) := fun b x e => by
  rw [upd_ne (ne_of_none e h)]
  exact e
theorem same_upd' {G H : Hp} {p : Addr} {o : HO} (s : Same G H) (h : G p = none) : Same G (upd H p o) := fun b x e => by
  rw [upd_ne (ne_of_none e h)]
  exact s b x e
/-- all of H but what stands at o -/
def but (H : Hp) (o : Addr) : Hp := fun b => if b = o then none else H b
theorem but_at {H : Hp} {o : Addr} : but H o o = none := if_pos rfl
theorem but_ne {H : Hp} {o b : Addr} (h : b ≠ o) : but H o b = H b := if_neg h
theorem but_same {H : Hp} {o : Addr} : Same (but H o) H := fun b x e => by
  by_cases h : b = o
  · rw [h, but_at] at e
    cases e
  · rw [but_ne h] at e
    exact e
theorem same_but {G H : Hp} {o : Addr} (s : Same G H) (n : G o = none) : Same G (but H o) := fun b x e => by
  rw [but_ne (ne_of_none e n)]
  exact s b x e
theorem but_mono {H H' : Hp} {o : Addr} (s : Same H H') : Same (but H o) (but H' o) := fun b x e => by
  by_cases h : b = o
  · rw [h, but_at] at e
    cases e
  · rw [but_ne h] at e ⊢
    exact s b x e
theorem but_upd {H : Hp} {o : Addr} {u : HO} : but (upd H o u) o = but H o := by
  funext b
  by_cases h : b = o
  · rw [h, but_at, but_at]
  · rw [but_ne h, but_ne h, upd_ne h]
/-- a store at o, seen from what stands beside it -/
theorem but_upd_same {H : Hp} {o : Addr} {u : HO} : Same (but H o) (upd H o u) := fun b x e => by
  by_cases h : b = o
  · rw [h, but_at] at e
    cases e
  · rw [but_ne h] at e
    rw [upd_ne h]
    exact e
theorem seqT {K : PySem.W.Frag} {H H' : Hp} {a : Addr} {xs : List V} (e : Same H H') (h : SqT K H a xs) : SqT K H' a xs := by
  rcases h with (h | ⟨o, h⟩) | h
  · exact .inl (.inl (e _ _ h))
  · exact .inl (.inr ⟨o, e _ _ h⟩)
  · exact .inr h
mutual
theorem dpS {K : PySem.W.Frag} {H H' : Hp} (s : Same H H') : ∀ (d : PyData) (v : V), Dp K H v d → Dp K H' v d
  | .none, _, h => by
    cases h
    exact .non
  | .bool b, _, h => by
    cases h
    exact .bl b
  | .int i, _, h => by
    cases h
    exact .int i
  | .str x, _, h => by
    cases h
    exact .str x
  | .list ds, _, h => by
    cases h with
    | lst hs ha => exact .lst (s.seq hs) (dpSAll s ds _ ha)
  | .tuple ds, _, h => by
    cases h with
    | tup hs ha => exact .tup (seqT s hs) (dpSAll s ds _ ha)
  | .dict _, _, h => by cases h
theorem dpSAll {K : PySem.W.Frag} {H H' : Hp} (s : Same H H') : ∀ (ds : List PyData) (vs : List V), DpAll K H vs ds → DpAll K H' vs ds
  | [], _, h => by
    cases h
    exact .nil
  | d :: ds, _, h => by
    cases h with
    | cons h1 h2 => exact .cons (dpS s d _ h1) (dpSAll s ds _ h2)
end
theorem Dp.to {K : PySem.W.Frag} {H H' : Hp} {v : V} {d : PyData} (h : Dp K H v d) (s : Same H H') : Dp K H' v d := dpS s d v h
theorem DpAll.to {K : PySem.W.Frag} {H H' : Hp} {vs : List V} {ds : List PyData} (h : DpAll K H vs ds) (s : Same H H') : DpAll K H' vs ds := dpSAll s ds vs h
theorem DpAll.len {K : PySem.W.Frag} {H : Hp} : ∀ {vs : List V} {ds : List PyData}, DpAll K H vs ds → vs.length = ds.length
  | _, _, .nil => rfl
  | _, _, .cons _ t => by
    rw [List.length_cons, List.length_cons, DpAll.len t]
theorem DpAll.get {K : PySem.W.Frag} {H : Hp} : ∀ {vs : List V} {ds : List PyData} {i : Nat} {d : PyData}, DpAll K H vs ds → ds[i]? = some d → ∃ v, vs[i]? = some v ∧ Dp K H v d
  | _, _, i, d, .nil, e => by simp at e
  | _, _, 0, d, .cons h _, e => by
    have e' := Option.some.inj e
    subst e'
    exact ⟨_, rfl, h⟩
  | _, _, i + 1, d, .cons _ t, e => DpAll.get (i := i) t e
theorem DpAll.app {K : PySem.W.Frag} {H : Hp} : ∀ {vs ws : List V} {ds es : List PyData}, DpAll K H vs ds → DpAll K H ws es → DpAll K H (vs ++ ws) (ds ++ es)
  | _, _, _, _, .nil, t => t
  | _, _, _, _, .cons h r, t => .cons h (DpAll.app r t)
theorem DpAll.take {K : PySem.W.Frag} {H : Hp} : ∀ {vs : List V} {ds : List PyData} (n : Nat), DpAll K H vs ds → DpAll K H (vs.take n) (ds.take n)
  | _, _, 0, _ => .nil
  | _, _, _ + 1, .nil => .nil
  | _, _, n + 1, .cons h t => .cons h (DpAll.take n t)
theorem DpAll.drop {K : PySem.W.Frag} {H : Hp} : ∀ {vs : List V} {ds : List PyData} (n : Nat), DpAll K H vs ds → DpAll K H (vs.drop n) (ds.drop n)
  | _, _, 0, h => h
  | _, _, _ + 1, .nil => .nil
  | _, _, n + 1, .cons _ t => DpAll.drop n t
theorem DpAll.one {K : PySem.W.Frag} {H : Hp} {v : V} {d : PyData} (h : Dp K H v d) : DpAll K H [v] [d] := .cons h .nil
theorem Dp.int_inv {K : PySem.W.Frag} {H : Hp} {v : V} {i : Int} (h : Dp K H v (.int i)) : v = .int i := by
  cases h
  rfl
theorem DpAll.ints {K : PySem.W.Frag} {H : Hp} : ∀ ns : List Int, DpAll K H (ns.map V.int) (ns.map PyData.int)
  | [] => .nil
  | n :: ns => .cons (.int n) (DpAll.ints ns)
theorem DpAll.ints_inv {K : PySem.W.Frag} {H : Hp} : ∀ {ns : List Int} {vs : List V}, DpAll K H vs (ns.map PyData.int) → vs = ns.map V.int
  | [], _, h => by
    cases h
    rfl
  | n :: ns, _, h => by
    cases h with
    | cons h1 h2 =>
      rw [Dp.int_inv h1, DpAll.ints_inv h2]
      rfl
theorem Dp.lst_inv {K : PySem.W.Frag} {H : Hp} {v : V} {ds : List PyData} (h : Dp K H v (.list ds)) : ∃ a xs, v = .ref a ∧ SqL K H a xs ∧ DpAll K H xs ds := by
  cases h with
  | lst hs ha => exact ⟨_, _, rfl, hs, ha⟩
theorem Dp.tup_inv {K : PySem.W.Frag} {H : Hp} {v : V} {ds : List PyData} (h : Dp K H v (.tuple ds)) : ∃ a xs, v = .ref a ∧ SqT K H a xs ∧ DpAll K H xs ds := by
  cases h with
  | tup hs ha => exact ⟨_, _, rfl, hs, ha⟩
/-! ### an int or None -/
def oV : Option Int → V
  | none => .non
  | some i => .int i
def oD : Option Int → PyData
  | none => .none
  | some i => .int i
theorem Dp.o {K : PySem.W.Frag} {H : Hp} : ∀ o : Option Int, Dp K H (oV o) (oD o)
  | none => .non
  | some i => .int i
theorem Dp.o_inv {K : PySem.W.Frag} {H : Hp} {v : V} : ∀ {o : Option Int}, Dp K H v (oD o) → v = oV o
  | none, h => by
    cases h
    rfl
  | some i, h => by
    cases h
    rfl
theorem oV_non {o : Option Int} : decide (oV o = .non) = o.isNone := by
  cases o <;> rfl
theorem eqv_o : ∀ a b : Option Int, PyData.eqv (oD a) (oD b) = decide (a = b)
  | none, none => by rfl
  | none, some _ => by rfl
  | some _, none => by rfl
  | some a, some b => by
    show (a == b) = _
    by_cases h : a = b
    · subst h
      rw [decide_eq_true rfl]
      exact beq_self_eq_true a
    · rw [decide_eq_false (fun e => h (Option.some.inj e))]
      exact beq_eq_false_iff_ne.mpr h
theorem shaped_o (a : Option Int) : SeqAt.shaped (oD a) = true := by
  cases a <;> rfl
/-! ### links and nets -/
structure Lnk where
  a : Int
  b : Int
  t : Option Int
  k : Option Int
structure Net where
  n : Int
  ls : List Lnk
def lnkV (l : Lnk) : List V := [.int l.a, .int l.b, oV l.t, oV l.k]
def lnkD (l : Lnk) : PyData := .tuple [.int l.a, .int l.b, oD l.t, oD l.k]
def netD (N : Net) : PyData := .tuple [.int N.n, .list (N.ls.map lnkD)]
theorem Dp.lnk_inv {K : PySem.W.Frag} {H : Hp} {v : V} {l : Lnk} (h : Dp K H v (lnkD l)) : ∃ a, v = .ref a ∧ SqT K H a (lnkV l) := by
  obtain ⟨a, xs, rfl, hs, ha⟩ := Dp.tup_inv h
  cases ha with
  | cons h1 r1 =>
    cases r1 with
    | cons h2 r2 =>
      cases r2 with
      | cons h3 r3 =>
        cases r3 with
        | cons h4 r4 =>
          cases r4
          rw [Dp.int_inv h1, Dp.int_inv h2, Dp.o_inv h3, Dp.o_inv h4] at hs
          exact ⟨a, rfl, hs⟩
theorem Dp.lnk {K : PySem.W.Frag} {H : Hp} {a : Addr} {l : Lnk} (h : SqT K H a (lnkV l)) : Dp K H (.ref a) (lnkD l) :=
  .tup h (.cons (.int _) (.cons (.int _) (.cons (Dp.o _) (.cons (Dp.o _) .nil))))
theorem Dp.net_inv {K : PySem.W.Frag} {H : Hp} {v : V} {N : Net} (h : Dp K H v (netD N)) : ∃ p q xs, v = .ref p ∧ SqT K H p [.int N.n, .ref q] ∧ SqL K H q xs ∧ DpAll K H xs (N.ls.map lnkD) := by
  obtain ⟨a, xs, rfl, hs, ha⟩ := Dp.tup_inv h
  cases ha with
  | cons h1 r1 =>
    cases r1 with
    | cons h2 r2 =>
      cases r2
      obtain ⟨q, ys, rfl, hl, hy⟩ := Dp.lst_inv h2
      rw [Dp.int_inv h1] at hs
      exact ⟨a, q, ys, rfl, hs, hl, hy⟩
theorem Dp.net {K : PySem.W.Frag} {H : Hp} {p q : Addr} {xs : List V} {N : Net} (h : SqT K H p [.int N.n, .ref q]) (hq : SqL K H q xs) (hx : DpAll K H xs (N.ls.map lnkD)) : Dp K H (.ref p) (netD N) :=
  .tup h (.cons (.int _) (.cons (.lst hq hx) .nil))
/-! ### pure expressions: what they evaluate to, the heap as it is -/
def Vl (te : TE) (σ : L2.St) (H : Hp) (v : V) : Prop := ∀ Q : VK, Q v H → te σ H Q
def An (t : TT) (σ : L2.St) (H : Hp) (b : Bool) : Prop := ∀ Q : Bool → Hp → Prop, Q b H → t σ H Q
def Va (ta : TA) (σ : L2.St) (H : Hp) (vs : List V) : Prop := ∀ Q : List V → Hp → Prop, Q vs H → ta σ H Q
section
variable {K : PySem.W.Frag} {σ : L2.St} {H : Hp} {i : Nat} {v x y z : V} {ta tb te tv : TE} {b : Bool} {a : Addr} {t u c : TT} {tr : TA} {D : Ends} {tz tw : TS}
theorem va_nil : Va tNil σ H [] := fun _ q => q
theorem va_cons {vs : List V} (h : Vl ta σ H x) (hr : Va tr σ H vs) : Va (tCons ta tr) σ H (x :: vs) := fun Q q => h _ (hr _ q)
theorem vl_var (h : σ[i]? = some (some v)) : Vl (tVar i) σ H v := fun _ q => ⟨v, h, q⟩
theorem vl_c : Vl (tC v) σ H v := fun _ q => q
theorem vl_op {r : R2} (ha : Vl ta σ H x) (hb : Vl tb σ H y) (hr : ∀ Q : VK, Q z H → r x y H Q) : Vl (tOp r ta tb) σ H z := fun Q q => ha _ (hb _ (hr _ q))
theorem vl_I0 {g : Int → Int → V} {p q : Int} (ha : Vl ta σ H (.int p)) (hb : Vl tb σ H (.int q)) : Vl (tOp (rI0 g) ta tb) σ H (g p q) := vl_op ha hb fun _ k => ⟨p, q, rfl, rfl, k⟩
theorem vl_I {C : Int → Int → Prop} {g : Int → Int → V} {p q : Int} (ha : Vl ta σ H (.int p)) (hb : Vl tb σ H (.int q)) (hc : C p q) : Vl (tOp (rI C g) ta tb) σ H (g p q) := vl_op ha hb fun _ k => ⟨p, q, rfl, rfl, hc, k⟩
theorem vl_un {r : V → Hp → VK → Prop} (ha : Vl ta σ H x) (hr : ∀ Q : VK, Q z H → r x H Q) : Vl (tUn r ta) σ H z := fun Q q => ha _ (hr _ q)
theorem vl_neg {p : Int} (ha : Vl ta σ H (.int p)) : Vl (tUn (rU fun i => .int (-i)) ta) σ H (.int (-p)) := vl_un ha fun _ k => ⟨p, rfl, k⟩
theorem vl_cb {r : List V → Hp → VK → Prop} {vs : List V} (h : Va tr σ H vs) (hr : ∀ Q : VK, Q z H → r vs H Q) : Vl (tCB r tr) σ H z := fun Q q => h _ (hr _ q)
theorem vl_int1 {p : Int} (ha : Vl ta σ H (.int p)) : Vl (tCB (fun xs H Q => (∃ i, xs = [V.int i] ∧ Q (V.int i) H) ∨ ∃ k, xs = [V.bl k] ∧ Q (V.int (if k then 1 else 0)) H) (tCons ta tNil)) σ H (.int p) :=
  vl_cb (va_cons ha va_nil) fun _ k => .inl ⟨p, rfl, k⟩
theorem vl_int1b {k : Bool} (ha : Vl ta σ H (.bl k)) : Vl (tCB (fun xs H Q => (∃ i, xs = [V.int i] ∧ Q (V.int i) H) ∨ ∃ k, xs = [V.bl k] ∧ Q (V.int (if k then 1 else 0)) H) (tCons ta tNil)) σ H (.int (if k then 1 else 0)) :=
  vl_cb (va_cons ha va_nil) fun _ q => .inr ⟨k, rfl, q⟩
theorem vl_abs {p : Int} (ha : Vl ta σ H (.int p)) : Vl (tCB (fun xs H Q => ∃ i, xs = [V.int i] ∧ Q (V.int (if i < 0 then -i else i)) H) (tCons ta tNil)) σ H (.int (if p < 0 then -p else p)) :=
  vl_cb (va_cons ha va_nil) fun _ k => ⟨p, rfl, k⟩
theorem vl_min2 {p q : Int} (ha : Vl ta σ H (.int p)) (hb : Vl tb σ H (.int q)) : Vl (tCB (fun xs H Q => ∃ i j, xs = [V.int i, V.int j] ∧ Q (V.int (if j < i then j else i)) H) (tCons ta (tCons tb tNil))) σ H (.int (if q < p then q else p)) :=
  vl_cb (va_cons ha (va_cons hb va_nil)) fun _ k => ⟨p, q, rfl, k⟩
theorem vl_max2 {p q : Int} (ha : Vl ta σ H (.int p)) (hb : Vl tb σ H (.int q)) : Vl (tCB (fun xs H Q => ∃ i j, xs = [V.int i, V.int j] ∧ Q (V.int (if j > i then j else i)) H) (tCons ta (tCons tb tNil))) σ H (.int (if q > p then q else p)) :=
  vl_cb (va_cons ha (va_cons hb va_nil)) fun _ k => ⟨p, q, rfl, k⟩
theorem vl_lenL {xs : List V} (ha : Vl ta σ H (.ref a)) (h : SqL K H a xs) : Vl (tCB (fun xs H Q => ∃ p ys, xs = [V.ref p] ∧ (SqL K H p ys ∨ SqT K H p ys) ∧ Q (V.int ys.length) H) (tCons ta tNil)) σ H (.int xs.length) :=
  vl_cb (va_cons ha va_nil) fun _ k => ⟨a, xs, rfl, .inl h, k⟩
theorem vl_ixL {xs : List V} {p : Int} (ha : Vl ta σ H (.ref a)) (hb : Vl tb σ H (.int p)) (h : SqL K H a xs) (hg : atI xs p = some z) : Vl (tOp (rIxL K) ta tb) σ H z :=
  vl_op ha hb fun _ k => ⟨a, xs, p, z, rfl, rfl, h, hg, k⟩
theorem vl_ixT {xs : List V} {p : Int} (ha : Vl ta σ H (.ref a)) (hb : Vl tb σ H (.int p)) (h : SqT K H a xs) (hg : atI xs p = some z) : Vl (tOp (rIxT K) ta tb) σ H z :=
  vl_op ha hb fun _ k => ⟨a, xs, p, z, rfl, rfl, h, hg, k⟩
theorem vl_eq (ha : Vl ta σ H x) (hb : Vl tb σ H y) (hs : scal x y = true) : Vl (tOp rEq ta tb) σ H (.bl (decide (x = y))) := vl_op ha hb fun _ k => ⟨hs, k⟩
theorem vl_ne (ha : Vl ta σ H x) (hb : Vl tb σ H y) (hs : scal x y = true) : Vl (tOp rNe ta tb) σ H (.bl (!decide (x = y))) := vl_op ha hb fun _ k => ⟨hs, k⟩
theorem vl_isN (ha : Vl ta σ H x) : Vl (tOp (fun x y H Q => y = V.non ∧ Q (V.bl (decide (x = V.non))) H) ta (tC .non)) σ H (.bl (decide (x = .non))) := vl_op ha vl_c fun _ k => ⟨rfl, k⟩
theorem vl_notN (ha : Vl ta σ H x) : Vl (tOp (fun x y H Q => y = V.non ∧ Q (V.bl (!decide (x = V.non))) H) ta (tC .non)) σ H (.bl (!decide (x = .non))) := vl_op ha vl_c fun _ k => ⟨rfl, k⟩
theorem vl_chain {r r' : R2} {tc : TE} {w : V} {k m : Bool} (ha : Vl ta σ H x) (hb : Vl tb σ H y) (hr : ∀ Q : VK, Q (.bl k) H → r x y H Q) (hc : Vl tc σ H w) (hr' : ∀ Q : VK, Q (.bl m) H → r' y w H Q) : Vl (tChain r r' ta tb tc) σ H (.bl (k && m)) := fun Q q =>
  ha _ (hb _ (hr _ ⟨k, rfl, by
    cases k with
    | true => exact iteT (hc _ (hr' _ q))
    | false => exact iteF q⟩))
theorem vl_chainI {g g' : Int → Int → Bool} {tc : TE} {p q s : Int} (ha : Vl ta σ H (.int p)) (hb : Vl tb σ H (.int q)) (hc : Vl tc σ H (.int s)) :
    Vl (tChain (rI0 fun i j => .bl (g i j)) (rI0 fun i j => .bl (g' i j)) ta tb tc) σ H (.bl (g p q && g' q s)) :=
  vl_chain ha hb (fun _ k => ⟨p, q, rfl, rfl, k⟩) hc (fun _ k => ⟨q, s, rfl, rfl, k⟩)
theorem vl_if {b : Bool} (h : An t σ H b) (h1 : b = true → Vl ta σ H v) (h2 : b = false → Vl tb σ H v) : Vl (tIf t ta tb) σ H v := fun Q q => h _ (by
  cases b with
  | true => exact iteT (h1 rfl _ q)
  | false => exact iteF (h2 rfl _ q))
theorem an_test {b : Bool} (h : Vl te σ H (.bl b)) : An (tTest te) σ H b := fun Q q => h _ ⟨b, rfl, q⟩
theorem an_B {b : Bool} (h : Vl te σ H (.bl b)) : An (tB te) σ H b := fun Q q => h _ ⟨b, rfl, q⟩
theorem an_not (h : An t σ H b) : An (tNot t) σ H (!b) := fun Q q => h _ q
theorem an_and {k m : Bool} (h1 : An t σ H k) (h2 : k = true → An u σ H m) : An (tAnd t u) σ H (k && m) := fun Q q => h1 _ (by
  cases k with
  | true => exact iteT (h2 rfl _ q)
  | false => exact iteF q)
theorem an_or {k m : Bool} (h1 : An t σ H k) (h2 : k = false → An u σ H m) : An (tOr t u) σ H (k || m) := fun Q q => h1 _ (by
  cases k with
  | true => exact iteT q
  | false => exact iteF (h2 rfl _ q))
theorem An.is {k m : Bool} (h : An t σ H k) (e : k = m) : An t σ H m := e ▸ h
theorem Vl.is {v w : V} (h : Vl te σ H v) (e : v = w) : Vl te σ H w := e ▸ h
/-! ### statements over them -/
theorem g_seq (h : tz { D with nx := tw D } σ H) : tSeq tz tw D σ H := h
theorem g_asg {i : Nat} (h : Vl te σ H v) (k : D.nx (σ.set i (some v)) H) : tAsg te (gName i) D σ H := h _ k
theorem g_ret (h : Vl te σ H v) (k : D.rt v H) : tRet te D σ H := h _ k
theorem g_if {b : Bool} (h : An t σ H b) (h1 : b = true → tz D σ H) (h2 : b = false → tw D σ H) : tIfS t tz tw D σ H := h _ (by
  cases b with
  | true => exact iteT (h1 rfl)
  | false => exact iteF (h2 rfl))
theorem g_app {l : Addr} {xs : List V} (ho : Vl ta σ H (.ref l)) (hl : H l = some (.lst xs)) (h : Vl te σ H v) (hz : xs.length < sizeLine) (k : D.nx σ (upd H l (.lst (xs ++ [v])))) :
    tDrop (tBM K "list" rAppend ta (tCons te tNil)) D σ H := ho _ ⟨.inl ⟨rfl, _, .inl (.inl hl)⟩, h _ ⟨l, xs, v, rfl, rfl, hl, hz, k⟩⟩
theorem at_int {ds : List Int} {k : Int} (h0 : 0 ≤ k) (h1 : k < (ds.length : Int)) : ∃ d, atI (ds.map V.int) k = some (.int d) ∧ ds[k.toNat]? = some d := by
  have hj : k.toNat < ds.length := by omega
  have g : (ds.map V.int)[k.toNat]? = some (.int ds[k.toNat]) := by
    rw [List.getElem?_map, List.getElem?_eq_getElem hj]
    rfl
  have g2 := atI_nat g
  rw [show ((k.toNat : Nat) : Int) = k by omega] at g2
  exact ⟨ds[k.toNat], g2, List.getElem?_eq_getElem hj⟩
/-! ### loops -/
theorem g_forR {j : Nat} {n : Int} (h : Va tr σ H [.int n]) (hn : -(2 ^ 62) ≤ n ∧ n < 2 ^ 62) (Pv : Nat → L2.St → Hp → Prop) (h0 : Pv 0 σ H)
    (hs : ∀ (i : Nat) σ H, (i : Int) < n → Pv i σ H → tz { D with nx := Pv (i + 1), ct := Pv (i + 1), bk := D.nx } (σ.set j (some (.int i))) H) (hd : ∀ σ H, Pv n.toNat σ H → D.nx σ H) :
    tFor (iRng1 tr) (gName j) tz D σ H := h _ ⟨n, rfl, hn.1, hn.2, for_range (lo := 0) (n := n.toNat) Pv h0 (fun i σ H hi p => by
      show tz _ (σ.set j (some (.int (0 + i)))) H
      rw [Int.zero_add]
      exact hs i σ H (by omega) p) hd⟩
theorem g_forR2 {j : Nat} {lo n : Int} (h : Va tr σ H [.int lo, .int n]) (hn : -(2 ^ 62) ≤ lo ∧ lo < 2 ^ 62 ∧ -(2 ^ 62) ≤ n ∧ n < 2 ^ 62) (Pv : Nat → L2.St → Hp → Prop) (h0 : Pv 0 σ H)
    (hs : ∀ (i : Nat) σ H, lo + (i : Int) < n → Pv i σ H → tz { D with nx := Pv (i + 1), ct := Pv (i + 1), bk := D.nx } (σ.set j (some (.int (lo + i)))) H) (hd : ∀ σ H, Pv (n - lo).toNat σ H → D.nx σ H) :
    tFor (iRng2 tr) (gName j) tz D σ H := h _ ⟨lo, n, rfl, hn, for_range (lo := lo) (n := (n - lo).toNat) Pv h0 (fun i σ H hi p => hs i σ H (by omega) p) hd⟩
theorem g_forL {j : Nat} {xs : List V} {tl : TE} (h : Vl tl σ H (.ref a)) (hx : SqL K H a xs) (Pv : Nat → L2.St → Hp → Prop) (h0 : Pv 0 σ H) (hl : ∀ i σ' H', Pv i σ' H' → SqL K H' a xs)
    (hs : ∀ (i : Nat) x σ H, xs[i]? = some x → Pv i σ H → tz { D with nx := Pv (i + 1), ct := Pv (i + 1), bk := D.nx } (σ.set j (some x)) H) (hd : ∀ σ H, Pv xs.length σ H → D.nx σ H) :
    tFor (iList K tl) (gName j) tz D σ H := h _ ⟨a, rfl, ⟨_, hx⟩, for_list (xs := xs) Pv h0 (fun i σ H _ p => hl i σ H p) hs hd⟩
/-- for a, b, there, back in links -/
theorem g_forLnk {j1 j2 j3 j4 : Nat} {Hb : Hp} {xs : List V} {ls : List Lnk} {tl : TE} (h : Vl tl σ H (.ref a)) (hx : SqL K Hb a xs) (hL : DpAll K Hb xs (ls.map lnkD)) (hb : Same Hb H) (Pv : Nat → L2.St → Hp → Prop) (h0 : Pv 0 σ H) (hl : ∀ i σ' H', Pv i σ' H' → Same Hb H')
    (hs : ∀ (i : Nat) l σ H, ls[i]? = some l → Pv i σ H → tz { D with nx := Pv (i + 1), ct := Pv (i + 1), bk := D.nx } ((((σ.set j1 (some (.int l.a))).set j2 (some (.int l.b))).set j3 (some (oV l.t))).set j4 (some (oV l.k))) H) (hd : ∀ σ H, Pv ls.length σ H → D.nx σ H) :
    tFor (iList K tl) (gTup K 4 (gCons (gName j1) (gCons (gName j2) (gCons (gName j3) (gCons (gName j4) gNil))))) tz D σ H := h _ ⟨a, rfl, ⟨_, hb.seq hx⟩, for_list (xs := xs) Pv h0 (fun i σ H _ p => (hl i σ H p).seq hx) (fun i x σ H hi p => by
      have e := DpAll.len hL
      rw [List.length_map] at e
      have hlt : i < xs.length := by
        by_cases hlt : i < xs.length
        · exact hlt
        · rw [List.getElem?_eq_none (by omega)] at hi
          cases hi
      have hg : ls[i]? = some ls[i] := List.getElem?_eq_getElem (by omega)
      obtain ⟨v, hv, dv⟩ := DpAll.get (i := i) (d := lnkD ls[i]) hL (by
        rw [List.getElem?_map, hg]
        rfl)
      cases hi.symm.trans hv
      obtain ⟨t, rfl, ht⟩ := Dp.lnk_inv dv
      exact ⟨t, _, rfl, seqT (hl i σ H p) ht, rfl, _, _, rfl, _, _, rfl, _, _, rfl, _, _, rfl, rfl, hs i _ σ H hg p⟩) (fun σ H p => by
      have e := DpAll.len hL
      rw [List.length_map] at e
      rw [e] at p
      exact hd σ H p)⟩
/-! ### the same with what follows -/
theorem q_asg {i : Nat} (h : Vl te σ H v) (k : tw D (σ.set i (some v)) H) : tSeq (tAsg te (gName i)) tw D σ H := h _ k
theorem q_if {b : Bool} {tu : TS} (h : An t σ H b) (h1 : b = true → tz { D with nx := tw D } σ H) (h2 : b = false → tu { D with nx := tw D } σ H) : tSeq (tIfS t tz tu) tw D σ H := g_if (D := { D with nx := tw D }) h h1 h2
/-- an if without else whose body leaves the def (or the turn) -/
theorem q_when {b : Bool} (h : An t σ H b) (h1 : b = true → tz { D with nx := tw D } σ H) (h2 : b = false → tw D σ H) : tSeq (tIfS t tz tNext) tw D σ H := g_if (D := { D with nx := tw D }) h h1 h2
theorem g_when {b : Bool} (h : An t σ H b) (h1 : b = true → tz D σ H) (h2 : b = false → D.nx σ H) : tIfS t tz tNext D σ H := g_if h h1 h2
theorem q_app {l : Addr} {xs : List V} (ho : Vl ta σ H (.ref l)) (hl : H l = some (.lst xs)) (h : Vl te σ H v) (hz : xs.length < sizeLine) (k : tw D σ (upd H l (.lst (xs ++ [v])))) :
    tSeq (tDrop (tBM K "list" rAppend ta (tCons te tNil))) tw D σ H := g_app (D := { D with nx := tw D }) ho hl h hz k
theorem q_forR {j : Nat} {n : Int} (h : Va tr σ H [.int n]) (hn : -(2 ^ 62) ≤ n ∧ n < 2 ^ 62) (Pv : Nat → L2.St → Hp → Prop) (h0 : Pv 0 σ H)
    (hs : ∀ (i : Nat) σ H, (i : Int) < n → Pv i σ H → tz { D with nx := Pv (i + 1), ct := Pv (i + 1), bk := tw D } (σ.set j (some (.int i))) H) (hd : ∀ σ H, Pv n.toNat σ H → tw D σ H) :
    tSeq (tFor (iRng1 tr) (gName j) tz) tw D σ H := g_forR (D := { D with nx := tw D }) h hn Pv h0 hs hd
theorem q_forR2 {j : Nat} {lo n : Int} (h : Va tr σ H [.int lo, .int n]) (hn : -(2 ^ 62) ≤ lo ∧ lo < 2 ^ 62 ∧ -(2 ^ 62) ≤ n ∧ n < 2 ^ 62) (Pv : Nat → L2.St → Hp → Prop) (h0 : Pv 0 σ H)
    (hs : ∀ (i : Nat) σ H, lo + (i : Int) < n → Pv i σ H → tz { D with nx := Pv (i + 1), ct := Pv (i + 1), bk := tw D } (σ.set j (some (.int (lo + i)))) H) (hd : ∀ σ H, Pv (n - lo).toNat σ H → tw D σ H) :
    tSeq (tFor (iRng2 tr) (gName j) tz) tw D σ H := g_forR2 (D := { D with nx := tw D }) h hn Pv h0 hs hd
theorem q_forL {j : Nat} {xs : List V} {tl : TE} (h : Vl tl σ H (.ref a)) (hx : SqL K H a xs) (Pv : Nat → L2.St → Hp → Prop) (h0 : Pv 0 σ H) (hl : ∀ i σ' H', Pv i σ' H' → SqL K H' a xs)
    (hs : ∀ (i : Nat) x σ H, xs[i]? = some x → Pv i σ H → tz { D with nx := Pv (i + 1), ct := Pv (i + 1), bk := tw D } (σ.set j (some x)) H) (hd : ∀ σ H, Pv xs.length σ H → tw D σ H) :
    tSeq (tFor (iList K tl) (gName j) tz) tw D σ H := g_forL (D := { D with nx := tw D }) h hx Pv h0 hl hs hd
theorem q_forLnk {j1 j2 j3 j4 : Nat} {Hb : Hp} {xs : List V} {ls : List Lnk} {tl : TE} (h : Vl tl σ H (.ref a)) (hx : SqL K Hb a xs) (hL : DpAll K Hb xs (ls.map lnkD)) (hb : Same Hb H) (Pv : Nat → L2.St → Hp → Prop) (h0 : Pv 0 σ H) (hl : ∀ i σ' H', Pv i σ' H' → Same Hb H')
    (hs : ∀ (i : Nat) l σ H, ls[i]? = some l → Pv i σ H → tz { D with nx := Pv (i + 1), ct := Pv (i + 1), bk := tw D } ((((σ.set j1 (some (.int l.a))).set j2 (some (.int l.b))).set j3 (some (oV l.t))).set j4 (some (oV l.k))) H) (hd : ∀ σ H, Pv ls.length σ H → tw D σ H) :
    tSeq (tFor (iList K tl) (gTup K 4 (gCons (gName j1) (gCons (gName j2) (gCons (gName j3) (gCons (gName j4) gNil))))) tz) tw D σ H := g_forLnk (D := { D with nx := tw D }) h hx hL hb Pv h0 hl hs hd
theorem q_asgT2 {i j : Nat} {p : Addr} (h : Vl te σ H (.ref p)) (hp : SqT K H p [x, y]) (k : tw D ((σ.set i (some x)).set j (some y)) H) : tSeq (tAsg te (gTup K 2 (gCons (gName i) (gCons (gName j) gNil)))) tw D σ H :=
  h _ ⟨p, _, rfl, hp, rfl, _, _, rfl, _, _, rfl, rfl, k⟩
theorem q_dnewT {i : Nat} (k : ∀ p, H p = none → tw D (σ.set i (some (.ref p))) (upd H p (.dT []))) : tSeq (tAsg tDNewT (gName i)) tw D σ H := k
theorem q_lnew {i : Nat} (k : ∀ p, H p = none → tw D (σ.set i (some (.ref p))) (upd H p (.lst []))) : tSeq (tAsg (tLst tNil) (gName i)) tw D σ H := ⟨Nat.zero_le _, k⟩
theorem q_dput {td ty : TE} {o : Addr} {kvs : List (List Key × V)} {y1 y2 : Int} (hv : Vl te σ H v) (ho : Vl td σ H (.ref o)) (h1 : Vl ta σ H (.int y1)) (h2 : Vl tb σ H (.int y2)) (hd : H o = some (.dT kvs)) (hl : kvs.length < sizeLine)
    (k : ∀ T, H T = none → o ≠ T → tw D σ (upd (upd H T (.tup [.int y1, .int y2])) o (.dT (putK kvs [.inl y1, .inl y2] v)))) : tSeq (sDPut td (tTup (tCons ta (tCons tb tNil))) te) tw D σ H :=
  hv _ (ho _ (h1 _ (h2 _ ⟨by show 2 ≤ sizeLine; decide, fun T nT => by
    have oT : o ≠ T := ne_of_none hd nT
    exact ⟨o, _, rfl, DPut.t (k := [.inl y1, .inl y2]) (by rw [upd_ne oT]; exact hd) upd_same hl, k T nT oT⟩⟩)))
theorem q_dgetT {i : Nat} {td : TE} {o : Addr} {kvs : List (List Key × V)} {y1 y2 : Int} (ho : Vl td σ H (.ref o)) (h1 : ∀ H, Vl ta σ H (.int y1)) (h2 : ∀ H, Vl tb σ H (.int y2)) (hd : H o = some (.dT kvs))
    (k : ∀ T, H T = none → tw D (σ.set i (some ((valV kvs [.inl y1, .inl y2]).getD .non))) (upd H T (.tup [.int y1, .int y2]))) : tSeq (tAsg (tDGet1 td (tTup (tCons ta (tCons tb tNil)))) (gName i)) tw D σ H :=
  ho _ ⟨o, rfl, .inr ⟨_, .inl hd⟩, h1 _ _ (h2 _ _ ⟨by show 2 ≤ sizeLine; decide, fun T nT => by
    have oT : o ≠ T := ne_of_none hd nT
    exact ⟨_, DGet.t (k := [.inl y1, .inl y2]) (by rw [upd_ne oT]; exact hd) upd_same, k T nT⟩⟩)⟩
theorem q_asgE {i : Nat} (h : te σ H fun v H' => tw D (σ.set i (some v)) H') : tSeq (tAsg te (gName i)) tw D σ H := h
theorem g_asgE {i : Nat} (h : te σ H fun v H' => D.nx (σ.set i (some v)) H') : tAsg te (gName i) D σ H := h
theorem q_cut {M : L2.St → Hp → Prop} (h : tz { D with nx := M } σ H) (k : ∀ σ' H', M σ' H' → tw D σ' H') : Evl.tCut tz tw D σ H := ⟨M, h, k⟩
end
/-! ### defs that may be called by their names -/
structure Df (K : PySem.W.Frag) (mg : Str → Option Value) (x : Str) (st : Stmt) (ps : List Str) : Prop where
  ex : ∃ (f : Addr) (fd : FuncData), Fun K x x st f fd ∧ mg x = some (.ref f) ∧ Binds K fd ps []
structure Kal (P : Program) (w : World) (K : PySem.W.Frag) (mg : Str → Option Value) (base : Heap) (k : Nat) (x : Str) (ps : List Str) (sp : Sp) : Prop where
  ex : ∃ (f : Addr) (fd : FuncData), FnOk P w K mg base CX0 k f fd ps sp ∧ mg x = some (.ref f) ∧ PySem.W.keepIn K (.ref f) = true ∧ Binds K fd ps []
theorem kal_of {P : Program} {w : World} {K : PySem.W.Frag} {mg : Str → Option Value} {base : Heap} {k : Nat} {x : Str} {st : Stmt} {ps : List Str} {sp : Sp} (A : Df K mg x st ps)
    (ok : ∀ f fd, Fun K x x st f fd → FnOk P w K mg base CX0 k f fd ps sp) : Kal P w K mg base k x ps sp := by
  obtain ⟨f, fd, F, g, b⟩ := A.ex
  exact ⟨f, fd, ok f fd F, g, F.kp, b⟩
theorem pe_k {X : Cx} {k j : Nat} {x : Str} {ps : List Str} {sp : Sp} {p pos : Pos} {e : Expr} {es : List Expr} {t : TA} (c : Kal X.prog X.w X.K X.mg X.base k x ps sp) (hr : Room j X.A) (hk : k ≤ j) (hg : Gl X x) (ha : PA X (e :: es) t)
    (hdb : (x == ("__debug__" : Str)) = false := by decide) (he : starEach (e :: es) X.env = (false, eval e X.env) :: starEach es X.env := by rfl) (hpl : (backTo pos (starEach es X.env)).any (·.1) = false := by rfl) :
    PE X (.Call (.Name x p) (e :: es) [] pos) (tCall sp [] E0 t) := by
  obtain ⟨f, fd, F, hm, kp, b⟩ := c.ex
  exact pe_call F (hr.mono hk) hg hm kp b .nil pass0 ha hdb he hpl
/-! ### values that are not told: ints of which P holds -/
def Vi (te : TE) (σ : L2.St) (H : Hp) (P : Int → Prop) : Prop := ∀ Q : VK, (∀ r, P r → Q (.int r) H) → te σ H Q
section
variable {K : PySem.W.Frag} {σ : L2.St} {H : Hp} {i : Nat} {ta tb te : TE} {tr : TA} {D : Ends} {tz tw tu : TS} {P P1 P2 : Int → Prop}
theorem vi_of {n : Int} (h : Vl te σ H (.int n)) : Vi te σ H (fun r => r = n) := fun _ q => h _ (q n rfl)
theorem vi_I0 {g : Int → Int → Int} (ha : Vi ta σ H P1) (hb : Vi tb σ H P2) (h : ∀ p q, P1 p → P2 q → P (g p q)) : Vi (tOp (rI0 fun i j => .int (g i j)) ta tb) σ H P := fun _ k =>
  ha _ fun p hp => hb _ fun q hq => ⟨p, q, rfl, rfl, k _ (h p q hp hq)⟩
theorem vi_call {sp : Sp} {vs : List V} (h : Va tr σ H vs) (hs : ∀ Q E, (∀ r, P r → Q (.int r) H) → sp vs H Q E) : Vi (tCall sp [] E0 tr) σ H P := fun Q q => h _ (by
  show sp (vs ++ []) H Q E0
  rw [List.append_nil]
  exact hs Q E0 q)
theorem vi_mono (h : Vi te σ H P1) (hh : ∀ r, P1 r → P r) : Vi te σ H P := fun Q q => h Q fun r hr => q r (hh r hr)
theorem g_asgI {i : Nat} (h : Vi te σ H P) (k : ∀ r, P r → D.nx (σ.set i (some (.int r))) H) : tAsg te (gName i) D σ H := h _ k
theorem q_asgI {i : Nat} (h : Vi te σ H P) (k : ∀ r, P r → tw D (σ.set i (some (.int r))) H) : tSeq (tAsg te (gName i)) tw D σ H := h _ k
theorem g_retI (h : Vi te σ H P) (k : ∀ r, P r → D.rt (.int r) H) : tRet te D σ H := h _ k
end
local macro_rules
  | `(tactic| walk_at "ev") => `(tactic| repeat' (first
    | exact vl_c | exact vl_var rfl | apply vl_I0 | apply vl_I | apply vl_int1 | apply vl_abs | apply vl_min2 | apply vl_max2 | apply vl_neg | apply vl_chainI
    | apply vl_lenL | apply vl_ixL | apply vl_ixT | apply vl_isN | apply vl_notN | apply vl_eq | apply vl_ne
    | apply an_test | apply an_B | apply an_not
    | exact (show (0 : Int) < _ by decide) | exact (show (0 : Int) < _ ∧ _ < (1073741824 : Int) from ⟨by decide, by decide⟩)))
abbrev sDraws : Stmt := topS 17
theorem scDraws : FnScope ["script", "draws", "k", "rest", "turn", "mixed"] ["script"] (defScope sDraws) := ⟨rfl, rfl, rfl, by decide +kernel, rfl, by decide +kernel, by decide +kernel⟩
structure DrawsOk (m : Nat) (ds : List Int) : Prop where
  len : ds.length ≤ m
  all : ∀ d ∈ ds, 0 ≤ d ∧ d < 65536
theorem DrawsOk.app {m : Nat} {ds : List Int} {d : Int} (h : DrawsOk m ds) (h0 : 0 ≤ d) (h1 : d < 65536) : DrawsOk (m + 1) (ds ++ [d]) where
  len := by
    rw [List.length_append]
    exact Nat.succ_le_succ h.len
  all := fun e he => by
    rcases List.mem_append.mp he with h' | h'
    · exact h.all e h'
    · rw [List.mem_singleton.mp h']
      exact ⟨h0, h1⟩
theorem DrawsOk.mono {m n : Nat} {ds : List Int} (h : DrawsOk m ds) (le : m ≤ n) : DrawsOk n ds := ⟨Nat.le_trans h.len le, h.all⟩
def spDraws (K : PySem.W.Frag) : Sp := fun vs H Q _ => ∃ (a : Addr) (ns : List Int), vs = [.ref a] ∧ SqL K H a (ns.map V.int) ∧ ns.length ≤ 63 ∧
  ∀ H' p ds, Same H H' → H p = none → H' p = some (.lst (ds.map V.int)) → DrawsOk 3780 ds → Q (.ref p) H'
section
variable {P : Program} {w : World} {K : PySem.W.Frag} {mg : Str → Option Value} {base : Heap}
theorem ok_draws {f : Addr} {fd : FuncData} {k : Nat} (F : Fun K "_law_draws" "_law_draws" sDraws f fd) (mr : mg "range" = none) (mm : mg "min" = none) (ml : mg "len" = none) (ma : mg "abs" = none) (mi : mg "int" = none) :
    FnOk P w K mg base CX0 (k + 1) f fd ["script"] (spDraws K) := by
  refine F.ok scDraws (fun vs H Q E h => ?_) (fun cdv A outer s H vs Q E hr h => ?_)
  · obtain ⟨a, ns, rfl, _⟩ := h
    rfl
  · obtain ⟨a, ns, rfl, hS, hlen, q⟩ := h
    refine ⟨_, pss_cons (ps_set (i := 1) scDraws.nd rfl (.inl rfl) (pe_lst pa_nil))
      (pss_cons (ps_for PassesOwn.never rfl (pi_range1 (by rfl) mr (pa_cons (pe_callB (call_min2 rfl) (by rfl) mm (by decide +kernel) (pa_cons pe_int (pa_cons (pe_callB call_len_seq (by rfl) ml PySem.boot_len (pa_cons (pv 0) pa_nil)) pa_nil))) pa_nil)) (pg_name (i := 2) scDraws.nd rfl (.inl rfl))
        (pss_cons (ps_set (i := 3) scDraws.nd rfl (.inl rfl) (pe_callB call_abs (by rfl) ma (by decide +kernel) (pa_cons (pe_ix ix_list (pv 0) (pv 2) (fun _ _ => rfl)) pa_nil)))
        (pss_one (ps_if (pt_cmpR op_ge (pv 3) (pe_op op_pow pe_int pe_int) (nomark _))
          (pss_one (ps_for PassesOwn.never rfl (pi_range1 (by rfl) mr (pa_cons pe_int pa_nil)) (pg_name (i := 4) scDraws.nd rfl (.inl rfl))
            (pss_one (ps_if (pt_cmpR op_gt (pv 3) pe_int (nomark _))
              (pss_cons (ps_expr (pe_bm PySem.F.plainAttrs_list PySem.F.slot_list_append PySem.F.type_list_append mt_append (pv 1) (pa_cons (pe_op op_mod (pe_callTy call_int1 (by rfl) mi (by decide +kernel) (pa_cons (pv 3) pa_nil)) pe_int) pa_nil)))
              (pss_one (ps_set (i := 3) scDraws.nd rfl (.inl rfl) (pe_op op_fdiv (pv 3) pe_int)))) pss_nil))))
          (pss_cons (ps_set (i := 5) scDraws.nd rfl (.inl rfl) (pe_op op_mod (pe_callTy call_int1 (by rfl) mi (by decide +kernel) (pa_cons (pe_op op_add (pe_op op_mul (pv 3) pe_int) (pe_op op_mul (pe_op op_add (pv 2) pe_int) pe_int)) pa_nil)) pe_int))
          (pss_cons (ps_set (i := 5) scDraws.nd rfl (.inl rfl) (pe_op op_mod (pe_callTy call_int1 (by rfl) mi (by decide +kernel) (pa_cons (pe_op op_add (pe_op op_add (pe_op op_mul (pv 5) pe_int) (pe_op op_mul pe_int (pv 2))) pe_int) pa_nil)) pe_int))
          (pss_cons (ps_expr (pe_bm PySem.F.plainAttrs_list PySem.F.slot_list_append PySem.F.type_list_append mt_append (pv 1) (pa_cons (pe_op op_mod (pe_callTy call_int1 (by rfl) mi (by decide +kernel) (pa_cons (pv 5) pa_nil)) pe_int) pa_nil)))
          (pss_one (ps_expr (pe_bm PySem.F.plainAttrs_list PySem.F.slot_list_append PySem.F.type_list_append mt_append (pv 1) (pa_cons (pe_op op_mod (pe_callTy call_int1 (by rfl) mi (by decide +kernel) (pa_cons (pe_op op_fdiv (pv 5) pe_int) pa_nil)) pe_int) pa_nil)))))))))))
      (pss_one (ps_ret (pv 1)))), ?_⟩
    -- draws = []
    refine ⟨Nat.zero_le _, fun o no => ?_⟩
    have s1 : Same H (upd H o (.lst [])) := same_upd no
    have hS1 := s1.seq hS
    refine (q_forR (n := if (ns.length : Int) < 63 then (ns.length : Int) else 63) (va_cons (vl_min2 vl_c ((vl_lenL (vl_var rfl) hS1).is (by rw [List.length_map]))) va_nil) ⟨by split <;> omega, by split <;> omega⟩
      (fun i σ H3 => ∃ y2 y3 y4 y5 ds, σ = [some (.ref a), some (.ref o), y2, y3, y4, y5] ∧ Same H H3 ∧ H3 o = some (.lst (ds.map V.int)) ∧ DrawsOk (60 * i) ds)
      ⟨none, none, none, none, [], rfl, s1, upd_same, Nat.zero_le _, fun _ h => by cases h⟩ (fun i σ H3 hi hP => ?_) (fun σ H3 hP => ?_))
    · obtain ⟨y2, y3, y4, y5, ds, rfl, sm, ho, hd⟩ := hP
      have hi2 : i < ns.length := by
        split at hi <;> omega
      have hA := sm.seq hS
      have g1 : (ns.map V.int)[i]? = some (.int ns[i]) := by
        rw [List.getElem?_map, List.getElem?_eq_getElem hi2]
        rfl
      -- rest = abs(script[k])
      refine (q_asg (v := .int (if ns[i] < 0 then -ns[i] else ns[i])) (vl_abs (vl_ixL (vl_var rfl) (vl_var rfl) hA (atI_nat g1))) ?_)
      generalize hr0 : (if ns[i] < 0 then -ns[i] else ns[i]) = r
      have hr1 : 0 ≤ r := by
        rw [← hr0]
        split <;> omega
      refine g_if (b := decide ((10 : Int) ^ (18 : Int).toNat ≤ r)) (by exact an_test (vl_I0 (vl_var rfl) (vl_I vl_c vl_c ⟨by decide, by decide, by decide⟩))) (fun _ => ?_) (fun hlt => ?_)
      · refine g_forR (n := 60) (va_cons vl_c va_nil) ⟨by decide, by decide⟩
          (fun j σ H4 => ∃ y4 r ds', σ = [some (.ref a), some (.ref o), some (.int i), some (.int r), y4, y5] ∧ Same H H4 ∧ H4 o = some (.lst (ds'.map V.int)) ∧ DrawsOk (60 * i + j) ds')
          ⟨y4, r, ds, rfl, sm, ho, hd⟩ (fun j σ H4 hj hP => ?_) (fun σ H4 hP => ?_)
        · obtain ⟨z4, r', ds', rfl, sm', ho', hd'⟩ := hP
          refine g_if (by walk_at "ev") (fun _ => ?_) (fun _ => ?_)
          · have h0 : 0 ≤ r' % 65536 := Int.emod_nonneg _ (by decide)
            have h1 : r' % 65536 < 65536 := Int.emod_lt_of_pos _ (by decide)
            refine (q_app (vl_var rfl) ho' (v := .int (r' % 65536)) (by walk_at "ev") ?_ ?_)
            · rw [List.length_map]
              have := hd'.len
              exact Nat.lt_of_le_of_lt this (Nat.lt_of_le_of_lt (show 60 * i + j ≤ 10000 by omega) (by decide))
            · refine g_asg (v := .int (r' / 65536)) (by walk_at "ev") ?_
              refine ⟨_, _, ds' ++ [r' % 65536], rfl, same_upd' sm' no, ?_, hd'.app h0 h1⟩
              rw [upd_same, List.map_append]
              rfl
          · exact ⟨_, _, ds', rfl, sm', ho', hd'.mono (Nat.le_succ _)⟩
        · obtain ⟨z4, r', ds', rfl, sm', ho', hd'⟩ := hP
          exact ⟨_, _, _, _, ds', rfl, sm', ho', hd'⟩
      · have hlt : r < 1000000000000000000 := by
          have := of_decide_eq_false hlt
          have e : (10 : Int) ^ (18 : Int).toNat = 1000000000000000000 := by decide
          omega
        refine (q_asg (v := .int ((r * 48271 + ((i : Int) + 1) * 69621) % 2147483647)) (by walk_at "ev"; exact .inl ⟨by omega, by omega⟩; exact .inl ⟨by omega, by omega⟩) ?_)
        generalize hm : (r * 48271 + ((i : Int) + 1) * 69621) % 2147483647 = m
        have hm0 : 0 ≤ m := by
          rw [← hm]
          exact Int.emod_nonneg _ (by decide)
        have hm1 : m < 2147483647 := by
          rw [← hm]
          exact Int.emod_lt_of_pos _ (by decide)
        refine (q_asg (v := .int ((m * 16807 + 11 * (i : Int) + 5) % 2147483629)) (by walk_at "ev"; exact .inl ⟨by omega, by omega⟩; exact .inl ⟨by decide, by decide⟩) ?_)
        generalize (m * 16807 + 11 * (i : Int) + 5) % 2147483629 = m2
        have h0 : 0 ≤ m2 % 65536 := Int.emod_nonneg _ (by decide)
        have h1 : m2 % 65536 < 65536 := Int.emod_lt_of_pos _ (by decide)
        have h2 : 0 ≤ (m2 / 65536) % 32768 := Int.emod_nonneg _ (by decide)
        have h3 : (m2 / 65536) % 32768 < 65536 := Int.lt_trans (Int.emod_lt_of_pos _ (by decide)) (by decide)
        have hl := hd.len
        refine (q_app (vl_var rfl) ho (v := .int (m2 % 65536)) (by walk_at "ev") ?_ ?_)
        · rw [List.length_map]
          exact Nat.lt_of_le_of_lt (show ds.length ≤ 10000 by omega) (by decide)
        · refine g_app (vl_var rfl) upd_same (v := .int ((m2 / 65536) % 32768)) (by walk_at "ev") ?_ ?_
          · rw [List.length_append, List.length_map]
            exact Nat.lt_of_le_of_lt (show ds.length + 1 ≤ 10000 by omega) (by decide)
          · refine ⟨_, _, _, _, (ds ++ [m2 % 65536]) ++ [(m2 / 65536) % 32768], rfl, same_upd' (same_upd' sm no) no, ?_, ((hd.app h0 h1).app h2 h3).mono (by omega)⟩
            rw [upd_same, List.map_append, List.map_append]
            rfl
    · obtain ⟨y2, y3, y4, y5, ds, rfl, sm, ho, hd⟩ := hP
      refine g_ret (vl_var rfl) (q H3 o ds sm no ho (hd.mono ?_))
      split <;> omega
end
abbrev sAt : Stmt := topS 18
abbrev sIsI : Stmt := topS 19
abbrev sMix : Stmt := topS 20
abbrev sPrice : Stmt := topS 21
theorem scAt : FnScope ["draws", "k", "many"] ["draws", "k", "many"] (defScope sAt) := ⟨rfl, rfl, rfl, by decide +kernel, rfl, by decide +kernel, by decide +kernel⟩
theorem scIsI : FnScope ["actual"] ["actual"] (defScope sIsI) := ⟨rfl, rfl, rfl, by decide +kernel, rfl, by decide +kernel, by decide +kernel⟩
theorem scMix : FnScope ["draws", "k", "many", "value"] ["draws", "k", "many"] (defScope sMix) := ⟨rfl, rfl, rfl, by decide +kernel, rfl, by decide +kernel, by decide +kernel⟩
theorem scPrice : FnScope ["draws", "k", "word"] ["draws", "k"] (defScope sPrice) := ⟨rfl, rfl, rfl, by decide +kernel, rfl, by decide +kernel, by decide +kernel⟩
local macro_rules
  | `(tactic| walk_at "ev") => `(tactic| repeat' (first
    | exact vl_c | exact vl_var rfl | apply vl_I0 | apply vl_I | apply vl_int1 | apply vl_abs | apply vl_min2 | apply vl_max2 | apply vl_neg | apply vl_chainI
    | apply vl_lenL | apply vl_ixL | apply vl_ixT | apply vl_isN | apply vl_notN | apply vl_eq | apply vl_ne
    | apply an_test | apply an_B | apply an_not
    | exact (show (0 : Int) < _ by decide) | exact (show (0 : Int) < _ ∧ _ < (1073741824 : Int) from ⟨by decide, by decide⟩)))
/-- an int in [0, m) for draws, k, m -/
def spAt (K : PySem.W.Frag) : Sp := fun vs H Q _ => ∃ (a : Addr) (ds : List Int) (k m : Int), vs = [.ref a, .int k, .int m] ∧ SqL K H a (ds.map V.int) ∧ 0 ≤ k ∧ 0 < m ∧ ∀ r, 0 ≤ r ∧ r < m → Q (.int r) H
def spIsI : Sp := fun vs H Q _ => ∃ i : Int, vs = [.int i] ∧ Q (.bl true) H
section
variable {P : Program} {w : World} {K : PySem.W.Frag} {mg : Str → Option Value} {base : Heap}
theorem ok_isI {f : Addr} {fd : FuncData} {k : Nat} (F : Fun K "_law_is_integer" "_law_is_integer" sIsI f fd) (ms : mg "isinstance" = none) (mi : mg "int" = none) (mb : mg "bool" = none) :
    FnOk P w K mg base CX0 (k + 1) f fd ["actual"] spIsI := by
  refine F.ok scIsI (fun vs H Q E h => ?_) (fun cdv A outer s H vs Q E hr h => ?_)
  · obtain ⟨i, rfl, _⟩ := h
    rfl
  · obtain ⟨i, rfl, q⟩ := h
    refine ⟨_, pss_one (ps_ret (pe_and (pe_callB call_isi (by rfl) ms (by decide +kernel) (pa_cons (pv 0) (pa_cons (pe_bltn (v := .ty "int") (by rfl) mi (by decide +kernel) rfl) pa_nil)))
      (pe_one (pe_not (pe_callB call_isi (by rfl) ms (by decide +kernel) (pa_cons (pv 0) (pa_cons (pe_bltn (v := .ty "bool") (by rfl) mb (by decide +kernel) rfl) pa_nil))))))), ?_⟩
    refine ⟨.int i, rfl, .int i, .ty "int", .type "int", .type "int", true, rfl, .ty _, .base (.int _), kit_ty (by decide +kernel), true, rfl, iteT ?_⟩
    exact ⟨.int i, rfl, .int i, .ty "bool", .type "int", .type "bool", false, rfl, .ty _, .base (.int _), kit_ty (by decide +kernel), false, rfl, q⟩
theorem ok_at {f : Addr} {fd : FuncData} {k : Nat} (F : Fun K "_law_at" "_law_at" sAt f fd) (ml : mg "len" = none) (mi : mg "int" = none) :
    FnOk P w K mg base CX0 (k + 1) f fd ["draws", "k", "many"] (spAt K) := by
  refine F.ok scAt (fun vs H Q E h => ?_) (fun cdv A outer s H vs Q E hr h => ?_)
  · obtain ⟨a, ds, k, m, rfl, _⟩ := h
    rfl
  · obtain ⟨a, ds, k, m, rfl, hS, hk, hm, q⟩ := h
    refine ⟨_, pss_cons (ps_if (pt_cmpR op_lt (pv 1) (pe_callB call_len_seq (by rfl) ml PySem.boot_len (pa_cons (pv 0) pa_nil)) (nomark _))
        (pss_one (ps_ret (pe_op op_mod (pe_callTy call_int1 (by rfl) mi (by decide +kernel) (pa_cons (pe_ix ix_list (pv 0) (pv 1) (fun _ _ => rfl)) pa_nil)) (pv 2)))) pss_nil)
      (pss_one (ps_ret pe_int)), ?_⟩
    refine q_when (b := decide (k < (ds.length : Int))) (by exact an_test (vl_I0 (vl_var rfl) ((vl_lenL (vl_var rfl) hS).is (by rw [List.length_map])))) (fun hb => ?_) (fun _ => ?_)
    · have hb := of_decide_eq_true hb
      obtain ⟨d, g', _⟩ := at_int hk hb
      refine g_ret (v := .int (d % m)) ?_ (q _ ⟨Int.emod_nonneg _ (by omega), Int.emod_lt_of_pos _ hm⟩)
      exact vl_I (vl_int1 (vl_ixL (vl_var rfl) (vl_var rfl) hS g')) (vl_var rfl) hm
    · exact g_ret vl_c (q 0 ⟨by omega, by omega⟩)
theorem ok_mix {f : Addr} {fd : FuncData} {k : Nat} (F : Fun K "_law_mix" "_law_mix" sMix f fd) (ml : mg "len" = none) (mi : mg "int" = none) :
    FnOk P w K mg base CX0 (k + 1) f fd ["draws", "k", "many"] (spAt K) := by
  refine F.ok scMix (fun vs H Q E h => ?_) (fun cdv A outer s H vs Q E hr h => ?_)
  · obtain ⟨a, ds, k, m, rfl, _⟩ := h
    rfl
  · obtain ⟨a, ds, k, m, rfl, hS, hk, hm, q⟩ := h
    refine ⟨_, pss_cons (ps_set (i := 3) scMix.nd rfl (.inl rfl) pe_int)
      (Evl.pss_cut (ps_if (pt_cmpR op_gt (pe_callB call_len_seq (by rfl) ml PySem.boot_len (pa_cons (pv 0) pa_nil)) pe_int (nomark _))
        (pss_one (ps_set (i := 3) scMix.nd rfl (.inl rfl) (pe_ix ix_list (pv 0) (pe_op op_mod (pe_callTy call_int1 (by rfl) mi (by decide +kernel) (pa_cons (pv 1) pa_nil)) (pe_callB call_len_seq (by rfl) ml PySem.boot_len (pa_cons (pv 0) pa_nil))) (fun _ _ => rfl)))) pss_nil)
      (pss_cons (ps_if (pt_cmpR op_lt (pv 1) (pe_callB call_len_seq (by rfl) ml PySem.boot_len (pa_cons (pv 0) pa_nil)) (nomark _))
        (pss_one (ps_ret (pe_op op_mod (pe_callTy call_int1 (by rfl) mi (by decide +kernel) (pa_cons (pv 3) pa_nil)) (pv 2)))) pss_nil)
      (pss_one (ps_ret (pe_op op_mod (pe_callTy call_int1 (by rfl) mi (by decide +kernel) (pa_cons (pe_op op_fdiv (pe_callTy call_int1 (by rfl) mi (by decide +kernel) (pa_cons (pe_op op_add (pe_op op_mul (pv 3) pe_int) (pe_op op_mul (pv 1) pe_int)) pa_nil)) pe_int) pa_nil)) (pv 2)))))), ?_⟩
    refine q_asg vl_c ?_
    refine q_cut (M := fun σ' H' => ∃ v : Int, σ' = [some (.ref a), some (.int k), some (.int m), some (.int v)] ∧ H' = H) ?_ ?_
    · refine g_when (b := decide ((0 : Int) < (ds.length : Int))) (by exact an_test (vl_I0 ((vl_lenL (vl_var rfl) hS).is (by rw [List.length_map])) vl_c)) (fun hb => ?_) (fun _ => ⟨0, rfl, rfl⟩)
      have hb := of_decide_eq_true hb
      have h0 : 0 ≤ k % (ds.length : Int) := Int.emod_nonneg _ (by omega)
      have h1 : k % (ds.length : Int) < (ds.length : Int) := Int.emod_lt_of_pos _ hb
      obtain ⟨d, g', _⟩ := at_int h0 h1
      exact g_asg (vl_ixL (vl_var rfl) (vl_I (vl_int1 (vl_var rfl)) ((vl_lenL (vl_var rfl) hS).is (by rw [List.length_map])) hb) hS g') ⟨_, rfl, rfl⟩
    · rintro σ' H' ⟨v, rfl, rfl⟩
      refine q_when (b := decide (k < (ds.length : Int))) (by exact an_test (vl_I0 (vl_var rfl) ((vl_lenL (vl_var rfl) hS).is (by rw [List.length_map])))) (fun hb => ?_) (fun _ => ?_)
      · exact g_ret (v := .int (v % m)) (vl_I (vl_int1 (vl_var rfl)) (vl_var rfl) hm) (q _ ⟨Int.emod_nonneg _ (by omega), Int.emod_lt_of_pos _ hm⟩)
      · refine g_ret (v := .int ((v * 7919 + k * 104729) / 3 % m)) (vl_I (vl_int1 (vl_I (vl_int1 (vl_I0 (vl_I (vl_var rfl) vl_c (.inr ⟨by decide, by decide⟩)) (vl_I (vl_var rfl) vl_c (.inr ⟨by decide, by decide⟩)))) vl_c ⟨by decide, by decide⟩)) (vl_var rfl) hm) (q _ ⟨Int.emod_nonneg _ (by omega), Int.emod_lt_of_pos _ hm⟩)
end
def PriceOk (o : Option Int) : Prop := ∀ x, o = some x → 1 ≤ x ∧ x ≤ 1000000
structure LnkOk (n : Int) (l : Lnk) : Prop where
  a0 : 0 ≤ l.a
  ab : l.a < l.b
  bn : l.b < n
  t : PriceOk l.t
  k : PriceOk l.k
def LnkLt (x y : Lnk) : Prop := x.a < y.a ∨ (x.a = y.a ∧ x.b < y.b)
structure NetOk (N : Net) : Prop where
  n1 : 1 ≤ N.n
  n40 : N.n ≤ 40
  ok : ∀ l ∈ N.ls, LnkOk N.n l
  lt : N.ls.Pairwise LnkLt
  len : N.ls.length ≤ 1600
/-- a net that stands in H by itself -/
def NetAt (K : PySem.W.Frag) (H : Hp) (v : V) (N : Net) : Prop := ∃ p q xs, v = .ref p ∧ H p = some (.tup [.int N.n, .ref q]) ∧ H q = some (.lst xs) ∧ DpAll K H xs (N.ls.map lnkD)
theorem NetAt.dp {K : PySem.W.Frag} {H : Hp} {v : V} {N : Net} (h : NetAt K H v N) : Dp K H v (netD N) := by
  obtain ⟨p, q, xs, rfl, hp, hq, hx⟩ := h
  exact Dp.net (.of hp) (.of hq) hx
theorem NetAt.to {K : PySem.W.Frag} {H H' : Hp} {v : V} {N : Net} (h : NetAt K H v N) (s : Same H H') : NetAt K H' v N := by
  obtain ⟨p, q, xs, rfl, hp, hq, hx⟩ := h
  exact ⟨p, q, xs, rfl, s _ _ hp, s _ _ hq, DpAll.to hx s⟩
def spPrice (K : PySem.W.Frag) : Sp := fun vs H Q _ => ∃ (a : Addr) (ds : List Int) (k : Int), vs = [.ref a, .int k] ∧ SqL K H a (ds.map V.int) ∧ 0 ≤ k ∧ ∀ H' o, Same H H' → PriceOk o → Q (oV o) H'
def spNet (K : PySem.W.Frag) : Sp := fun vs H Q _ => ∃ (a : Addr) (ds : List Int) (k m : Int), vs = [.ref a, .int k, .int m] ∧ SqL K H a (ds.map V.int) ∧ 0 ≤ k ∧ 1 ≤ m ∧ m ≤ 40 ∧
  ∀ H' v N, Same H H' → NetAt K H' v N → NetOk N → N.n ≤ m → Q v H'
section
variable {P : Program} {w : World} {K : PySem.W.Frag} {mg : Str → Option Value} {base : Heap}
theorem ok_price {f : Addr} {fd : FuncData} (F : Fun K "_law_price" "_law_price" sPrice f fd) (M : Kal P w K mg base 1 "_law_mix" ["draws", "k", "many"] (spAt K)) (mi : mg "int" = none) :
    FnOk P w K mg base CX0 2 f fd ["draws", "k"] (spPrice K) := by
  refine F.ok scPrice (fun vs H Q E h => ?_) (fun cdv A outer s H vs Q E hr h => ?_)
  · obtain ⟨a, ds, k, rfl, _⟩ := h
    rfl
  · obtain ⟨a, ds, k, rfl, hS, hk, q⟩ := h
    refine ⟨_, pss_cons (ps_set (i := 2) scPrice.nd rfl (.inl rfl) (pe_k M hr (by decide) (by rfl) (pa_cons (pv 0) (pa_cons (pv 1) (pa_cons pe_int pa_nil)))))
      (pss_cons (ps_if (pt_cmpR op_eq (pv 2) pe_int (nomark _)) (pss_one (ps_ret pe_non)) pss_nil)
      (pss_cons (ps_if (pt_cmpR op_eq (pv 2) pe_int (nomark _))
        (pss_one (ps_ret (pe_op op_sub pe_int (pe_k M hr (by decide) (by rfl) (pa_cons (pv 0) (pa_cons (pe_op op_add (pv 1) pe_int) (pa_cons pe_int pa_nil))))))) pss_nil)
      (pss_one (ps_ret (pe_op op_add pe_int (pe_k M hr (by decide) (by rfl) (pa_cons (pv 0) (pa_cons (pe_op op_add (pv 1) pe_int)
        (pa_cons (pe_ix ix_list (pe_lst (pa_cons pe_int (pa_cons pe_int (pa_cons pe_int pa_nil)))) (pe_op op_mod (pe_callTy call_int1 (by rfl) mi (by decide +kernel) (pa_cons (pv 2) pa_nil)) pe_int) (fun _ _ => rfl)) pa_nil))))))))), ?_⟩
    refine q_asgI (vi_call (P := fun r => 0 ≤ r ∧ r < 7) (va_cons (vl_var rfl) (va_cons (vl_var rfl) (va_cons vl_c va_nil))) fun Q E q => ⟨a, ds, k, 7, rfl, hS, hk, by decide, q⟩) (fun wd hw => ?_)
    refine q_when (b := decide (V.int wd = V.int 0)) (by exact an_test (vl_eq (vl_var rfl) vl_c rfl)) (fun _ => ?_) (fun _ => ?_)
    · exact g_ret vl_c (q H none (Same.refl H) (fun x e => by cases e))
    · refine q_when (b := decide (V.int wd = V.int 1)) (by exact an_test (vl_eq (vl_var rfl) vl_c rfl)) (fun _ => ?_) (fun _ => ?_)
      · refine g_retI (P := fun r => 1 ≤ r ∧ r ≤ 1000000) (vi_I0 (vi_of vl_c) (vi_call (P := fun r => 0 ≤ r ∧ r < 3) (va_cons (vl_var rfl) (va_cons (vl_I0 (vl_var rfl) vl_c) (va_cons vl_c va_nil))) fun Q E q => ⟨a, ds, k + 1, 3, rfl, hS, by omega, by decide, q⟩) (fun p r hp hr => ?_)) (fun r hr => ?_)
        · omega
        · exact q H (some r) (Same.refl H) (fun x e => by
            cases e
            exact hr)
      · refine ⟨.ref a, rfl, .int k, rfl, k, 1, rfl, rfl, by show 3 ≤ sizeLine; decide, fun p np => ?_⟩
        refine (vl_I (vl_int1 (vl_var rfl)) vl_c (by decide)) _ ?_
        obtain ⟨d, g', hd⟩ := at_int (ds := [4, 30, 1000000]) (k := wd % 3) (by omega) (by show wd % 3 < 3; omega)
        have hd1 : 1 ≤ d ∧ d ≤ 1000000 := by
          have := List.mem_of_getElem? hd
          simp only [List.mem_cons, List.not_mem_nil, or_false] at this
          omega
        refine ⟨p, _, _, _, rfl, rfl, .inl (.inl upd_same), g', ?_⟩
        refine ⟨a, ds, k + 1, d, rfl, (same_upd np).seq hS, by omega, by omega, fun r hr => ?_⟩
        exact ⟨1, r, rfl, rfl, q _ (some (1 + r)) (same_upd np) (fun x e => by
          cases e
          omega)⟩
end
abbrev sNet : Stmt := topS 22
theorem scNet : FnScope ["draws", "k", "most", "size", "dense", "links", "a", "b", "at"] ["draws", "k", "most"] (defScope sNet) := ⟨rfl, rfl, rfl, by decide +kernel, rfl, by decide +kernel, by decide +kernel⟩
/-- the links made so far: all of them before (i, c) -/
structure LsAt (n i c : Int) (ls : List Lnk) : Prop where
  ok : ∀ l ∈ ls, LnkOk n l
  to : ∀ l ∈ ls, l.a < i ∨ (l.a = i ∧ l.b < c)
  lt : ls.Pairwise LnkLt
theorem LsAt.nil {n i c : Int} : LsAt n i c [] := ⟨fun _ h => (nomatch h), fun _ h => (nomatch h), .nil⟩
theorem LsAt.mono {n i c i' c' : Int} {ls : List Lnk} (h : LsAt n i c ls) (e : i < i' ∨ (i = i' ∧ c ≤ c')) : LsAt n i' c' ls :=
  ⟨h.ok, fun l hl => by
    have := h.to l hl
    omega, h.lt⟩
theorem LsAt.app {n i c : Int} {ls : List Lnk} {t k : Option Int} (h : LsAt n i c ls) (h0 : 0 ≤ i) (h1 : i < c) (h2 : c < n) (ht : PriceOk t) (hk : PriceOk k) : LsAt n i (c + 1) (ls ++ [⟨i, c, t, k⟩]) where
  ok := fun l hl => by
    rcases List.mem_append.mp hl with h' | h'
    · exact h.ok l h'
    · rw [List.mem_singleton.mp h']
      exact ⟨h0, h1, h2, ht, hk⟩
  to := fun l hl => by
    rcases List.mem_append.mp hl with h' | h'
    · have := h.to l h'
      omega
    · rw [List.mem_singleton.mp h']
      exact .inr ⟨rfl, Int.lt_succ c⟩
  lt := List.pairwise_append.mpr ⟨h.lt, List.pairwise_singleton _ _, fun x hx y hy => by
    rw [List.mem_singleton.mp hy]
    exact h.to x hx⟩
section
variable {P : Program} {w : World} {K : PySem.W.Frag} {mg : Str → Option Value} {base : Heap}
theorem ok_net {f : Addr} {fd : FuncData} (F : Fun K "_law_net" "_law_net" sNet f fd) (M : Kal P w K mg base 1 "_law_mix" ["draws", "k", "many"] (spAt K)) (C : Kal P w K mg base 2 "_law_price" ["draws", "k"] (spPrice K)) (mr : mg "range" = none) :
    FnOk P w K mg base CX0 3 f fd ["draws", "k", "most"] (spNet K) := by
  refine F.ok scNet (fun vs H Q E h => ?_) (fun cdv A outer s H vs Q E hr h => ?_)
  · obtain ⟨a, ds, k, m, rfl, _⟩ := h
    rfl
  · obtain ⟨a, ds, k, m, rfl, hS, hk, hm1, hm2, q⟩ := h
    refine ⟨_, pss_cons (ps_set (i := 3) scNet.nd rfl (.inl rfl) (pe_op op_add pe_int (pe_k M hr (by decide) (by rfl) (pa_cons (pv 0) (pa_cons (pv 1) (pa_cons (pv 2) pa_nil))))))
      (pss_cons (ps_set (i := 4) scNet.nd rfl (.inl rfl) (pe_op op_add pe_int (pe_k M hr (by decide) (by rfl) (pa_cons (pv 0) (pa_cons (pe_op op_add (pv 1) pe_int) (pa_cons pe_int pa_nil))))))
      (pss_cons (ps_set (i := 5) scNet.nd rfl (.inl rfl) (pe_lst pa_nil))
      (pss_cons (ps_for PassesOwn.never rfl (pi_range1 (by rfl) mr (pa_cons (pv 3) pa_nil)) (pg_name (i := 6) scNet.nd rfl (.inl rfl))
        (pss_one (ps_for PassesOwn.never rfl (pi_range2 (by rfl) mr (pa_cons (pe_op op_add (pv 6) pe_int) (pa_cons (pv 3) pa_nil))) (pg_name (i := 7) scNet.nd rfl (.inl rfl))
          (pss_cons (ps_set (i := 8) scNet.nd rfl (.inl rfl) (pe_op op_add (pe_op op_add (pv 1) pe_int) (pe_op op_mul pe_int (pe_op op_add (pe_op op_mul (pv 6) (pv 3)) (pv 7)))))
          (pss_one (ps_if (pt_cmpR op_eq (pe_k M hr (by decide) (by rfl) (pa_cons (pv 0) (pa_cons (pv 8)
              (pa_cons (pe_ix ix_list (pe_lst (pa_cons pe_int (pa_cons pe_int (pa_cons pe_int (pa_cons (pv 3) (pa_cons (pv 3) pa_nil)))))) (pe_op op_sub (pv 4) pe_int) (fun _ _ => rfl)) pa_nil)))) pe_int (nomark _))
            (pss_one (ps_expr (pe_bm PySem.F.plainAttrs_list PySem.F.slot_list_append PySem.F.type_list_append mt_append (pv 5)
              (pa_cons (pe_tup (pa_cons (pv 6) (pa_cons (pv 7) (pa_cons (pe_k C hr (by decide) (by rfl) (pa_cons (pv 0) (pa_cons (pe_op op_add (pv 8) pe_int) pa_nil)))
                (pa_cons (pe_k C hr (by decide) (by rfl) (pa_cons (pv 0) (pa_cons (pe_op op_add (pv 8) pe_int) pa_nil))) pa_nil))))) pa_nil)))) pss_nil))))))
      (pss_one (ps_ret (pe_tup (pa_cons (pv 3) (pa_cons (pv 5) pa_nil)))))))), ?_⟩
    refine q_asgI (P := fun r => 1 ≤ r ∧ r ≤ m) (vi_I0 (vi_of vl_c) (vi_call (P := fun r => 0 ≤ r ∧ r < m) (va_cons (vl_var rfl) (va_cons (vl_var rfl) (va_cons (vl_var rfl) va_nil))) fun Q E q => ⟨a, ds, k, m, rfl, hS, hk, by omega, q⟩) (fun p r hp hr => by omega)) (fun n hn => ?_)
    refine q_asgI (P := fun r => 1 ≤ r ∧ r ≤ 5) (vi_I0 (vi_of vl_c) (vi_call (P := fun r => 0 ≤ r ∧ r < 5) (va_cons (vl_var rfl) (va_cons (vl_I0 (vl_var rfl) vl_c) (va_cons vl_c va_nil))) fun Q E q => ⟨a, ds, k + 1, 5, rfl, hS, by omega, by decide, q⟩) (fun p r hp hr => by omega)) (fun dn hdn => ?_)
    refine ⟨Nat.zero_le _, fun o no => ?_⟩
    refine q_forR (n := n) (va_cons (vl_var rfl) va_nil) ⟨by omega, by omega⟩
      (fun i σ H3 => ∃ y6 y7 y8 xs ls, σ = [some (.ref a), some (.int k), some (.int m), some (.int n), some (.int dn), some (.ref o), y6, y7, y8] ∧ H3 o = some (.lst xs) ∧ Same H (but H3 o) ∧ DpAll K (but H3 o) xs (ls.map lnkD) ∧ LsAt n i 0 ls ∧ ls.length ≤ i * 40)
      ⟨none, none, none, [], [], rfl, upd_same, same_but (same_upd no) no, .nil, .nil, by simp⟩ (fun i σ H3 hi hP => ?_) (fun σ H3 hP => ?_)
    · obtain ⟨y6, y7, y8, xs, ls, rfl, ho, sm, hx, hl, hlen⟩ := hP
      refine g_forR2 (lo := (i : Int) + 1) (n := n) (va_cons (vl_I0 (vl_var rfl) vl_c) (va_cons (vl_var rfl) va_nil)) ⟨by omega, by omega, by omega, by omega⟩
        (fun j σ H3 => ∃ y7 y8 xs ls, σ = [some (.ref a), some (.int k), some (.int m), some (.int n), some (.int dn), some (.ref o), some (.int i), y7, y8] ∧ H3 o = some (.lst xs) ∧ Same H (but H3 o) ∧ DpAll K (but H3 o) xs (ls.map lnkD) ∧ LsAt n i ((i : Int) + 1 + j) ls ∧ ls.length ≤ i * 40 + j)
        ⟨y7, y8, xs, ls, rfl, ho, sm, hx, hl.mono (.inr ⟨rfl, by omega⟩), hlen⟩ (fun j σ H3 hj hP => ?_) (fun σ H3 hP => ?_)
      · obtain ⟨y7, y8, xs, ls, rfl, ho, sm, hx, hl, hlen⟩ := hP
        refine q_asg (v := .int (k + 3 + 2 * (i * n + ((i : Int) + 1 + j)))) (vl_I0 (vl_I0 (vl_var rfl) vl_c) (vl_I vl_c (vl_I0 (vl_I (vl_var rfl) (vl_var rfl) (.inl ⟨by omega, by omega⟩)) (vl_var rfl)) (.inl ⟨by decide, by decide⟩))) ?_
        have hin : 0 ≤ (i : Int) * n := Int.mul_nonneg (by omega) (by omega)
        generalize hat : k + 3 + 2 * ((i : Int) * n + ((i : Int) + 1 + j)) = at_
        have hat0 : 0 ≤ at_ := by omega
        refine ⟨.ref a, rfl, .int at_, rfl, .int n, rfl, .int n, rfl, by show 5 ≤ sizeLine; decide, fun p np => ?_⟩
        refine (vl_I0 (vl_var rfl) vl_c) _ ?_
        have npo : o ≠ p := ne_of_none ho np
        obtain ⟨d, g', hd⟩ := at_int (ds := [2, 3, 4, n, n]) (k := dn - 1) (by omega) (by show dn - 1 < 5; omega)
        have hd1 : 1 ≤ d := by
          have := List.mem_of_getElem? hd
          simp only [List.mem_cons, List.not_mem_nil, or_false] at this
          omega
        have s3 : Same H3 (upd H3 p (.lst [.int 2, .int 3, .int 4, .int n, .int n])) := same_upd np
        have sH : Same H H3 := sm.trans but_same
        refine ⟨p, _, _, _, rfl, rfl, .inl (.inl upd_same), g', ?_⟩
        refine ⟨a, ds, at_, d, rfl, (sH.trans s3).seq hS, hat0, by omega, fun r hr => ?_⟩
        refine ⟨rfl, _, rfl, ite2 (fun _ => ?_) (fun _ => ?_)⟩
        · -- links.append
          have ho4 := s3 _ _ ho
          refine ⟨.ref o, rfl, .inl ⟨rfl, _, .inl (.inl ho4)⟩, .int i, rfl, .int ((i : Int) + 1 + j), rfl, ?_⟩
          refine ⟨.ref a, rfl, .int at_, rfl, at_, 1, rfl, rfl, a, ds, at_ + 1, rfl, (sH.trans s3).seq hS, by omega, fun H5 t s5 ht => ?_⟩
          refine ⟨.ref a, rfl, .int at_, rfl, at_, 2, rfl, rfl, a, ds, at_ + 2, rfl, ((sH.trans s3).trans s5).seq hS, by omega, fun H6 u s6 hu => ?_⟩
          refine ⟨by show 4 ≤ sizeLine; decide, fun T nT => ?_⟩
          have s36 : Same H3 H6 := (s3.trans s5).trans s6
          have ho6 := s36 _ _ ho
          have nTo : o ≠ T := ne_of_none ho6 nT
          have s7 : Same H6 (upd H6 T (.tup [.int i, .int ((i : Int) + 1 + j), oV t, oV u])) := same_upd nT
          refine ⟨o, xs, .ref T, rfl, rfl, s7 _ _ ho6, ?_, ?_⟩
          · rw [DpAll.len hx, List.length_map]
            exact Nat.lt_of_le_of_lt (show ls.length ≤ 10000 by omega) (by decide)
          · have sb : Same (but H3 o) (but (upd (upd H6 T (.tup [.int i, .int ((i : Int) + 1 + j), oV t, oV u])) o (.lst (xs ++ [.ref T]))) o) := by
              rw [but_upd]
              exact but_mono (s36.trans s7)
            refine ⟨_, _, xs ++ [.ref T], ls ++ [⟨i, (i : Int) + 1 + j, t, u⟩], rfl, upd_same, sm.trans sb, ?_, ?_, ?_⟩
            · rw [List.map_append]
              refine DpAll.app (DpAll.to hx sb) (DpAll.one (Dp.lnk (l := ⟨i, (i : Int) + 1 + j, t, u⟩) (.of ?_)))
              rw [but_upd, but_ne nTo.symm, upd_same]
              rfl
            · rw [show (i : Int) + 1 + ((j + 1 : Nat) : Int) = (i : Int) + 1 + j + 1 by omega]
              exact hl.app (by omega) (by omega) (by omega) ht hu
            · rw [List.length_append]
              show ls.length + 1 ≤ i * 40 + (j + 1)
              omega
        · have sb : Same (but H3 o) (but (upd H3 p (.lst [.int 2, .int 3, .int 4, .int n, .int n])) o) := but_mono s3
          exact ⟨_, _, xs, ls, rfl, s3 _ _ ho, sm.trans sb, DpAll.to hx sb, hl.mono (.inr ⟨rfl, by omega⟩), by omega⟩
      · obtain ⟨y7, y8, xs, ls, rfl, ho, sm, hx, hl, hlen⟩ := hP
        exact ⟨_, _, _, xs, ls, rfl, ho, sm, hx, hl.mono (.inl (by omega)), by omega⟩
    · obtain ⟨y6, y7, y8, xs, ls, rfl, ho, sm, hx, hl, hlen⟩ := hP
      refine ⟨.int n, rfl, .ref o, rfl, by show 2 ≤ sizeLine; decide, fun T nT => ?_⟩
      have s3 : Same H3 (upd H3 T (.tup [.int n, .ref o])) := same_upd nT
      exact q _ _ ⟨n, ls⟩ ((sm.trans but_same).trans s3) ⟨T, o, xs, rfl, upd_same, s3 _ _ ho, DpAll.to hx (but_same.trans s3)⟩ ⟨by show 1 ≤ n; omega, by show n ≤ 40; omega, hl.ok, hl.lt, by show ls.length ≤ 1600; omega⟩ (by show n ≤ m; omega)
end
/-! ### data that is the same is equal -/
theorem lay_o : ∀ o : Option Int, (oD o).canLay0 = true ∧ (oD o).depth = 0
  | none => ⟨rfl, rfl⟩
  | some _ => ⟨rfl, rfl⟩
theorem lay_lnks : ∀ ls : List Lnk, PyData.canLayAll0 (ls.map lnkD) = true ∧ PyData.depthAll (ls.map lnkD) ≤ 1
  | [] => ⟨rfl, Nat.zero_le _⟩
  | l :: ls => by
    have h1 := lay_o l.t
    have h2 := lay_o l.k
    have ih := lay_lnks ls
    constructor
    · show (((true && (true && ((oD l.t).canLay0 && ((oD l.k).canLay0 && true)))) && PyData.canLayAll0 (ls.map lnkD)) = true)
      rw [h1.1, h2.1, ih.1]
      rfl
    · show max (max 0 (max 0 (max (oD l.t).depth (max (oD l.k).depth 0))) + 1) (PyData.depthAll (ls.map lnkD)) ≤ 1
      rw [h1.2, h2.2]
      have := ih.2
      simp only [Nat.max_self, Nat.zero_add]
      omega
theorem shaped_net (N : Net) : SeqAt.shaped (netD N) = true := by
  have h := lay_lnks N.ls
  show ((true && (PyData.canLayAll0 (N.ls.map lnkD) && true)) && decide (max 0 (max (PyData.depthAll (N.ls.map lnkD) + 1) 0) + 1 ≤ 64)) = true
  rw [h.1, decide_eq_true (show max 0 (max (PyData.depthAll (N.ls.map lnkD) + 1) 0) + 1 ≤ 64 by
    have := h.2
    omega)]
  rfl
theorem eqv_net (N : Net) : PyData.eqv (netD N) (netD N) = true := SeqAt.eqv_refl _ (Bool.and_eq_true_iff.mp (shaped_net N)).1
/-! ### new lists -/
def Vn (te : TE) (σ : L2.St) (H : Hp) (xs : List V) : Prop := ∀ Q : VK, (∀ p H', Same H H' → H p = none → H' p = some (.lst xs) → Q (.ref p) H') → te σ H Q
section
variable {K : PySem.W.Frag} {σ : L2.St} {H : Hp} {ta tb te : TE} {tr : TA} {xs ys : List V} {a : Addr} {D : Ends} {tw : TS}
theorem vn_lst (h : Va tr σ H xs) (hz : xs.length ≤ sizeLine) : Vn (tLst tr) σ H xs := fun Q q => h _ ⟨hz, fun p np => q p _ (same_upd np) np upd_same⟩
theorem vn_slice {tl th : TO} {lo hi : Option Int} (h : Vl te σ H (.ref a)) (hl : ∀ Q : Option Int → Hp → Prop, Q lo H → tl σ H Q) (hh : ∀ Q : Option Int → Hp → Prop, Q hi H → th σ H Q) (hx : SqL K H a xs) : Vn (tSl (rSlL K) te tl th) σ H (cutV xs lo hi) := fun Q q =>
  h _ (hl _ (hh _ ⟨a, xs, rfl, hx, fun p np => q p _ (same_upd np) np upd_same⟩))
theorem vn_rev (h : Vl te σ H (.ref a)) (hx : SqL K H a xs) : Vn (tRevL K te) σ H xs.reverse := fun Q q => h _ ⟨a, xs, rfl, hx, fun p np => q p _ (same_upd np) np upd_same⟩
theorem vn_cat (ha : Vn ta σ H xs) (hb : ∀ H', Same H H' → Vn tb σ H' ys) (hz : xs.length + ys.length ≤ sizeLine) : Vn (tOp rCat ta tb) σ H (xs ++ ys) := fun Q q => ha _ fun p H1 s1 np hp => hb H1 s1 _ fun r H2 s2 nr hr =>
  ⟨p, r, xs, ys, rfl, rfl, s2 _ _ hp, hr, hz, fun t nt => q t _ ((s1.trans s2).trans (same_upd nt)) (Same.free (s1.trans s2) nt) upd_same⟩
theorem vn_listOf (h : Vl te σ H (.ref a)) (hx : SqL K H a xs) : Vn (tCB (fun xs H Q => ∃ p ys, xs = [V.ref p] ∧ (SqL K H p ys ∨ SqT K H p ys) ∧ ∀ l, H l = none → Q (V.ref l) (upd H l (.lst ys))) (tCons te tNil)) σ H xs := fun Q q =>
  h _ ⟨a, xs, rfl, .inl hx, fun p np => q p _ (same_upd np) np upd_same⟩
theorem q_asgN {i : Nat} (h : Vn te σ H xs) (k : ∀ p H', Same H H' → H p = none → H' p = some (.lst xs) → tw D (σ.set i (some (.ref p))) H') : tSeq (tAsg te (gName i)) tw D σ H := h _ k
end
theorem cut_to {xs : List V} {n : Nat} (h : n ≤ xs.length) : cutV xs none (some (n : Int)) = xs.take n := by
  unfold cutV
  rw [HT.sIx_none, HT.sIx_nat, Nat.min_eq_left h, Nat.sub_zero, List.drop_zero]
theorem cut_from {xs : List V} {n : Nat} (h : n ≤ xs.length) : cutV xs (some (n : Int)) none = xs.drop n := by
  unfold cutV
  rw [HT.sIx_none, HT.sIx_nat, Nat.min_eq_left h]
  exact List.take_of_length_le (by rw [List.length_drop]; exact Nat.le_refl _)
/-- lists of lists of ints -/
theorem Dp.ints {K : PySem.W.Frag} {H : Hp} {p : Addr} {ns : List Int} (h : SqL K H p (ns.map V.int)) : Dp K H (.ref p) (.list (ns.map PyData.int)) := .lst h (DpAll.ints ns)
theorem Dp.ints_inv {K : PySem.W.Frag} {H : Hp} {v : V} {ns : List Int} (h : Dp K H v (.list (ns.map PyData.int))) : ∃ p, v = .ref p ∧ SqL K H p (ns.map V.int) := by
  obtain ⟨a, xs, rfl, hs, ha⟩ := Dp.lst_inv h
  rw [DpAll.ints_inv ha] at hs
  exact ⟨a, rfl, hs⟩
end Ovc
namespace PySem
namespace LowX
open PySem.W PySem.Calls PyProof.Rows PySem.HandSPX
/-! ### the text of __init__ -/
def iA (p1 p2 : Pos) : Arguments := { posonlyargs := [], args := [{ arg := "self", annotation := none, pos := p1 }, { arg := "at", annotation := none, pos := p2 }], vararg := none, kwonlyargs := [], kw_defaults := [], kwarg := none, defaults := [] }
def iB (q1 q2 q3 q4 : Pos) : List Stmt := [.Assign [.Attribute (.Name "self" q1) "at" q2] (.Name "at" q3) q4]
def iS : Scope := { kind := .function, names := [(PySem.Str.ofString "self", .local), (PySem.Str.ofString "at", .local)], isGenerator := false, isCoroutine := false, more := [] }
/-- what the written part says of Low, at C, and of its __init__, at fI -/
structure LowTxt (K : Frag) (mg : Str → Option Value) (xN : Str) (C fI : Addr) : Prop where
  gC : mg xN = some (.ref C)
  cls : ∃ nm q N bs bm sn sub ab col dd k0 k1 k2 k3 k5, K.lookup C = some (excClassObj nm q C N bs bm true sn sub ab col dd k0 k1 k2 k3 k5 "ValueError.__new__") ∧ refsVE bm = true
  sa : findIn K (.ref C) "__setattr__" = some (some (.builtin "object.__setattr__"))
  ga : findIn K (.ref C) "__getattribute__" = some (some (.builtin "BaseException.__getattribute__"))
  gg : findIn K (.ref C) "__getattr__" = some none
  noN : findIn K (.ref C) "at" = some none
  iC : findIn K (.ref C) "__init__" = some (some (.ref fI))
  tC : typeIn K (.ref fI) = some (.type "function")
  kC : keepIn K (.ref C) = true
  exC : subIn K (.ref C) (.type "BaseException") = some true
  tyC : typeIn K (.ref C) = some (.type "type")
  hdC : hasDictIn K C = true
  te : exmOne K (.ref C) (.ref C) = some true
  fn : ∃ (oc : Value) (od : Option Addr) (doc pm : Value) (an : Option Addr) (cdv ct : Value) (osl : Array (Option Value)) (p1 p2 q1 q2 q3 q4 : Pos),
    K.lookup fI = some ⟨oc, od, .func (fnOf "__init__" "OverpassesError.__init__" (iA p1 p2) (iB q1 q2 q3 q4) iS .none .none doc pm an cdv ct), osl⟩ ∧ codeIn K cdv "OverpassesError.__init__" = true
theorem one_size (v : Value) : [v].length ≤ sizeLine := by
  rw [sizeLine_eq]
  exact (by decide : 1 ≤ 16777216)
theorem kept_but {K : Frag} {h h' : Heap} {x : Addr} (X : K.In h) (hx : K.lookup x = none) (k : ∀ b o, b ≠ x → h.get? b = some o → h'.get? b = some o) : K.In h' := fun a o e =>
  k a o (fun z => by rw [z, hx] at e; cases e) (X a o e)
theorem ldC {M : Model} {s : Shared} {name : Str} {scope : Scope} {L a : Addr} {cd : Value} {m : Str → Option Value} {x : Str} {pos : Pos} {v : Value} {Q : Value → Shared → Prop} {A : Around} {E : Value → Shared → Prop} (hn : s.heap.Ns L m) (hv : m x = some v) (h : Q v s)
    (hk : scope.kind = .function := by rfl) (hl : (envOfC name scope L a cd).kindOf x = some .local := by rfl) (hd : (x == ("__debug__" : Str)) = false := by decide) :
    wpAny M A (eval (.Name x pos) (envOfC name scope L a cd)) Q E s := wpAny_Name (wpAny_loadName_local hk hl hn hv h) hd
/-- what __init__ leaves of a fresh exception at x -/
structure InitEnd (h h' : Heap) (x C dx t1 : Addr) (v : Value) : Prop where
  keep : ∀ b o, b ≠ x → h.get? b = some o → h'.get? b = some o
  obj : h'.get? x = some { cls := .ref C, dict := some dx, data := .fields #[.ref t1, .none, .none, .none, .bool false, .none] }
  dbig : h.objs.size ≤ dx
  dne : dx ≠ x
  ns : h'.Ns1 dx (fun y => if y = "at" then some v else none)
/-- a made Low -/
structure OwnMade (h h' : Heap) (e C d : Addr) (v : Value) : Prop where
  keep : ∀ b o, h.get? b = some o → h'.get? b = some o
  new : h.objs.size ≤ e
  obj : ∃ oe vs, h'.get? e = some oe ∧ oe.cls = .ref C ∧ oe.dict = some d ∧ oe.data = .fields vs ∧ vs[1]? = some .none
  dbig : h.objs.size ≤ d
  dne : d ≠ e
  ns : h'.Ns1 d (fun y => if y = "at" then some v else none)
section
variable {prog : Program} {w : World} {A : Around} {E : Value → Shared → Prop} {R : Result → Shared → Prop} {s : Shared} {K : Frag} {mg : Str → Option Value} {xN : Str} {C fI : Addr}
theorem low_init (T : LowTxt K mg xN C fI) {x t0 : Addr} {v : Value} (X : K.In s.heap) (hlim : s.heap.NoLimit) (hx : s.heap.get? x = some (excO C t0)) (hnx : K.lookup x = none) (hroom : A.depth < recursionLimit)
    (hq : ∀ h' tk dx, InitEnd s.heap h' x C dx t0 v → R (.ok (.ret .none)) { s with heap := h', toks := tk }) :
    codeAny (model prog w) A (.call (.ref fI) ⟨[.ref x, v], []⟩) R s := by
  obtain ⟨oc, od, doc, pm, an, cdv, ct, osl, p1, p2, q1, q2, q3, q4, ho, hcd⟩ := T.fn
  obtain ⟨nm, q, N, bs, bm, sn, sub, ab, col, dd, k0, k1, k2, k3, k5, hC, hbm⟩ := T.cls
  have hcl : clsIn K C = some { name := nm, bases := bs, mro := .ref C :: bm, ns := N, qualname := q, hasDict := true, slotNames := sn, subclasses := sub, abstract := ab, collection := col, hasDel := false } := by unfold clsIn; rw [hC] <;> rfl
  refine Att.call_fn (binds := [("self", .ref x), ("at", v)]) X hlim ho hcd hroom (BindsTo.of_eq (by first | rfl | with_unfolding_all rfl)) (by first | rfl | decide | with_unfolding_all rfl) (fun s₁ IC => ?_) rfl rfl rfl
  obtain ⟨h₁, tk₁, rfl⟩ := IC.toInCall.same
  have k : ∀ b o, s.heap.get? b = some o → h₁.get? b = some o := IC.toInCall.keep
  have hn := IC.toInCall.ns
  have hxL : s.heap.objs.size ≠ x := Nat.ne_of_gt (Heap.lt_size hx)
  have X₁ : K.In h₁ := X.keeps k
  have hx₁ := k _ _ hx
  -- self.by = by
  show wpAny _ _ (execs _ _) _ _ _
  refine wpAny_execs_cons (plainObj_wpAny_Assign_Attribute ?_)
  refine ldC (v := v) hn (by first | rfl | with_unfolding_all rfl | kernel_rfl) (ldC (v := .ref x) hn (by first | rfl | with_unfolding_all rfl | kernel_rfl) ?_)
  refine set_plain X₁ (ox := excO C t0) (od := none) ⟨hx₁, rfl, rfl, trivial⟩ T.sa ?_
  refine exc_osa X₁ hx₁ hcl (show refsVE (.ref C :: bm) = true from hbm) rfl T.noN (fun h₃ tk₃ dx k₃ dn dne hx₃ hn₃ => ?_)
  show wpAny _ _ (execs _ _) _ _ _
  have z : s.heap.objs.size < h₁.objs.size := hn.lt
  exact wpAny_execs_nil (hq h₃ tk₃ dx ⟨fun b o hb e => k₃ b o hb (k b o e), hx₃, Nat.le_of_lt (Nat.lt_of_lt_of_le z dn), dne, hn₃⟩)
theorem low_made (T : LowTxt K mg xN C fI) {v : Value} (X : K.In s.heap) (hlim : s.heap.NoLimit) (hroom : A.depth + 1 < recursionLimit)
    (hq : ∀ h' tk e d, OwnMade s.heap h' e C d v → R (.ok (.ret (.ref e))) { s with heap := h', toks := tk }) :
    codeAny (model prog w) A (.call (.ref C) ⟨[v], []⟩) R s := by
  obtain ⟨nm, q, N, bs, bm, sn, sub, ab, col, dd, k0, k1, k2, k3, k5, hC, hbm⟩ := T.cls
  obtain ⟨hp, g, dr, tk, os⟩ := s
  have k : ∀ b o, hp.get? b = some o → ((hp.push (kdv_tup [v])).push (excO C hp.objs.size)).get? b = some o := fun b o e => Heap.get?_push_of_some _ (Heap.get?_push_of_some _ e)
  have hget : ((hp.push (kdv_tup [v])).push (excO C hp.objs.size)).get? (hp.objs.size + 1) = some (excO C hp.objs.size) := by heap_get
  have hnx : K.lookup (hp.objs.size + 1) = none := by
    cases e : K.lookup (hp.objs.size + 1) with
    | none => rfl
    | some o =>
      have z : hp.get? (hp.objs.size + 1) = some o := X _ _ e
      exact absurd (Nat.lt_of_succ_lt (Heap.lt_size z)) (Nat.lt_irrefl _)
  refine call_own F.excBase_ValueError (fun X => refsVE_contains X bm hbm) (X _ _ hC) (looks_findIn X T.iC) (fun self => bind_fn X self T.tC) (one_size v) ?_
  refine low_init (s := ⟨(hp.push (kdv_tup [v])).push (excO C hp.objs.size), g, dr, tk, os⟩) T (X.keeps k) (hlim.keeps k) hget hnx ?_ fun h' tk' dx ⟨k', hx, dn, dne, hns⟩ => ?_
  · show A.depth + 1 < recursionLimit
    exact hroom
  · have old : ∀ b o, hp.get? b = some o → h'.get? b = some o := fun b o e => k' b o (Nat.ne_of_lt (Nat.lt_succ_of_lt (Heap.lt_size e))) (k b o e)
    have z : hp.objs.size + 1 + 1 ≤ dx := by
      first
        | (simpa only [Heap.size_push] using dn)
        | exact dn
        | (have q := dn; rw [Heap.size_push, Heap.size_push] at q; exact q)
    exact ⟨rfl, hq h' tk' (hp.objs.size + 1) dx ⟨old, Nat.le_succ _, ⟨_, _, hx, rfl, rfl, rfl, rfl⟩, Nat.le_trans (Nat.le_trans (Nat.le_succ _) (Nat.le_succ _)) z, dne, hns⟩⟩
end
end LowX
end PySem
namespace L2
open PySem PySem.Spec PyProof.Rows
theorem relO_low {v : V} {v' : Value} (r : RelV v v') (f : Str) : RelO (List.lookup f [(("at" : Str), v)]) (if f = "at" then some v' else none) := by
  by_cases hw : f = "at"
  · subst hw
    rw [if_pos rfl]
    have q : List.lookup ("at" : Str) [(("at" : Str), v)] = some v := by simp [List.lookup]
    rw [q]
    exact r
  · rw [if_neg hw]
    have qw : (f == ("at" : Str)) = false := by simpa using hw
    have q2 : List.lookup f [(("at" : Str), v)] = none := by simp [List.lookup, qw]
    rw [q2]
    trivial
section
variable {X : Cx} {xN : Str} {C fI : Addr}
/-- Low(e) -/
def tMkLow (C : Addr) (ta : TA) : St → Hp → XK → Prop := fun σ H Q => ta σ H fun vs H1 => ∃ v, vs = [v] ∧ ∀ d, H1 d = none → Q (.ref C) (some d) (upd H1 d (.xd [(("at" : Str), v)]))
theorem pmk_low {a : Expr} {ta : TA} {p pos : Pos} {k : Nat} (T : PySem.LowX.LowTxt X.K X.mg xN C fI) (hr : Room k X.A) (ha : PA X [a] ta) (hg : Gl X xN := by rfl) (hdb : (xN == ("__debug__" : Str)) = false := by decide)
    (he : starEach (a :: []) X.env = (false, eval a X.env) :: starEach [] X.env := by rfl) (hpl : (backTo pos (starEach [] X.env)).any (·.1) = false := by rfl) :
    PMk X (.Call (.Name xN p) [a] [] pos) (tMkLow C ta) := by
  intro pins s σ H Q I h
  refine wpAny_Call_Name_kw (ld_glob I hg T.gC ?_ hdb)
  refine PySem.W.callWith_K (h₀ := X.base) I.ok.mod.kin T.kC (thn (ha.run pos pins s σ H _ I h) fun us s1 hh => ?_) he hpl
  obtain ⟨vs, H1, I1, r1, v, ev, q1⟩ := hh
  subst ev
  refine ⟨I1.kIn, ?_⟩
  cases r1 with
  | cons rv rn =>
    rename_i v' us'
    cases rn
    show wpAny _ _ (call (.ref C) [v']) _ _ _
    have hlim := I1.nolimit
    obtain ⟨hp, g, dr, tk, os⟩ := s1
    refine wpAny_call (PySem.LowX.low_made T I1.kIn hlim (by have := hr.dp; omega) fun h' tk' e d M => ?_)
    show MkP X pins σ Q (.ref e) ⟨h', g, dr, tk', os⟩
    obtain ⟨oe, fv, hoe, hc, hd, hdat, h1⟩ := M.obj
    have hns := M.ns
    obtain ⟨G', g1, g2⟩ := restrict h' fun b => decide (b ≠ e)
    have gk : ∀ b, b ≠ e → G'.get? b = h'.get? b := fun b hb => g1 b (decide_eq_true hb)
    have ge : G'.get? e = none := g2 e (by simp)
    have old : ∀ b o, hp.get? b = some o → G'.get? b = some o := fun b o q => (gk b (Nat.ne_of_lt (Nat.lt_of_lt_of_le (Heap.lt_size q) M.new))).trans (M.keep b o q)
    have ob : ObjOk X.prog X.w (upd H1 d (.xd [(("at" : Str), v)])) G' d (.xd [(("at" : Str), v)]) :=
      ⟨_, hns.at (fun o q => (gk d M.dne).trans q), fun f => relO_low rv f⟩
    have J : Inv X pins σ (upd H1 d (.xd [(("at" : Str), v)])) ⟨G', g, dr, tk', os⟩ := I1.laid (t' := tk') old M.dbig ob
    refine ⟨e, oe, fv, ⟨G', g, dr, tk', os⟩, _, .ref C, some d, rfl, J, fun b o q => ?_, ge, hoe, ⟨hc, hd⟩, hdat, h1, ?_, rfl, I1.bare, raises_own T.exC T.tyC, q1 d (I1.hok.fresh M.dbig)⟩
    · by_cases hb : b = e
      · have q' : G'.get? b = some o := q
        rw [hb, ge] at q'; cases q'
      · exact (gk b hb).symm.trans q
    · rw [upd_ne (Ne.symm M.dne)]
      exact I1.hok.fresh M.new
/-- raise Low(e) -/
def tRaiseLow (C : Addr) (W : WX) (ta : TA) : TS := fun _ σ H => tMkLow C ta σ H fun cls d H' => W cls d σ H'
theorem ps_raiseLow {a : Expr} {ta : TA} {W : WX} {p pos pos2 : Pos} {k : Nat} (hc : X.calm = true) (T : PySem.LowX.LowTxt X.K X.mg xN C fI) (hr : Room k X.A) (tk : Takes X W) (ha : PA X [a] ta) (hg : Gl X xN := by rfl) (hdb : (xN == ("__debug__" : Str)) = false := by decide)
    (he : starEach (a :: []) X.env = (false, eval a X.env) :: starEach [] X.env := by rfl) (hpl : (backTo pos (starEach [] X.env)).any (·.1) = false := by rfl) :
    PS X (.Raise (some (.Call (.Name xN p) [a] [] pos)) none pos2) (tRaiseLow C W ta) := ps_raise hc tk (pmk_low T hr ha hg hdb he hpl)
/-- low.by, low the exception that the suite holds (at a; its class cls, its dict d) -/
def tByLow (C : Addr) (a : Addr) (cls : Value) (d : Option Addr) (te : TE) : TE := fun σ H Q => te σ H fun x H1 => x = .ref a ∧ cls = .ref C ∧ ∃ (dd : Addr) (v : V), d = some dd ∧ H1 dd = some (.xd [(("at" : Str), v)]) ∧ Q v H1
theorem pe_byLow {a : Addr} {oe : Obj} {cls : Value} {d : Option Addr} {pn : List (Addr × Obj)} {e : Expr} {te : TE} {pos : Pos} (T : PySem.LowX.LowTxt X.K X.mg xN C fI) (hz : Zc cls d oe) (hf : ∃ vs, oe.data = .fields vs) (he : PE (X.suite a ((a, oe) :: pn)) e te)
    (hb : attributeBase e "at" X.env (eval e X.env) = eval e X.env := by rfl) :
    PE (X.suite a ((a, oe) :: pn)) (.Attribute e "at" pos) (tByLow C a cls d te) := by
  refine ⟨fun pins s σ H Q I h => ?_⟩
  refine attr_of hb (thn (he.run pins s σ H _ I h) fun u s1 hh => ?_)
  obtain ⟨x, H1, I1, rx, ex, ec, dd, v, ed, ea, q⟩ := hh
  subst ex
  obtain rfl : u = Value.ref a := rx
  subst ec
  subst ed
  obtain ⟨ha, _⟩ := I1.pin (a, oe) (List.mem_append_left _ List.mem_cons_self)
  obtain ⟨vs, hd⟩ := hf
  have hx : ObjOk X.prog X.w H1 s1.heap dd (.xd [(("at" : Str), v)]) := I1.hok dd _ ea
  obtain ⟨mA, hns, hr⟩ := hx
  obtain ⟨od, ho, hl⟩ := lookIn_ns hns
  have l : List.lookup ("at" : Str) [(("at" : Str), v)] = some v := by simp [List.lookup]
  obtain ⟨u, hu, ru⟩ := RelO.some_of (v := v) (o := mA "at") (by rw [← l]; exact hr "at")
  have J : PySem.W.InstAt s1.heap a oe C (some od) := ⟨ha, hz.1, by unfold PySem.W.notCls; rw [hd] <;> rfl, by rw [hz.2]; exact ho⟩
  exact HandSPX.exc_get I1.kIn J T.ga T.gg T.exC (PySem.W.findObj_own T.hdC T.noN rfl (by rw [hl, hu])) (handed_of ru) ⟨v, H1, I1.tok _, ru, q⟩
end
end L2

namespace L2
open PySem PySem.Spec PyProof.Rows
/-- an if whose test is known -/
theorem if_true_of {c : Bool} {A B : Prop} (hc : c = true) (h : A) : if c = true then A else B := by
  rw [if_pos hc]
  exact h
theorem if_false_of {c : Bool} {A B : Prop} (hc : c = false) (h : B) : if c = true then A else B := by
  rw [hc, if_neg Bool.false_ne_true]
  exact h
end L2
namespace Ovc
open PySem PySem.Spec PyProof.Rows L2
/-! ### try with several clauses, each with a name or without one -/
/-- the ends of a suite whose name's slot is emptied behind it -/
def endsAs (i : Nat) (D : Ends) : Ends := { nx := fun σ H => D.nx (σ.set i none) H, rt := D.rt, bk := fun σ H => D.bk (σ.set i none) H, ct := fun σ H => D.ct (σ.set i none) H }
abbrev Clause := Value × Option Nat × (Addr → Value → Option Addr → TS)
def runClause (q : Clause) (a : Addr) (cls : Value) (d : Option Addr) (D : Ends) (σ : L2.St) (H : Hp) : Prop :=
  match q.2.1 with
  | none => q.2.2 a cls d D σ H
  | some i => q.2.2 a cls d (endsAs i D) (σ.set i (some (.ref a))) H
def wClauses (K : PySem.W.Frag) (Wout : WX) (D : Ends) : List Clause → WX
  | [] => Wout
  | q :: r => fun cls d σ H => ∃ b, PySem.W.exmOne K cls q.1 = some b ∧ (b = true → ∀ a, H a = none → runClause q a cls d D σ H) ∧ (b = false → wClauses K Wout D r cls d σ H)
inductive ClOk (X : Cx) : List ExceptHandler → List Clause → Prop
  | nil : ClOk X [] []
  | bare {x : Str} {c : Value} {ts : Addr → Value → Option Addr → TS} {st₀ : Stmt} {sts : List Stmt} {p1 p2 : Pos} {hds : List ExceptHandler} {l : List Clause} (hc : Names X x c)
      (suite : ∀ (a : Addr) (ob : Obj) (cls : Value) (d : Option Addr) (pn : List (Addr × Obj)), Zc cls d ob → (∃ fv, ob.data = .fields fv) → PSs (X.suite a ((a, ob) :: pn)) (st₀ :: sts) (ts a cls d)) (more : ClOk X hds l) :
      ClOk X (.ExceptHandler (some (.Name x p1)) none (st₀ :: sts) p2 :: hds) ((c, none, ts) :: l)
  | named {x n : Str} {c : Value} {i : Nat} {ts : Addr → Value → Option Addr → TS} {st₀ : Stmt} {sts : List Stmt} {p1 p2 : Pos} {hds : List ExceptHandler} {l : List Clause} (hN : X.N.Nodup) (hi : X.N[i]? = some n) (hln : X.env.kindOf n = some .local) (hc : Names X x c)
      (suite : ∀ (a : Addr) (ob : Obj) (cls : Value) (d : Option Addr) (pn : List (Addr × Obj)), Zc cls d ob → (∃ fv, ob.data = .fields fv) → PSs (X.suite a ((a, ob) :: pn)) (st₀ :: sts) (ts a cls d)) (more : ClOk X hds l) :
      ClOk X (.ExceptHandler (some (.Name x p1)) (some n) (st₀ :: sts) p2 :: hds) ((c, some i, ts) :: l)
section
variable {X : Cx} {body : List Stmt} {hd₀ : ExceptHandler} {hds : List ExceptHandler} {l : List Clause} {pos : Pos} {tb : WX → TS} {Wout : WX}
theorem ps_try_cl (hsk : X.stack = X.env :: X.outer) (hfm : X.env.frame = some X.env.locals) (tk : Takes X Wout)
    (hb : ∀ (W : WX) (pn : List (Addr × Obj)) (xe : Value → Shared → Prop), Takes (X.tr pn xe) W → PassesOwn (model X.prog X.w) X.A X.env xe → PSs (X.tr pn xe) body (tb W))
    (hcl : ClOk X (hd₀ :: hds) l) : PS X (.Try body (hd₀ :: hds) [] [] pos) (fun D σ H => tb (wClauses X.K Wout D l) D σ H) := by
  refine ⟨fun pins s σ H D I0 hr => ?_⟩
  have okX := I0.ok
  have frA : X.A.frames = some (X.env :: X.outer) := by rw [okX.frames, hsk]
  refine wpAny_Try_except (wpAny_mono ((hb (wClauses X.K Wout D l) (X.pn ++ pins) (fun e t₁ => wpAny (model X.prog X.w) X.A (noteFrame e X.env) (fun _ t₂ => wpAny (model X.prog X.w) X.A (setFlight e none) (fun _ t₃ =>
    wpAny (model X.prog X.w) X.A (handleBy e X.env (hd₀ :: hds)) (SP X pins D) X.xe t₃) X.xe t₂) X.xe t₁) (fun u t xx => ?caught) PassesOwn.looking).run [] s σ H D (I0.toTry _) hr) (fun fl t hsp => ?after) (fun e t he => he))
  case after =>
    cases fl with
    | next => exact let ⟨σ1, H1, I1, z⟩ := hsp; wpAny_execs_nil ⟨σ1, H1, I1.ofTry okX, z⟩
    | brk => exact let ⟨σ1, H1, I1, z⟩ := hsp; ⟨σ1, H1, I1.ofTry okX, z⟩
    | cont => exact let ⟨σ1, H1, I1, z⟩ := hsp; ⟨σ1, H1, I1.ofTry okX, z⟩
    | ret u => exact let ⟨v, σ1, H1, I1, r, z⟩ := hsp; ⟨v, σ1, H1, I1.ofTry okX, r, z⟩
  case caught =>
    obtain ⟨a, B, sI, pins1, σ1, H1, cls, d, rfl, I1', nb, up, sky, na, os, ag, wish⟩ := xx
    have I1 : Inv X pins σ1 H1 sI := I1'.ofTry okX
    have skyF : Sky B (X.env :: X.outer) a (Zc cls d) X.env.locals t.heap := by rw [← hsk]; exact sky
    refine Sky.land Zc.steady frA hfm skyF fun h3 fl3 up3 => ?_
    have I3 : Inv X pins σ1 H1 { t with heap := h3 } := I1.landed nb fl3.1 (up.trans up3) os ag
    obtain ⟨ob3, fv3, at3, z3, dat3⟩ := fl3.there
    have off : a ∉ frs (X.env :: X.outer) := fun hm => by
      obtain ⟨_, o', e', hnf⟩ := fl3.2.2.1.mem hm
      rw [at3] at e'
      cases e'
      exact hnf _ dat3
    have offL : a ≠ X.env.locals := fun z => off (List.mem_filterMap.mpr ⟨X.env, List.mem_cons_self, by rw [hfm, z]⟩)
    have offF : a ∉ X.fs := fun hm => let ⟨en, hen, z⟩ := List.mem_filterMap.mp hm; off (List.mem_filterMap.mpr ⟨en, List.mem_cons_of_mem _ hen, z⟩)
    have SU3 := I3.suite at3 dat3 na offL offF
    have test : ∀ {x : Str} {c : Value} {p1 : Pos} {Q : Value → Shared → Prop} {E : Value → Shared → Prop}, Names X x c → Q c { t with heap := h3 } →
        wpAny (model X.prog X.w) (X.A.mark (some (.ref a))) (eval (.Name x p1) X.env) Q E { t with heap := h3 } := fun {x c p1 Q E} hc z => by
      obtain ⟨hg, hdb, hm | ⟨hm, hv, hne⟩⟩ := hc
      · exact ld_glob (X := X.suite a ((a, ob3) :: (X.pn ++ pins))) SU3 hg hm z hdb
      · exact ld_blt (X := X.suite a ((a, ob3) :: (X.pn ++ pins))) SU3 hg hm hv z hne hdb
    have looks : PySem.W.Looks (model X.prog X.w) h3 (typeOf (.ref a)) cls := fun A Q E s1 keep z => wpAny_typeOf_ref (keep _ _ at3) (by rw [z3.1]; exact z)
    suffices go : ∀ {hs1 : List ExceptHandler} {l1 : List Clause}, ClOk X hs1 l1 → wClauses X.K Wout D l1 cls d σ1 H1 → wpAny (model X.prog X.w) X.A (handleBy (.ref a) X.env hs1) (SP X pins D) X.xe { t with heap := h3 } from go hcl wish
    intro hs1 l1 hk
    induction hk with
    | nil =>
      intro wo
      refine wpAny_handleBy_nil ?_
      obtain ⟨k1, k2, k3, ob, fv, T, oT, tv, heT, hzT, hdT, hT1, hTr⟩ := id fl3
      unfold PySem.passOn
      refine wpAny_bind (wpAny_field heT hdT hT1 ?_)
      rw [if_neg (show ¬ (Value.ref T == Value.none) = true from by simp)]
      have fin : wpAny (model X.prog X.w) X.A (setFlight (.ref a) X.env.frame) (fun _ t4 => wpAny (model X.prog X.w) X.A (throw (.ref a) : Sem Flow) (SP X pins D) X.xe t4) X.xe { t with heap := h3 } := by
        rw [hfm]
        exact HandSPX.setFlight_upZ fl3 fun h4 held4 up4 => wpAny_throw (tk _ _ ⟨a, B, sI, pins, σ1, H1, cls, d, rfl, I1, nb, (up.trans up3).trans up4, .inr (.inr (by rw [hsk]; exact held4)), na, os, ag, wo⟩)
      first | exact wpAny_bind (wpAny_pure (wpAny_bind fin)) | exact wpAny_bind fin
    | @bare x c ts st₀ sts p1 p2 hs2 l2 hc suite more ih =>
      rintro ⟨b, hb1, yes, no⟩
      refine wpAny_handleBy_cons (codeAny_handlers_test (test hc ((PySem.W.exm_one (M := model X.prog X.w) I3.kIn looks hb1).here ?_))) (by intro q; cases q)
      cases b with
      | false => exact ih (no rfl)
      | true =>
        refine codeAny_handlers_suite (HandSPX.lands_againZ fl3 fun h4 fl4 up4 => ?_)
        have I4 : Inv X pins σ1 H1 { t with heap := h4 } := I1.landed nb fl4.1 ((up.trans up3).trans up4) os ag
        obtain ⟨ob4, fv4, at4, z4, dat4⟩ := fl4.there
        refine wpAny_mono ((suite a ob4 cls d (X.pn ++ pins) z4 ⟨_, dat4⟩).run [] _ _ H1 _ (I4.suite at4 dat4 na offL offF) (yes rfl a na)) (fun f t6 hsp => ?_) (fun _ _ z => False.elim z)
        cases f with
        | next => exact let ⟨σ6, H6, S6, z6⟩ := hsp; ⟨_, _, S6.unsuite okX, z6⟩
        | brk => exact let ⟨σ6, H6, S6, z6⟩ := hsp; ⟨_, _, S6.unsuite okX, z6⟩
        | cont => exact let ⟨σ6, H6, S6, z6⟩ := hsp; ⟨_, _, S6.unsuite okX, z6⟩
        | ret u => exact let ⟨v6, σ6, H6, S6, r6, z6⟩ := hsp; ⟨_, _, _, S6.unsuite okX, r6, z6⟩
    | @named x n c i ts st₀ sts p1 p2 hs2 l2 hN hi hln hc suite more ih =>
      rintro ⟨b, hb1, yes, no⟩
      refine wpAny_handleBy_cons (codeAny_handlers_test (test hc ((PySem.W.exm_one (M := model X.prog X.w) I3.kIn looks hb1).here ?_))) (by intro q; cases q)
      cases b with
      | false => exact ih (no rfl)
      | true =>
        refine codeAny_handlers_suite_as (HandSPX.lands_againZ fl3 fun h4 fl4 up4 => ?_)
        have I4 : Inv X pins σ1 H1 { t with heap := h4 } := I1.landed nb fl4.1 ((up.trans up3).trans up4) os ag
        obtain ⟨ob4, fv4, at4, z4, dat4⟩ := fl4.there
        refine store_ok (X := X.suite a ((a, ob4) :: (X.pn ++ pins))) (v := .ref a) (I4.suite at4 dat4 na offL offF) hN hi (.inl hln) rfl (fun t5 S5 => ?_) (.inr hln)
        refine wpAny_mono ((suite a ob4 cls d (X.pn ++ pins) z4 ⟨_, dat4⟩).run [] t5 _ H1 _ S5 (yes rfl a na)) (fun f t6 hsp => ?_) (fun _ _ z => False.elim z)
        have off6 : ∀ {σ6 : L2.St} {H6 : Hp} {Q : Shared → Prop}, Inv (X.suite a ((a, ob4) :: (X.pn ++ pins))) [] σ6 H6 t6 → (∀ t7, Inv X pins (σ6.set i none) H6 t7 → Q t7) →
            wpAny (model X.prog X.w) X.A (do bindName X.env n .none; unbindBehindTheSuite X.env n p2) (fun _ t7 => Q t7) X.xe t6 := fun {σ6 H6 Q} S6 hq => gone_ok (S6.unsuite okX) hN hi hln hq
        cases f with
        | next => exact let ⟨σ6, H6, S6, z6⟩ := hsp; off6 S6 fun t7 I7 => ⟨_, _, I7, z6⟩
        | brk => exact let ⟨σ6, H6, S6, z6⟩ := hsp; off6 S6 fun t7 I7 => ⟨_, _, I7, z6⟩
        | cont => exact let ⟨σ6, H6, S6, z6⟩ := hsp; off6 S6 fun t7 I7 => ⟨_, _, I7, z6⟩
        | ret u => exact let ⟨v6, σ6, H6, S6, r6, z6⟩ := hsp; off6 S6 fun t7 I7 => ⟨_, _, _, I7, r6, z6⟩
end
/-! ### a < b < c < d as a test -/
def tTest3 (r1 r2 r3 : R2) (ta tb tc td : TE) : TT := fun σ H Q => ta σ H fun x H1 => tb σ H1 fun y H2 => r1 x y H2 fun z H3 => ∃ k, z = .bl k ∧
  (if k = true then tc σ H3 fun u H4 => r2 y u H4 fun z2 H5 => ∃ k2, z2 = .bl k2 ∧ (if k2 = true then td σ H5 fun v H6 => r3 u v H6 fun z3 H7 => ∃ k3, z3 = .bl k3 ∧ Q k3 H7 else Q false H5) else Q false H3)
theorem pt_chain3 {X : Cx} {a b c d : Expr} {ta tb tc td : TE} {o1 o2 o3 : CmpOp} {r1 r2 r3 : R2} {pos : Pos} (h1 : OpR X (compareOp o1) r1) (h2 : OpR X (compareOp o2) r2) (h3 : OpR X (compareOp o3) r3) (ha : PE X a ta) (hb : PE X b tb) (hc : PE X c tc) (hd : PE X d td)
    (hm : lastMarks [o1, o2, o3] [b, c, d] = false := by with_unfolding_all rfl) : PT X (.Compare a [o1, o2, o3] [b, c, d] pos) (tTest3 r1 r2 r3 ta tb tc td) := by
  refine ⟨fun pins s σ H Q I0 hr => isTrue_chain (thn (ha.run pins s σ H _ I0 hr) fun v1 s1 ⟨x, H1, I1, e1, q1⟩ => test_link (thn (hb.run pins s1 σ H1 _ I1 q1) fun v2 s2 ⟨y, H2, I2, e2, q2⟩ =>
    thn (h1 pins s2 σ H2 x y v1 v2 _ I2 e1 e2 q2) fun v3 s3 ⟨z, H3, I3, e3, k, ez, q3⟩ => ?_)) hm⟩
  subst ez
  cases e3
  refine wpAny_truthy_bool ?_
  cases k with
  | false => exact ite_ff ⟨H3, I3, q3⟩
  | true =>
    refine ite_tt (test_link (thn (hc.run pins s3 σ H3 _ I3 q3) fun v4 s4 ⟨u, H4, I4, e4, q4⟩ => thn (h2 pins s4 σ H4 y u v2 v4 _ I4 e2 e4 q4) fun v5 s5 ⟨z2, H5, I5, e5, k2, ez2, q5⟩ => ?_))
    subst ez2
    cases e5
    refine wpAny_truthy_bool ?_
    cases k2 with
    | false => exact ite_ff ⟨H5, I5, q5⟩
    | true =>
      refine ite_tt (test_last (thn (hd.run pins s5 σ H5 _ I5 q5) fun v6 s6 ⟨v, H6, I6, e6, q6⟩ => thn (h3 pins s6 σ H6 u v v4 v6 _ I6 e4 e6 q6) fun v7 s7 ⟨z3, H7, I7, e7, k3, ez3, q7⟩ => ?_))
      subst ez3
      cases e7
      exact wpAny_truthy_bool ⟨H7, I7, q7⟩
theorem an_chain3 {σ : L2.St} {H : Hp} {g1 g2 g3 : Int → Int → Bool} {ta tb tc td : TE} {p q r s : Int} (ha : Vl ta σ H (.int p)) (hb : Vl tb σ H (.int q)) (hc : Vl tc σ H (.int r)) (hd : Vl td σ H (.int s)) :
    An (tTest3 (rI0 fun i j => .bl (g1 i j)) (rI0 fun i j => .bl (g2 i j)) (rI0 fun i j => .bl (g3 i j)) ta tb tc td) σ H (g1 p q && (g2 q r && g3 r s)) := fun Q k =>
  ha _ (hb _ ⟨p, q, rfl, rfl, _, rfl, by
    show if g1 p q = true then _ else _
    revert k
    cases g1 p q with
    | false => exact fun k => iteF k
    | true => exact fun k => iteT (hc _ ⟨q, r, rfl, rfl, _, rfl, by
        show if g2 q r = true then _ else _
        revert k
        cases g2 q r with
        | false => exact fun k => iteF k
        | true => exact fun k => iteT (hd _ ⟨r, s, rfl, rfl, _, rfl, k⟩)⟩)⟩)
/-! ### tests that make objects on their way -/
def Ax (t : TT) (σ : L2.St) (H : Hp) (b : Bool) : Prop := ∀ Q : Bool → Hp → Prop, (∀ H', Same H H' → Q b H') → t σ H Q
section
variable {K : PySem.W.Frag} {σ : L2.St} {H : Hp} {t u : TT} {D : Ends} {tz tu tw : TS} {ta tb tc : TE}
theorem ax_of {b : Bool} (h : An t σ H b) : Ax t σ H b := fun Q q => h Q (q H (Same.refl H))
theorem ax_not {b : Bool} (h : Ax t σ H b) : Ax (tNot t) σ H (!b) := fun Q q => h _ fun H' s => q H' s
theorem ax_and {k m : Bool} (h1 : Ax t σ H k) (h2 : k = true → ∀ H', Same H H' → Ax u σ H' m) : Ax (tAnd t u) σ H (k && m) := fun Q q => h1 _ fun H1 s1 => by
  cases k with
  | true => exact iteT (h2 rfl H1 s1 _ fun H2 s2 => q H2 (s1.trans s2))
  | false => exact iteF (q H1 s1)
theorem ax_or {k m : Bool} (h1 : Ax t σ H k) (h2 : k = false → ∀ H', Same H H' → Ax u σ H' m) : Ax (tOr t u) σ H (k || m) := fun Q q => h1 _ fun H1 s1 => by
  cases k with
  | true => exact iteT (q H1 s1)
  | false => exact iteF (h2 rfl H1 s1 _ fun H2 s2 => q H2 (s1.trans s2))
theorem Ax.is {k m : Bool} (h : Ax t σ H k) (e : k = m) : Ax t σ H m := e ▸ h
theorem g_ifx {b : Bool} (h : Ax t σ H b) (h1 : b = true → ∀ H', Same H H' → tz D σ H') (h2 : b = false → ∀ H', Same H H' → tu D σ H') : tIfS t tz tu D σ H := h _ fun H' s => by
  cases b with
  | true => exact iteT (h1 rfl H' s)
  | false => exact iteF (h2 rfl H' s)
theorem q_ifx {b : Bool} (h : Ax t σ H b) (h1 : b = true → ∀ H', Same H H' → tz { D with nx := tw D } σ H') (h2 : b = false → ∀ H', Same H H' → tu { D with nx := tw D } σ H') : tSeq (tIfS t tz tu) tw D σ H := g_ifx (D := { D with nx := tw D }) h h1 h2
theorem q_whenx {b : Bool} (h : Ax t σ H b) (h1 : b = true → ∀ H', Same H H' → tz { D with nx := tw D } σ H') (h2 : b = false → ∀ H', Same H H' → tw D σ H') : tSeq (tIfS t tz tNext) tw D σ H := g_ifx (D := { D with nx := tw D }) h h1 h2
theorem g_whenx {b : Bool} (h : Ax t σ H b) (h1 : b = true → ∀ H', Same H H' → tz D σ H') (h2 : b = false → ∀ H', Same H H' → D.nx σ H') : tIfS t tz tNext D σ H := g_ifx h h1 h2
theorem lexAt2 {a b c d : Int} : Ob.lexAt (fun j => decide ([a, b].getD j 0 = [c, d].getD j 0)) (fun j => decide ([a, b].getD j 0 ≤ [c, d].getD j 0)) (decide ([a, b].length ≤ [c, d].length)) 0 (min [a, b].length [c, d].length) = decide (a < c ∨ (a = c ∧ b ≤ d)) := by
  show (if decide (a = c) = true then (if decide (b = d) = true then decide (2 ≤ 2) else decide (b ≤ d)) else decide (a ≤ c)) = _
  by_cases h1 : a = c
  · rw [if_pos (decide_eq_true h1)]
    by_cases h2 : b = d
    · rw [if_pos (decide_eq_true h2), decide_eq_true (Nat.le_refl 2), decide_eq_true (.inr ⟨h1, by omega⟩)]
    · rw [if_neg (fun h => h2 (of_decide_eq_true h)), Bool.eq_iff_iff]
      simp only [decide_eq_true_eq]
      omega
  · rw [if_neg (fun h => h1 (of_decide_eq_true h)), Bool.eq_iff_iff]
    simp only [decide_eq_true_eq]
    omega
/-- (a, b) <= t, t a tuple of two ints -/
theorem ax_leT {a b c d : Int} {T : Addr} (ha : Vl ta σ H (.int a)) (hb : Vl tb σ H (.int b)) (hc : ∀ H', Same H H' → Vl tc σ H' (.ref T)) (hT : SqT K H T [.int c, .int d]) : Ax (tTest (tOp (rLeT K) (tTup (tCons ta (tCons tb tNil))) tc)) σ H (decide (a < c ∨ (a = c ∧ b ≤ d))) := fun Q q =>
  ha _ (hb _ ⟨by show 2 ≤ sizeLine; decide, fun S nS => hc _ (same_upd nS) _ ⟨S, T, [a, b], [c, d], rfl, rfl, .of upd_same, seqT (same_upd nS) hT, _, rfl, by
    rw [lexAt2]
    exact q _ (same_upd nS)⟩⟩)
/-- (a, b) == (c, d), the tuples made on the way -/
theorem ax_eqTT {td : TE} {p q r s : Int} (ha : ∀ H', Same H H' → Vl ta σ H' (.int p)) (hb : ∀ H', Same H H' → Vl tb σ H' (.int q)) (hc : ∀ H', Same H H' → Vl tc σ H' (.int r)) (hd : ∀ H', Same H H' → Vl td σ H' (.int s)) :
    Ax (tTest (tOp (rEqD K) (tTup (tCons ta (tCons tb tNil))) (tTup (tCons tc (tCons td tNil))))) σ H (decide (p = r ∧ q = s)) := fun Q k =>
  ha H (Same.refl H) _ (hb H (Same.refl H) _ ⟨by show 2 ≤ sizeLine; decide, fun T nT => by
    have s1 : Same H (upd H T (.tup [.int p, .int q])) := same_upd nT
    refine hc _ s1 _ (hd _ s1 _ ⟨by show 2 ≤ sizeLine; decide, fun S nS => ?_⟩)
    have s2 : Same (upd H T (.tup [.int p, .int q])) (upd (upd H T (.tup [.int p, .int q])) S (.tup [.int r, .int s])) := same_upd nS
    refine ⟨.tuple [.int p, .int q], .tuple [.int r, .int s], .tup (.of (s2 _ _ upd_same)) (.cons (.int _) (.cons (.int _) .nil)), .tup (.of upd_same) (.cons (.int _) (.cons (.int _) .nil)), by rfl, by rfl, _, rfl, ?_⟩
    rw [show PyData.eqv (.tuple [.int p, .int q]) (.tuple [.int r, .int s]) = decide (p = r ∧ q = s) by
      show (p == r && (q == s && true)) = _
      rw [Bool.and_true, Bool.eq_iff_iff]
      simp]
    exact k _ (s1.trans s2)⟩)
/-- t == (c, d), t a tuple of two ints -/
theorem ax_eqRT {p q r s : Int} {T : Addr} (ha : Vl ta σ H (.ref T)) (hT : SqT K H T [.int p, .int q]) (hb : Vl tb σ H (.int r)) (hc : Vl tc σ H (.int s)) :
    Ax (tTest (tOp (rEqD K) ta (tTup (tCons tb (tCons tc tNil))))) σ H (decide (p = r ∧ q = s)) := fun Q k =>
  ha _ (hb _ (hc _ ⟨by show 2 ≤ sizeLine; decide, fun S nS => by
    have s2 : Same H (upd H S (.tup [.int r, .int s])) := same_upd nS
    refine ⟨.tuple [.int p, .int q], .tuple [.int r, .int s], .tup (seqT s2 hT) (.cons (.int _) (.cons (.int _) .nil)), .tup (.of upd_same) (.cons (.int _) (.cons (.int _) .nil)), by rfl, by rfl, _, rfl, ?_⟩
    rw [show PyData.eqv (.tuple [.int p, .int q]) (.tuple [.int r, .int s]) = decide (p = r ∧ q = s) by
      show (p == r && (q == s && true)) = _
      rw [Bool.and_true, Bool.eq_iff_iff]
      simp]
    exact k _ s2⟩))
/-- (a, b) == t, t a tuple of two ints -/
theorem ax_eqTR {p q r s : Int} {T : Addr} (ha : Vl ta σ H (.int p)) (hb : Vl tb σ H (.int q)) (hc : ∀ H', Same H H' → Vl tc σ H' (.ref T)) (hT : SqT K H T [.int r, .int s]) :
    Ax (tTest (tOp (rEqD K) (tTup (tCons ta (tCons tb tNil))) tc)) σ H (decide (p = r ∧ q = s)) := fun Q k =>
  ha _ (hb _ ⟨by show 2 ≤ sizeLine; decide, fun S nS => by
    have s2 : Same H (upd H S (.tup [.int p, .int q])) := same_upd nS
    refine hc _ s2 _ ⟨.tuple [.int p, .int q], .tuple [.int r, .int s], .tup (.of upd_same) (.cons (.int _) (.cons (.int _) .nil)), .tup (seqT s2 hT) (.cons (.int _) (.cons (.int _) .nil)), by rfl, by rfl, _, rfl, ?_⟩
    rw [show PyData.eqv (.tuple [.int p, .int q]) (.tuple [.int r, .int s]) = decide (p = r ∧ q = s) by
      show (p == r && (q == s && true)) = _
      rw [Bool.and_true, Bool.eq_iff_iff]
      simp]
    exact k _ s2⟩)
/-- assignments of a new tuple -/
theorem q_asgTup {i : Nat} {tr : TA} {xs : List V} (h : Va tr σ H xs) (hz : xs.length ≤ sizeLine) (k : ∀ T, H T = none → tw D (σ.set i (some (.ref T))) (upd H T (.tup xs))) : tSeq (tAsg (tTup tr) (gName i)) tw D σ H := h _ ⟨hz, k⟩
theorem g_asgTup {i : Nat} {tr : TA} {xs : List V} (h : Va tr σ H xs) (hz : xs.length ≤ sizeLine) (k : ∀ T, H T = none → D.nx (σ.set i (some (.ref T))) (upd H T (.tup xs))) : tAsg (tTup tr) (gName i) D σ H := h _ ⟨hz, k⟩
end
/-! ### defs that may raise, by their names -/
structure KalX (P : Program) (w : World) (K : PySem.W.Frag) (mg : Str → Option Value) (base : Heap) (k : Nat) (x : Str) (ps : List Str) (sp : Sp) : Prop where
  ex : ∃ (f : Addr) (fd : FuncData), FnOk P w K mg base (L2.CX P w) k f fd ps sp ∧ mg x = some (.ref f) ∧ PySem.W.keepIn K (.ref f) = true ∧ Binds K fd ps []
theorem kalx_of {P : Program} {w : World} {K : PySem.W.Frag} {mg : Str → Option Value} {base : Heap} {k : Nat} {x : Str} {st : Stmt} {ps : List Str} {sp : Sp} (A : Df K mg x st ps)
    (ok : ∀ f fd, Fun K x x st f fd → FnOk P w K mg base (L2.CX P w) k f fd ps sp) : KalX P w K mg base k x ps sp := by
  obtain ⟨f, fd, F, g, b⟩ := A.ex
  exact ⟨f, fd, ok f fd F, g, F.kp, b⟩
/-- called in a def that may raise -/
theorem pe_kx {X : Cx} {k j : Nat} {x : Str} {ps : List Str} {sp : Sp} {p pos : Pos} {e : Expr} {es : List Expr} {t : TA} {E : XK} (c : KalX X.prog X.w X.K X.mg X.base k x ps sp) (hr : Room j X.A) (hk : k ≤ j) (hg : Gl X x) (tk : Takes X (fun cls d _ H => E cls d H)) (ha : PA X (e :: es) t)
    (hdb : (x == ("__debug__" : Str)) = false := by decide) (he : starEach (e :: es) X.env = (false, eval e X.env) :: starEach es X.env := by rfl) (hpl : (backTo pos (starEach es X.env)).any (·.1) = false := by rfl) :
    PE X (.Call (.Name x p) (e :: es) [] pos) (tCall sp [] E t) := by
  obtain ⟨f, fd, F, hm, kp, b⟩ := c.ex
  exact pe_call F (hr.mono hk) hg hm kp b .nil (passes_call tk fun _ _ _ _ h => h) ha hdb he hpl
/-- called within a try -/
theorem pe_ks {X : Cx} {k j : Nat} {x : Str} {ps : List Str} {sp : Sp} {p pos : Pos} {e : Expr} {es : List Expr} {t : TA} {W : WX} (c : KalX X.prog X.w X.K X.mg X.base k x ps sp) (hr : Room j X.A) (hk : k ≤ j) (hg : Gl X x) (tk : Takes X W) (ha : PA X (e :: es) t)
    (hdb : (x == ("__debug__" : Str)) = false := by decide) (he : starEach (e :: es) X.env = (false, eval e X.env) :: starEach es X.env := by rfl) (hpl : (backTo pos (starEach es X.env)).any (·.1) = false := by rfl) :
    PE X (.Call (.Name x p) (e :: es) [] pos) (tCallS sp (WE W) t) := by
  obtain ⟨f, fd, F, hm, kp, b⟩ := c.ex
  exact pe_callS F (hr.mono hk) hg hm kp b (fun σ => passAt tk σ) ha hdb he hpl
/-! ### for link in links -/
section
variable {K : PySem.W.Frag} {σ : L2.St} {H : Hp} {a : Addr} {D : Ends} {tz tw : TS}
theorem g_forLk {j : Nat} {Hb : Hp} {xs : List V} {ls : List Lnk} {tl : TE} (h : Vl tl σ H (.ref a)) (hx : SqL K Hb a xs) (hL : DpAll K Hb xs (ls.map lnkD)) (hb : Same Hb H) (Pv : Nat → L2.St → Hp → Prop) (h0 : Pv 0 σ H) (hl : ∀ i σ' H', Pv i σ' H' → Same Hb H')
    (hs : ∀ (i : Nat) l t σ H, ls[i]? = some l → SqT K Hb t (lnkV l) → Pv i σ H → tz { D with nx := Pv (i + 1), ct := Pv (i + 1), bk := D.nx } (σ.set j (some (.ref t))) H) (hd : ∀ σ H, Pv ls.length σ H → D.nx σ H) :
    tFor (iList K tl) (gName j) tz D σ H := h _ ⟨a, rfl, ⟨_, hb.seq hx⟩, for_list (xs := xs) Pv h0 (fun i σ H _ p => (hl i σ H p).seq hx) (fun i x σ H hi p => by
      have e := DpAll.len hL
      rw [List.length_map] at e
      have hlt := (List.getElem?_eq_some_iff.mp hi).1
      have hg : ls[i]? = some ls[i] := List.getElem?_eq_getElem (by omega)
      obtain ⟨v, hv, dv⟩ := DpAll.get (i := i) (d := lnkD ls[i]) hL (by
        rw [List.getElem?_map, hg]
        rfl)
      cases hi.symm.trans hv
      obtain ⟨t, rfl, ht⟩ := Dp.lnk_inv dv
      exact hs i _ t σ H hg ht p) (fun σ H p => by
      have e := DpAll.len hL
      rw [List.length_map] at e
      rw [e] at p
      exact hd σ H p)⟩
theorem q_forLk {j : Nat} {Hb : Hp} {xs : List V} {ls : List Lnk} {tl : TE} (h : Vl tl σ H (.ref a)) (hx : SqL K Hb a xs) (hL : DpAll K Hb xs (ls.map lnkD)) (hb : Same Hb H) (Pv : Nat → L2.St → Hp → Prop) (h0 : Pv 0 σ H) (hl : ∀ i σ' H', Pv i σ' H' → Same Hb H')
    (hs : ∀ (i : Nat) l t σ H, ls[i]? = some l → SqT K Hb t (lnkV l) → Pv i σ H → tz { D with nx := Pv (i + 1), ct := Pv (i + 1), bk := tw D } (σ.set j (some (.ref t))) H) (hd : ∀ σ H, Pv ls.length σ H → tw D σ H) :
    tSeq (tFor (iList K tl) (gName j) tz) tw D σ H := g_forLk (D := { D with nx := tw D }) h hx hL hb Pv h0 hl hs hd
/-- a, b, c, d = e, a link -/
theorem q_asgLnk {j1 j2 j3 j4 : Nat} {te : TE} {t : Addr} {l : Lnk} (h : Vl te σ H (.ref t)) (ht : SqT K H t (lnkV l)) (k : tw D ((((σ.set j1 (some (.int l.a))).set j2 (some (.int l.b))).set j3 (some (oV l.t))).set j4 (some (oV l.k))) H) :
    tSeq (tAsg te (gTup K 4 (gCons (gName j1) (gCons (gName j2) (gCons (gName j3) (gCons (gName j4) gNil)))))) tw D σ H := h _ ⟨t, _, rfl, ht, rfl, _, _, rfl, _, _, rfl, _, _, rfl, _, _, rfl, rfl, k⟩
/-- a tuple made in one of two ways -/
theorem if_tup {t : TT} {r1 r2 : TA} {b : Bool} {x1 x2 zs : List V} {Q : VK} (h : An t σ H b) (h1 : Va r1 σ H x1) (h2 : Va r2 σ H x2) (e1 : b = true → x1 = zs) (e2 : b = false → x2 = zs) (hz : zs.length ≤ sizeLine)
    (k : ∀ T, H T = none → Q (.ref T) (upd H T (.tup zs))) : tIf t (tTup r1) (tTup r2) σ H Q := h _ (by
  cases b with
  | true =>
    cases e1 rfl
    exact iteT (h1 _ ⟨hz, k⟩)
  | false =>
    cases e2 rfl
    exact iteF (h2 _ ⟨hz, k⟩))
end
/-! ### errors that leave a def -/
def RaiseTo (E : XK) (H : Hp) (C : Addr) (i : Int) : Prop := ∀ H' d, Same H H' → H' d = some (.xd [("at", .int i)]) → E (.ref C) (some d) H'
theorem RaiseTo.to {E : XK} {H H' : Hp} {C : Addr} {i : Int} (h : RaiseTo E H C i) (s : Same H H') : RaiseTo E H' C i := fun H2 d s2 hd => h H2 d (s.trans s2) hd
theorem raise_now {E : XK} {C : Addr} {i : Int} {ta : TA} {σ : L2.St} {H : Hp} {D : Ends} (h : Va ta σ H [.int i]) (r : RaiseTo E H C i) : tRaiseLow C (fun cls d _ H => E cls d H) ta D σ H := h _ ⟨_, rfl, fun d nd => r _ d (same_upd nd) upd_same⟩
/-- for i, x in enumerate(xs) -/
theorem for_en {K : PySem.W.Frag} {a : Addr} {xs : List V} {g : TG} {tb : TS} {D : Ends} {σ : L2.St} {H : Hp} (Pv : Nat → L2.St → Hp → Prop) (h0 : Pv 0 σ H) (hq : ∀ i σ H, Pv i σ H → SqL K H a xs)
    (hs : ∀ (i : Nat) x T σ H, xs[i]? = some x → Pv i σ H → H T = none → g (.ref T) σ (upd H T (.tup [.int (i : Nat), x])) fun σ2 H2 => tb { D with nx := Pv (i + 1), ct := Pv (i + 1), bk := D.nx } σ2 H2) (hd : ∀ σ H, Pv xs.length σ H → D.nx σ H) :
    ∃ W : Nat → Nat → L2.St → Hp → Prop, (∃ m, W 0 m σ H) ∧ ∀ i m σ H, W i m σ H → ((Ite K a).stop i H ∧ D.nx σ H) ∨
      ((Ite K a).go i H ∧ ∃ N : L2.St → Hp → Prop, (∀ σ' H', N σ' H' → ∃ m', m' < m ∧ W (i + 1) m' σ' H') ∧ ∀ v H', (Ite K a).yld i H v H' → g v σ H' fun σ2 H2 => tb { D with nx := N, ct := N, bk := D.nx } σ2 H2) := by
  refine ⟨fun i m σ H => m + i = xs.length ∧ Pv i σ H, ⟨xs.length, rfl, h0⟩, fun i m σ H hW => ?_⟩
  obtain ⟨em, p⟩ := hW
  have qx := hq i σ H p
  by_cases hlt : i < xs.length
  · refine .inr ⟨⟨xs, xs[i], qx, List.getElem?_eq_getElem hlt⟩, Pv (i + 1), fun σ' H' p' => ⟨m - 1, by omega, by omega, p'⟩, fun v H' yy => ?_⟩
    obtain ⟨T, x', rfl, hT, rfl, f1⟩ := yy
    exact hs i x' T σ H (f1 xs qx) p hT
  · have e : i = xs.length := by omega
    rw [e] at p
    exact .inl ⟨⟨xs, qx, by omega⟩, hd σ H p⟩
theorem take_snoc {α : Type} {xs : List α} {i : Nat} {x : α} (h : xs[i]? = some x) : xs.take (i + 1) = xs.take i ++ [x] := by
  rw [List.take_add_one, h]
  rfl
theorem vl_orV {K : PySem.W.Frag} {σ : L2.St} {H : Hp} {ta tb : TE} {k m : Bool} (h1 : Vl ta σ H (.bl k)) (h2 : k = false → Vl tb σ H (.bl m)) : Vl (tOrV ta tb) σ H (.bl (k || m)) := fun Q q => h1 _ ⟨k, rfl, by
  cases k with
  | true => exact iteT q
  | false => exact iteF (h2 rfl _ q)⟩
/-! ### values with a heap that grows on the way -/
def Ve (te : TE) (σ : L2.St) (H : Hp) (v : V) : Prop := ∀ Q : VK, (∀ H', Same H H' → Q v H') → te σ H Q
section
variable {K : PySem.W.Frag} {σ : L2.St} {H : Hp} {ta tb te tl t0 t1 t2 t3 : TE} {D : Ends} {tw : TS} {v x y z : V} {tt : TT}
theorem ve_of (h : Vl te σ H v) : Ve te σ H v := fun Q q => h Q (q H (Same.refl H))
theorem Ve.is {w : V} (h : Ve te σ H v) (e : v = w) : Ve te σ H w := e ▸ h
theorem q_asgV {i : Nat} (h : Ve te σ H v) (k : ∀ H', Same H H' → tw D (σ.set i (some v)) H') : tSeq (tAsg te (gName i)) tw D σ H := h _ k
theorem g_asgV {i : Nat} (h : Ve te σ H v) (k : ∀ H', Same H H' → D.nx (σ.set i (some v)) H') : tAsg te (gName i) D σ H := h _ k
theorem g_retV (h : Ve te σ H v) (k : ∀ H', Same H H' → D.rt v H') : tRet te D σ H := h _ k
theorem ve_ixNew {xs : List V} {p : Int} (ha : Vn ta σ H xs) (hb : ∀ H', Same H H' → Vl tb σ H' (.int p)) (hg : atI xs p = some z) : Ve (tOp (rIxL K) ta tb) σ H z := fun Q k =>
  ha _ fun a H1 s1 np e => hb H1 s1 _ ⟨a, xs, p, z, rfl, rfl, .of e, hg, k H1 s1⟩
theorem vn_lc {j : Nat} {xs ys : List V} (hl : ∀ Q : VK, (∀ a H1, Same H H1 → SqL K H1 a xs → Q (.ref a) H1) → tl σ H Q) (hxy : xs.length = ys.length) (hz : ys.length ≤ 1000000)
    (he : ∀ (i : Nat) x y H', Same H H' → xs[i]? = some x → ys[i]? = some y → Ve te ((σ.set j none).set j (some x)) H' y) : Vn (tLc (iList K tl) (gName j) tYes te [j]) σ H ys := fun Q q => by
  refine hl _ fun a H1 s1 hx => ⟨a, rfl, ⟨xs, hx⟩, fun D nD => lc_list (xs := xs) (fun i H' => H' D = some (.lst (ys.take i)) ∧ Same H1 H') ⟨upd_same, same_upd nD⟩ (fun i H' _ hP => hP.2.seq hx) (fun i x H2 hi hP => ?_) (fun H2 hP => ?_)⟩
  · obtain ⟨hD, s2⟩ := hP
    have hi2 := (List.getElem?_eq_some_iff.mp hi).1
    have hy : ys[i]? = some ys[i] := List.getElem?_eq_getElem (by omega)
    refine ⟨?_, ?_⟩
    · show ((σ.set j none).set j (some x)).set j none = σ.set j none
      rw [List.set_set, List.set_set]
    · refine iteT (B := H2 D = some (.lst (ys.take (i + 1))) ∧ Same H1 H2) (he i x _ H2 (s1.trans s2) hi hy _ fun H3 s3 => ⟨_, s3 _ _ hD, ?_, ?_, ?_⟩)
      · exact Nat.lt_of_le_of_lt (m := 1000000) (Nat.le_trans (by rw [List.length_take]; exact Nat.min_le_right _ _) hz) (by decide)
      · rw [upd_same, take_snoc hy]
      · exact same_upd' (s2.trans s3) nD
  · obtain ⟨hD, s2⟩ := hP
    rw [hxy, List.take_length] at hD
    exact q D H2 (s1.trans s2) (Same.free s1 nD) hD
theorem vx_list {a : Addr} {xs : List V} (h : Vl tl σ H (.ref a)) (hx : SqL K H a xs) : ∀ Q : VK, (∀ a H1, Same H H1 → SqL K H1 a xs → Q (.ref a) H1) → tl σ H Q := fun Q q => h _ (q a H (Same.refl H) hx)
theorem vx_new {xs : List V} (h : Vn tl σ H xs) : ∀ Q : VK, (∀ a H1, Same H H1 → SqL K H1 a xs → Q (.ref a) H1) → tl σ H Q := fun Q q => h _ fun a H1 s1 _ e => q a H1 s1 (.of e)
end
section
variable {K : PySem.W.Frag} {σ : L2.St} {H : Hp} {te : TE} {D : Ends} {tz tw : TS} {P : Int → Prop}
theorem q_forRI {j : Nat} (h : Vi te σ H P) (hb : ∀ n, P n → -(2 ^ 62) ≤ n ∧ n < 2 ^ 62) (Pv : Nat → L2.St → Hp → Prop) (h0 : Pv 0 σ H)
    (hs : ∀ n, P n → ∀ (i : Nat) σ H, (i : Int) < n → Pv i σ H → tz { D with nx := Pv (i + 1), ct := Pv (i + 1), bk := tw D } (σ.set j (some (.int i))) H) (hd : ∀ n, P n → ∀ σ H, Pv n.toNat σ H → tw D σ H) :
    tSeq (tFor (iRng1 (tCons te tNil)) (gName j) tz) tw D σ H := h _ fun n hn => ⟨n, rfl, (hb n hn).1, (hb n hn).2, for_range (lo := 0) (n := n.toNat) Pv h0 (fun i σ H hi p => by
      show tz _ (σ.set j (some (.int (0 + i)))) H
      rw [Int.zero_add]
      exact hs n hn i σ H (by omega) p) (hd n hn)⟩
end
section
variable {K : PySem.W.Frag} {σ : L2.St} {H : Hp} {ta tb te tl t0 t1 t2 t3 : TE} {D : Ends} {tw : TS} {v x y z : V} {tt : TT}
theorem g_appV {l : Addr} {xs : List V} (ho : Vl ta σ H (.ref l)) (hl : H l = some (.lst xs)) (h : Ve te σ H v) (hz : xs.length < sizeLine) (k : ∀ H', Same H H' → D.nx σ (upd H' l (.lst (xs ++ [v])))) :
    tDrop (tBM K "list" rAppend ta (tCons te tNil)) D σ H := ho _ ⟨.inl ⟨rfl, _, .inl (.inl hl)⟩, h _ fun H' s' => ⟨l, xs, v, rfl, rfl, s' _ _ hl, hz, k H' s'⟩⟩
theorem lc_filter {j : Nat} {xs : List V} {pb : V → Bool} (hj : j < σ.length) (hl : ∀ Q : VK, (∀ a H1, Same H H1 → SqL K H1 a xs → Q (.ref a) H1) → tl σ H Q) (hz : xs.length ≤ 1000000)
    (ht : ∀ x ∈ xs, ∀ H', An tt ((σ.set j none).set j (some x)) H' (pb x)) (Q : VK) (q : ∀ D H' acc, Same H H' → H' D = some (.lst acc) → acc.length = (xs.filter pb).length → Q (.ref D) H') : tLc (iList K tl) (gName j) tt (tVar j) [j] σ H Q := by
  refine hl _ fun a H1 s1 hx => ⟨a, rfl, ⟨xs, hx⟩, fun D nD => lc_list (xs := xs) (fun i H' => ∃ acc, H' D = some (.lst acc) ∧ Same H1 H' ∧ acc.length = ((xs.take i).filter pb).length) ⟨[], upd_same, same_upd nD, rfl⟩ (fun i H' _ hP => hP.choose_spec.2.1.seq hx) (fun i x H2 hi hP => ?_) (fun H2 hP => ?_)⟩
  · obtain ⟨acc, hD, s2, ha⟩ := hP
    have e : (xs.take (i + 1)).filter pb = (xs.take i).filter pb ++ [x].filter pb := by
      rw [take_snoc hi]
      exact List.filter_append ..
    refine ⟨?_, ht x (List.mem_of_getElem? hi) H2 _ ?_⟩
    · show ((σ.set j none).set j (some x)).set j none = σ.set j none
      rw [List.set_set, List.set_set]
    · cases hp : pb x with
      | true =>
        have e2 : [x].filter pb = [x] := by
          rw [List.filter_cons, hp]
          rfl
        refine iteT ⟨x, ?_, acc, hD, ?_, _, upd_same, same_upd' s2 nD, ?_⟩
        · exact List.getElem?_set_self (by
            show j < (σ.set j none).length
            rw [List.length_set]
            exact hj)
        · have h1 : ((xs.take i).filter pb).length ≤ xs.length := Nat.le_trans (List.length_filter_le _ _) (by rw [List.length_take]; exact Nat.min_le_right _ _)
          exact Nat.lt_of_le_of_lt (m := 1000000) (by omega) (by decide)
        · rw [e, e2, List.length_append, List.length_append, ha]
      | false =>
        have e2 : [x].filter pb = [] := by
          rw [List.filter_cons, hp]
          rfl
        refine iteF ⟨acc, hD, s2, ?_⟩
        rw [e, e2, List.append_nil]
        exact ha
  · obtain ⟨acc, hD, s2, ha⟩ := hP
    rw [List.take_length] at ha
    exact q D H2 acc (s1.trans s2) hD ha
theorem vl_inL {a : Addr} {xs : List V} (h : Vl te σ H (.ref a)) (hx : SqL K H a xs) (f1 : flatV x = true) (f2 : xs.all flatV = true) : Vl (tOp (rIn K false) (tC x) te) σ H (.bl (inV x xs)) := vl_op vl_c h fun _ k => ⟨a, xs, rfl, .inl hx, f1, f2, k⟩
theorem flat_o (o : Option Int) : flatV (oV o) = true := by cases o <;> rfl
theorem ax_leLT {a T : Addr} {p q r s : Int} (h : Vl te σ H (.ref a)) (hx : SqL K H a [.int p, .int q]) (hb : ∀ H', Same H H' → Vl tb σ H' (.ref T)) (hT : SqT K H T [.int r, .int s]) :
    Ax (tTest (tOp (rLeT K) (tCB (fun xs H Q => ∃ p ys, xs = [V.ref p] ∧ ((SqL K H p ys ∧ ∀ l, H l = none → Q (.ref l) (upd H l (.tup ys))) ∨ (SqT K H p ys ∧ Q (.ref p) H))) (tCons te tNil)) tb)) σ H (decide (p < r ∨ (p = r ∧ q ≤ s))) := fun Q k =>
  h _ ⟨a, _, rfl, .inl ⟨hx, fun S nS => hb _ (same_upd nS) _ ⟨S, T, [p, q], [r, s], rfl, rfl, .of upd_same, seqT (same_upd nS) hT, _, rfl, by
    rw [lexAt2]
    exact k _ (same_upd nS)⟩⟩⟩
theorem ve_tup4 {v0 v1 v2 v3 : V} (h0 : Ve t0 σ H v0) (h1 : ∀ H', Same H H' → Ve t1 σ H' v1) (h2 : ∀ H', Same H H' → Ve t2 σ H' v2) (h3 : ∀ H', Same H H' → Ve t3 σ H' v3) (Q : VK) (q : ∀ R H', Same H H' → H' R = some (.tup [v0, v1, v2, v3]) → Q (.ref R) H') :
    tTup (tCons t0 (tCons t1 (tCons t2 (tCons t3 tNil)))) σ H Q := h0 _ fun H1 s1 => h1 H1 s1 _ fun H2 s2 => h2 H2 (s1.trans s2) _ fun H3 s3 => h3 H3 ((s1.trans s2).trans s3) _ fun H4 s4 => ⟨by show 4 ≤ sizeLine; decide, fun R nR => q R _ ((((s1.trans s2).trans s3).trans s4).trans (same_upd nR)) upd_same⟩
end
theorem ret_pairE {te : TE} {x : Str} {D : Ends} {σ : L2.St} {H : Hp} (h : te σ H fun v H1 => [V.str x, v].length ≤ sizeLine ∧ ∀ p, H1 p = none → D.rt (.ref p) (upd H1 p (.tup [.str x, v]))) : tRet (tTup (tCons (tC (.str x)) (tCons te tNil))) D σ H := h
theorem nx_of {f : L2.St → Hp → Prop} {a b c} {σ : L2.St} {H : Hp} (h : f σ H) : (Ends.mk f a b c).nx σ H := h
theorem ax_isNV {σ : L2.St} {H : Hp} {te : TE} {v : V} (h : Ve te σ H v) : Ax (tTest (tOp (fun x y H Q => y = V.non ∧ Q (V.bl (decide (x = V.non))) H) te (tC .non))) σ H (decide (v = .non)) := fun Q k => h _ fun H' s' => ⟨rfl, _, rfl, k H' s'⟩
theorem last_get {α : Type} {l : List α} {d : α} (h : l ≠ []) : l[l.length - 1]? = some (l.getLast?.getD d) := by
  rw [List.getLast?_eq_getElem?]
  have : l.length - 1 < l.length := by
    have := List.length_pos_iff.mpr h
    omega
  rw [List.getElem?_eq_getElem this]
  rfl
theorem seqT_but {K : PySem.W.Frag} {H : Hp} {o R : Addr} {ys zs : List V} (h : SqT K H R zs) (ho : H o = some (.lst ys)) : SqT K (but H o) R zs := by
  rcases h with (h | ⟨u, h⟩) | h
  · have ne : R ≠ o := fun z => by
      rw [z, ho] at h
      cases h
    exact .inl (.inl (by rw [but_ne ne]; exact h))
  · have ne : R ≠ o := fun z => by
      rw [z, ho] at h
      cases h
    exact .inl (.inr ⟨u, by rw [but_ne ne]; exact h⟩)
  · exact .inr h
theorem vl_byLow {C a d : Addr} {te : TE} {σ : L2.St} {H : Hp} {v : V} (h : Vl te σ H (.ref a)) (hd : H d = some (.xd [("at", v)])) : Vl (tByLow C a (.ref C) (some d) te) σ H v := fun Q q => h _ ⟨rfl, rfl, d, v, rfl, hd, q⟩
def pairD (x : Str) (d : PyData) : PyData := .tuple [.str x, d]
theorem ret_pair {K : PySem.W.Frag} {σ : L2.St} {H : Hp} {D : Ends} {te : TE} {x : Str} {v : V} {d : PyData} (h : Vl te σ H v) (hd : Dp K H v d) (k : ∀ p H', Same H H' → Dp K H' (.ref p) (pairD x d) → D.rt (.ref p) H') :
    tRet (tTup (tCons (tC (.str x)) (tCons te tNil))) D σ H := h _ ⟨by show 2 ≤ sizeLine; decide, fun p np => k p _ (same_upd np) (.tup (.of upd_same) (.cons (.str x) (.cons (Dp.to hd (same_upd np)) .nil)))⟩
structure Apart (K : PySem.W.Frag) (C C' : Addr) : Prop where
  no : PySem.W.exmOne K (.ref C) (.ref C') = some false
structure NmAt (mg : Str → Option Value) (x : Str) (C : Addr) : Prop where
  gC : mg x = some (.ref C)
theorem lay_net (N : Net) : (netD N).canLay0 = true ∧ (netD N).depth ≤ 3 := by
  have h := lay_lnks N.ls
  constructor
  · show (true && (PyData.canLayAll0 (N.ls.map lnkD) && true)) = true
    rw [h.1]
    rfl
  · show max 0 (max (PyData.depthAll (N.ls.map lnkD) + 1) 0) + 1 ≤ 3
    have := h.2
    omega
theorem shaped_pair {x : Str} {d : PyData} (hx : PyData.canLay0 (.str x) = true) (h : d.canLay0 = true) (h2 : d.depth ≤ 3) : SeqAt.shaped (pairD x d) = true := by
  show ((PyData.canLay0 (.str x) && (d.canLay0 && true)) && decide (max 0 (max d.depth 0) + 1 ≤ 64)) = true
  rw [hx, h, decide_eq_true (by omega)]
  rfl
theorem refl_of {d : PyData} (h : SeqAt.shaped d = true) : PyData.eqv d d = true := SeqAt.eqv_refl _ (Bool.and_eq_true_iff.mp h).1
theorem ax_ne {K : PySem.W.Frag} {σ : L2.St} {H : Hp} {te te2 : TE} {d : PyData} (hd : SeqAt.shaped d = true) (h1 : ∀ Q : VK, (∀ v H', Same H H' → Dp K H' v d → Q v H') → te σ H Q) (h2 : ∀ H', Same H H' → ∀ Q : VK, (∀ v H2, Same H' H2 → Dp K H2 v d → Q v H2) → te2 σ H' Q) :
    Ax (tTest (tOp (rNeD K) te te2)) σ H false := fun Q k => h1 _ fun v H1 s1 d1 => h2 H1 s1 _ fun u H2 s2 d2 => ⟨d, d, Dp.to d1 s2, d2, hd, hd, _, rfl, by
  rw [refl_of hd]
  exact k H2 (s1.trans s2)⟩
theorem ax_neV {σ : L2.St} {H : Hp} {ta tb : TE} {x y : V} (ha : Vl ta σ H x) (hb : Ve tb σ H y) (hs : scal x y = true) : Ax (tTest (tOp rNe ta tb)) σ H (!decide (x = y)) := fun Q k => ha _ (hb _ fun H' s' => ⟨hs, _, rfl, k H' s'⟩)
theorem lay_ints : ∀ ns : List Int, PyData.canLayAll0 (ns.map PyData.int) = true ∧ PyData.depthAll (ns.map PyData.int) = 0
  | [] => ⟨rfl, rfl⟩
  | n :: ns => by
    have h := lay_ints ns
    constructor
    · show (true && PyData.canLayAll0 (ns.map PyData.int)) = true
      rw [h.1]
      rfl
    · show max 0 (PyData.depthAll (ns.map PyData.int)) = 0
      rw [h.2]
      rfl
theorem shaped_ints (ns : List Int) : SeqAt.shaped (.list (ns.map PyData.int)) = true := by
  have h := lay_ints ns
  show (PyData.canLayAll0 (ns.map PyData.int) && decide (PyData.depthAll (ns.map PyData.int) + 1 ≤ 64)) = true
  rw [h.1, h.2]
  rfl
/-! ### heaps with two objects that change -/
def B2 (H : Hp) (o q : Addr) : Hp := but (but H o) q
theorem b2_same {H : Hp} {o q : Addr} : Same (B2 H o q) H := but_same.trans but_same
theorem same_b2 {G H : Hp} {o q : Addr} (s : Same G H) (n : G o = none) (m : G q = none) : Same G (B2 H o q) := same_but (same_but s n) m
theorem b2_mono {H H' : Hp} {o q : Addr} (s : Same H H') : Same (B2 H o q) (B2 H' o q) := but_mono (but_mono s)
theorem b2_upd1 {H : Hp} {o q : Addr} {u : HO} : B2 (upd H o u) o q = B2 H o q := by
  unfold B2
  rw [but_upd]
theorem b2_upd2 {H : Hp} {o q : Addr} {u : HO} : B2 (upd H q u) o q = B2 H o q := by
  funext b
  unfold B2
  by_cases h : b = q
  · rw [h, but_at, but_at]
  · rw [but_ne h, but_ne h]
    by_cases h2 : b = o
    · rw [h2, but_at, but_at]
    · rw [but_ne h2, but_ne h2, upd_ne h]
theorem b2_get {H : Hp} {o q a : Addr} {u : HO} (h : H a = some u) (h1 : a ≠ o) (h2 : a ≠ q) : B2 H o q a = some u := by
  unfold B2
  rw [but_ne h2, but_ne h1]
  exact h
/-! ### comprehensions over ints -/
section
variable {K : PySem.W.Frag} {σ : L2.St} {H : Hp} {ta tb te tl td ty tv : TE} {tr : TA} {D : Ends} {tw : TS} {tt : TT} {v : V}
theorem an_yes : An tYes σ H true := fun _ q => q
theorem vn_lcI {j : Nat} {ns : List Int} {pb : Int → Bool} {f : Int → V} (hl : ∀ Q : VK, (∀ a H1, Same H H1 → SqL K H1 a (ns.map V.int) → Q (.ref a) H1) → tl σ H Q) (hz : ns.length ≤ 1000000)
    (ht : ∀ x ∈ ns, ∀ H', Same H H' → An tt ((σ.set j none).set j (some (.int x))) H' (pb x)) (he : ∀ x ∈ ns, ∀ H', Same H H' → Vl te ((σ.set j none).set j (some (.int x))) H' (f x)) :
    Vn (tLc (iList K tl) (gName j) tt te [j]) σ H ((ns.filter pb).map f) := fun Q q => by
  refine hl _ fun a H1 s1 hx => ⟨a, rfl, ⟨_, hx⟩, fun D nD => lc_list (xs := ns.map V.int) (fun i H' => H' D = some (.lst (((ns.take i).filter pb).map f)) ∧ Same H1 H') ⟨upd_same, same_upd nD⟩ (fun i H' _ hP => hP.2.seq hx) (fun i x H2 hi hP => ?_) (fun H2 hP => ?_)⟩
  · obtain ⟨hD, s2⟩ := hP
    rw [List.getElem?_map] at hi
    cases hg : ns[i]? with
    | none =>
      rw [hg] at hi
      cases hi
    | some n =>
      rw [hg] at hi
      cases hi
      have hm := List.mem_of_getElem? hg
      have e : (ns.take (i + 1)).filter pb = (ns.take i).filter pb ++ [n].filter pb := by
        rw [take_snoc hg]
        exact List.filter_append ..
      refine ⟨?_, ht n hm H2 (s1.trans s2) _ ?_⟩
      · show ((σ.set j none).set j (some (V.int n))).set j none = σ.set j none
        rw [List.set_set, List.set_set]
      · cases hp : pb n with
        | true =>
          have e2 : [n].filter pb = [n] := by
            rw [List.filter_cons, hp]
            rfl
          refine iteT (B := H2 D = some (.lst (((ns.take (i + 1)).filter pb).map f)) ∧ Same H1 H2) (he n hm H2 (s1.trans s2) _ ⟨_, hD, ?_, ?_, same_upd' s2 nD⟩)
          · rw [List.length_map]
            have h1 : ((ns.take i).filter pb).length ≤ ns.length := Nat.le_trans (List.length_filter_le _ _) (by rw [List.length_take]; exact Nat.min_le_right _ _)
            exact Nat.lt_of_le_of_lt (m := 1000000) (by omega) (by decide)
          · rw [upd_same, e, e2, List.map_append]
            rfl
        | false =>
          have e2 : [n].filter pb = [] := by
            rw [List.filter_cons, hp]
            rfl
          refine iteF ⟨?_, s2⟩
          rw [e, e2, List.append_nil]
          exact hD
  · obtain ⟨hD, s2⟩ := hP
    rw [List.length_map, List.take_length] at hD
    exact q D H2 (s1.trans s2) (Same.free s1 nD) hD
theorem vn_lcR {j : Nat} {n : Int} {pb : Int → Bool} {f : Int → V} (hl : Va tr σ H [.int n]) (h0 : 0 ≤ n) (hz : n ≤ 1000000)
    (ht : ∀ x : Int, 0 ≤ x → x < n → ∀ H', Same H H' → An tt ((σ.set j none).set j (some (.int x))) H' (pb x)) (he : ∀ x : Int, 0 ≤ x → x < n → ∀ H', Same H H' → Vl te ((σ.set j none).set j (some (.int x))) H' (f x)) :
    Vn (tLc (iRng1 tr) (gName j) tt te [j]) σ H (((((List.range n.toNat).map fun (i : Nat) => (i : Int))).filter pb).map f) := fun Q q => by
  refine hl _ ⟨n, rfl, by omega, by omega, fun D nD => lc_range (lo := 0) (n := n.toNat) (fun i H' => H' D = some (.lst ((((List.range i).map fun (i : Nat) => (i : Int)).filter pb).map f)) ∧ Same H H') ⟨upd_same, same_upd nD⟩ (fun i H2 hi hP => ?_) (fun H2 hP => ?_)⟩
  · obtain ⟨hD, s2⟩ := hP
    have e : (((List.range (i + 1)).map fun (i : Nat) => (i : Int)).filter pb) = ((List.range i).map fun (i : Nat) => (i : Int)).filter pb ++ [(i : Int)].filter pb := by
      rw [List.range_succ, List.map_append]
      exact List.filter_append ..
    rw [Int.zero_add]
    refine ⟨?_, ht i (by omega) (by omega) H2 s2 _ ?_⟩
    · show ((σ.set j none).set j (some (V.int i))).set j none = σ.set j none
      rw [List.set_set, List.set_set]
    · cases hp : pb (i : Int) with
      | true =>
        have e2 : [(i : Int)].filter pb = [(i : Int)] := by
          rw [List.filter_cons, hp]
          rfl
        refine iteT (B := H2 D = some (.lst ((((List.range (i + 1)).map fun (i : Nat) => (i : Int)).filter pb).map f)) ∧ Same H H2) (he i (by omega) (by omega) H2 s2 _ ⟨_, hD, ?_, ?_, same_upd' s2 nD⟩)
        · rw [List.length_map]
          have h1 : (((List.range i).map fun (i : Nat) => (i : Int)).filter pb).length ≤ i := Nat.le_trans (List.length_filter_le _ _) (by rw [List.length_map, List.length_range]; exact Nat.le_refl _)
          exact Nat.lt_of_le_of_lt (m := 1000000) (by omega) (by decide)
        · rw [upd_same, e, e2, List.map_append]
          rfl
      | false =>
        have e2 : [(i : Int)].filter pb = [] := by
          rw [List.filter_cons, hp]
          rfl
        refine iteF ⟨?_, s2⟩
        rw [e, e2, List.append_nil]
        exact hD
  · obtain ⟨hD, s2⟩ := hP
    exact q D H2 s2 nD hD
/-! ### dicts by ints -/
theorem vl_dgetI {o : Addr} {p : Int} {kvs : List (Key × V)} (ho : Vl td σ H (.ref o)) (hk : Vl ty σ H (.int p)) (hd : H o = some (.dK kvs)) (hv : valV kvs (.inl p) = some v) : Vl (tDGet td ty) σ H v := fun Q q => ho _ (hk _ ⟨o, v, rfl, by
  rw [← hv]
  exact DGet.k (k := .inl p) hd, q⟩)
theorem q_dnewK {i : Nat} (k : ∀ p, H p = none → tw D (σ.set i (some (.ref p))) (upd H p (.dK []))) : tSeq (tAsg tDNewK (gName i)) tw D σ H := k
theorem g_dputN {o : Addr} {p : Int} {kvs : List (Key × V)} {xs : List V} (hv : Vn tv σ H xs) (ho : ∀ H', Same H H' → Vl td σ H' (.ref o)) (hk : ∀ H', Same H H' → Vl ty σ H' (.int p)) (hd : H o = some (.dK kvs)) (hl : kvs.length < sizeLine)
    (k : ∀ a H', Same H H' → H a = none → H' a = some (.lst xs) → D.nx σ (upd H' o (.dK (putK kvs (.inl p) (.ref a))))) : sDPut td ty tv D σ H := hv _ fun a H' s' na ea => ho H' s' _ (hk H' s' _ ⟨o, _, rfl, DPut.k (k := .inl p) (s' _ _ hd) hl, k a H' s' na ea⟩)
theorem g_dputV {o : Addr} {p : Int} {kvs : List (Key × V)} (hv : Vl tv σ H v) (ho : Vl td σ H (.ref o)) (hk : Vl ty σ H (.int p)) (hd : H o = some (.dK kvs)) (hl : kvs.length < sizeLine)
    (k : D.nx σ (upd H o (.dK (putK kvs (.inl p) v)))) : sDPut td ty tv D σ H := hv _ (ho _ (hk _ ⟨o, _, rfl, DPut.k (k := .inl p) hd hl, k⟩))
end
theorem hu_of {k : Nat} {A : Around} (r : Room k A) : A.units + 1 < cLine := by
  have := r.units
  omega
theorem dI {i j : Int} : decide (V.int i = V.int j) = decide (i = j) := by
  rw [Bool.eq_iff_iff, decide_eq_true_eq, decide_eq_true_eq]
  exact ⟨fun z => V.int.inj z, fun z => by rw [z]⟩
theorem vn_catV {K : PySem.W.Frag} {σ : L2.St} {H : Hp} {ta tb : TE} {a : Addr} {xs ys : List V} (ha : Vn ta σ H xs) (hb : ∀ H', Same H H' → Vl tb σ H' (.ref a)) (hA : H a = some (.lst ys)) (hz : xs.length + ys.length ≤ sizeLine) : Vn (tOp rCat ta tb) σ H (xs ++ ys) := fun Q q => ha _ fun p H1 s1 np hp => hb H1 s1 _
  ⟨p, a, xs, ys, rfl, rfl, hp, s1 _ _ hA, hz, fun t nt => q t _ (s1.trans (same_upd nt)) (Same.free s1 nt) upd_same⟩
theorem putK_len {κ : Type} [DecidableEq κ] {kvs : List (κ × V)} {k : κ} {v : V} (h : (valV kvs k).isSome = true) : (putK kvs k v).length = kvs.length := by
  unfold putK
  rw [valV_any, if_pos h, List.length_map]
/-! ### a law's own def, called from without: nothing is being shown there -/
structure FnG (P : Program) (w : World) (K : PySem.W.Frag) (mg : Str → Option Value) (base : Heap) (f : Addr) (fd : FuncData) (ps : List Str) (sp : Sp) : Prop where
  go : ∀ (s : Shared) (H : Hp) (us : List Value) (vs : List V) (Q : VK) (E : XK), Env0 P w K mg base callerA [] s H → BindsTo s fd ⟨us, []⟩ (ps.zip us) → Vals vs us → sp vs H Q E → codeAny (model P w) callerA (.call (.ref f) ⟨us, []⟩) (CR CX0 [] P w H s Q E) s
section
variable {P : Program} {w : World} {K : PySem.W.Frag} {mg : Str → Option Value} {base : Heap}
theorem okG {x qual : Str} {st : Stmt} {f : Addr} {fd : FuncData} {N ps : List Str} {k : Nat} {sp : Sp} (F : Fun K x qual st f fd) (S : FnScope N ps (defScope st)) (room : Room (k + 1) callerA) (count : ∀ vs H Q E, sp vs H Q E → vs.length = ps.length)
    (body : ∀ (cdv : Value) (s : Shared) (H : Hp) (vs : List V) (Q : VK) (E : XK), Room k (callerA.deeper (envOfC qual (defScope st) s.heap.objs.size f cdv)) → sp vs H Q E →
      ∃ t, PSs (cxOf CX0 P w K mg base N qual (defScope st) f cdv callerA [] s H E).nox (defBody st) t ∧ t { nx := fun _ H' => Q .non H', rt := Q } (start N vs) H) : FnG P w K mg base f fd ps sp := by
  obtain ⟨oc, od, kV, doc, pm, an, cdv, ct, osl, efd, look, code⟩ := F.ex
  subst efd
  refine ⟨fun s H us vs Q E env bnd rel want => ?_⟩
  have old : ∀ b o, base.get? b = some o → s.heap.get? b = some o := fun b o e => (env.bs b o e).1
  have kin : K.In s.heap := env.mod.kin.keeps old
  have lims : s.heap.NoLimit := env.mod.nolimit.keeps old
  refine codeAny_call_function room.depth (kin _ _ look) rfl S.co S.gen rfl (PySem.W.codeRec_of kin code) (bnd _ _ _ _ ?_)
  refine wpAny_newFunctionEnv_cells S.kind (fun y hy => ?_) fun fresh same s1 made => ?_
  · obtain ⟨n, v⟩ := y
    cases S.par n (List.of_mem_zip hy).1 with
    | inl q => exact .inl q
    | inr q => exact .inr ⟨q, PySem.W.cellsFrom_some _ _ _ (.inl q)⟩
  cases same
  refine ⟨lims.keeps made.toInCall.keep, codeAny_func ?_⟩
  obtain ⟨t, prog, ends⟩ := body cdv s H vs Q E (room.deeper _) want
  have inv : Inv (cxOf CX0 P w K mg base N qual (defScope st) f cdv callerA [] s H E) [] (start N vs) H s1 := inv_start S room.hd env (count _ _ _ _ want) rel made
  refine wpAny_mono (prog.nox.run [] s1 (start N vs) H _ inv ends) (fun fl s2 got => ?_) fun e s2 got => got
  cases fl with
  | ret u => exact let ⟨v, _, H2, J, rv, q⟩ := got; ⟨v, H2, J.os, J.bare, J.base, J.hok, rv, q⟩
  | next => exact let ⟨_, H2, J, q⟩ := got; ⟨V.non, H2, J.os, J.bare, J.base, J.hok, rfl, q⟩
  | brk => exact let ⟨_, _, _, q⟩ := got; False.elim q
  | cont => exact let ⟨_, _, _, q⟩ := got; False.elim q
variable {mb : Str → Option Value} {fa a : Addr} {fd : FuncData} {x : Str} {sp : Sp} {s1 : Shared} {vs : List Value} {ns : List Int}
abbrev scr (vs : List Value) : Obj := { cls := .type "list", data := .seq vs.toArray }
/-- from a heap in which at most the script is told -/
theorem runG_core (kin : K.In s1.heap) (gl : s1.heap.Ns mainGlobals mg) (bl : s1.heap.Ns builtinsNs mb) (bo : ∀ x : Str, x ≠ "__name__" → mb x = bootBuiltins x) (lim : s1.heap.NoLimit) (gen : s1.gens = #[]) (ha : s1.heap.get? a = some (scr vs))
    (F : ∀ base : Heap, K.In base → base.Ns mainGlobals mg → FnG P w K mg base fa fd [x] sp) (bind : ∀ (s : Shared) (u : Value), BindsTo s fd ⟨[u], []⟩ [(x, u)]) {H : Hp} (only : Only H) (want : sp [.ref a] H (fun v _ => v = .bl true) fun _ _ _ => False) (hok : HOk P w H s1.heap)
    (alone : ∀ b, H b ≠ none → b = a) (free : H a ≠ none → K.lookup a = none) :
    codeAny (model P w) callerA (.call (.ref fa) ⟨[.ref a], []⟩) (fun r s' => r = .ok (.ret (.bool true)) ∧ OldK s1.heap s'.heap ∧ s'.os = s1.os ∧ AllBare s'.gens) s1 := by
  have none_of : ∀ {b : Addr} {o : Obj}, s1.heap.get? b = some o → (b = a → H a ≠ none → False) → (hidT s1.heap H).get? b = some o := fun {b o} e no => hidT_get e (by
    cases q : H b with
    | none => rfl
    | some u =>
      have n : H b ≠ none := by rw [q]; exact fun z => nomatch z
      have eb := alone b n
      subst eb
      exact (no rfl n).elim)
  have names : ∀ {b : Addr} {m : Str → Option Value}, s1.heap.Ns b m → (hidT s1.heap H).Ns b m := fun {b m} ⟨o, es, ep, e, d, r⟩ => ⟨o, es, ep, none_of e (fun eb _ => by
    subst eb
    rw [ha] at e
    cases e
    have d : Data.seq vs.toArray _ = Data.dict es ep := d
    cases d), d, r⟩
  have kin2 : K.In (hidT s1.heap H) := fun b o e => none_of (kin b o e) fun eb n => by
    subst eb
    rw [free n] at e
    cases e
  have mod : Mod K mg (hidT s1.heap H) := ⟨kin2, names gl, ⟨mb, names bl, bo⟩, let ⟨mc, h1, h2⟩ := lim; ⟨mc, names h1, h2⟩⟩
  have env : Env0 P w K mg (hidT s1.heap H) callerA [] s1 H := ⟨rfl, mod, fun b o e => of_hidT e, Nat.le_of_eq (hidT_size _ _), trivial, fun b hb => (nomatch (show b ∈ ([] : List Addr) from hb)), hok, .of_eq gen⟩
  refine codeAny_mono ((F _ kin2 (names gl)).go s1 H [.ref a] [.ref a] _ _ env (bind s1 (.ref a)) (.cons rfl .nil) want) fun r s2 got => ?_
  match r, got with
  | .ok (.ret u), got =>
    obtain ⟨v, H2, os, bare, un, hok2, rel, q⟩ := got
    have q : v = .bl true := q
    cases q
    have rel : u = Value.bool true := rel
    cases rel
    refine ⟨rfl, OldK.of_keep fun b o e => ?_, os, bare⟩
    rcases only b with z | ⟨ob, xs, z⟩
    · exact un.keep b o e z (fun m => (nomatch (show b ∈ ([] : List Addr) from m))) (fun m => (nomatch m))
    · obtain ⟨e1, _⟩ := hok b _ z
      obtain ⟨e2, _⟩ := hok2 b _ (un.frzs b ob _ z)
      rw [e] at e1
      cases e1
      exact e2
theorem runG (kin : K.In s1.heap) (gl : s1.heap.Ns mainGlobals mg) (bl : s1.heap.Ns builtinsNs mb) (bo : ∀ x : Str, x ≠ "__name__" → mb x = bootBuiltins x) (lim : s1.heap.NoLimit) (gen : s1.gens = #[]) (ha : s1.heap.get? a = some (scr vs)) (hin : IntsAre vs ns) (hl : ns.length ≤ sizeLine)
    (F : ∀ base : Heap, K.In base → base.Ns mainGlobals mg → FnG P w K mg base fa fd [x] sp) (bind : ∀ (s : Shared) (u : Value), BindsTo s fd ⟨[u], []⟩ [(x, u)]) (want : ∀ H : Hp, Only H → SqL K H a (ns.map V.int) → sp [.ref a] H (fun v _ => v = .bl true) fun _ _ _ => False) :
    codeAny (model P w) callerA (.call (.ref fa) ⟨[.ref a], []⟩) (fun r s' => r = .ok (.ret (.bool true)) ∧ OldK s1.heap s'.heap ∧ s'.os = s1.os ∧ AllBare s'.gens) s1 := by
  have rel := vals_ints hin
  have size : vs.toArray.size ≤ sizeLine := by
    rw [List.size_toArray, hin.length]
    exact hl
  cases hk : K.lookup a with
  | some o =>
    have e := (kin a o hk).symm.trans ha
    cases e
    have only : Only (fun _ : Addr => (none : Option HO)) := fun _ => .inl rfl
    exact runG_core kin gl bl bo lim gen ha F bind only (want _ only (.inr ⟨_, vs.toArray, _, hk, rfl, rfl, rfl, size, by simpa using rel⟩)) (fun b u z => (nomatch (show (none : Option HO) = some u from z))) (fun b z => absurd rfl z) fun z => absurd rfl z
  | none =>
    let H : Hp := fun b => if b = a then some (.frz (scr vs) (.lst (ns.map V.int))) else none
    have at_ : H a = some (.frz (scr vs) (.lst (ns.map V.int))) := if_pos rfl
    have off : ∀ b, b ≠ a → H b = none := fun b hb => if_neg hb
    have only : Only H := fun b => by
      by_cases hb : b = a
      · subst hb
        exact .inr ⟨_, _, at_⟩
      · exact .inl (off b hb)
    refine runG_core kin gl bl bo lim gen ha F bind only (want _ only (.inl (.inr ⟨scr vs, at_⟩))) (fun b u z => ?_) (fun b z => ?_) fun _ => hk
    · by_cases hb : b = a
      · subst hb
        cases at_.symm.trans z
        exact ⟨ha, by rw [List.length_map]; exact hl, vs, _, rel, ha⟩
      · cases (off b hb).symm.trans z
    · by_cases hb : b = a
      · exact hb
      · exact absurd (off b hb) z
end
/-- the head -/
theorem walkG {l : PySem.W.OpenLaw} {n : Nat} {q : Program} {loose : List Str} {XP : (Str → Option Value) → Heap → Prop} {YP : World → Heap → Prop} {d : DefRec} {K : Params → PySem.W.Frag} {sp : World → Sp} {x : Str} (hn : l.most = some n) (hn2 : n ≤ sizeLine) (hdf : d.params.defaults = []) (hY : ∀ (w : World) (h : Heap), YP w h → (K w.params).In h)
    (F : ∀ (w : World) (mg : Str → Option Value) (fa : Addr) (h : Heap), (K w.params).In h → h.Ns mainGlobals mg → mg d.name = some (.ref fa) → ∃ fd : FuncData, (∀ (s : Shared) (u : Value), BindsTo s fd ⟨[u], []⟩ [(x, u)]) ∧ ∀ base : Heap, (K w.params).In base → base.Ns mainGlobals mg → FnG l.prog w (K w.params) mg base fa fd [x] (sp w))
    (want : ∀ (w : World) (H : Hp) (a : Addr) (ns : List Int), ns.length ≤ n → Only H → SqL (K w.params) H a (ns.map V.int) → sp w [.ref a] H (fun v _ => v = .bl true) fun _ _ _ => False) : PySem.W.WalkO q loose XP YP l.row.toRowW d [] (fun f vs => PySem.call f vs) :=
  Att.attach_call hn hdf fun w s₀ s₁ mg mb fa o pm cd doc a vs ns G Y ho hd hcd hmg hobj hints hlen hg => by
    obtain ⟨fd, bnd, fn⟩ := F w mg fa _ (hY w _ Y) G.T.g hmg
    exact runG (hY w _ Y) G.T.g G.T.b G.T.builtins G.T.nolimit hg hobj hints (Nat.le_trans hlen hn2) fn bnd fun H o q => want w H a ns hlen o q
/-! ### repr of data -/
def rRepr (K : PySem.W.Frag) : List V → Hp → VK → Prop := fun xs H Q => ∃ a d, xs = [.ref a] ∧ Dp K H (.ref a) d ∧ d.showable = true ∧ d.hasDict = false ∧ d.depth ≤ 60 ∧ d.shown.length ≤ sizeLine ∧ Q (.str d.shown) H
theorem call_reprD {X : Cx} (hg : X.A.guards = some []) (hu : X.A.units + 64 < cLine) : CallR X (.builtin "repr") (rRepr X.K) := by
  intro pins s σ H xs us Q I r h
  obtain ⟨a, d, rfl, hd, sh, nd, dep, len, q⟩ := h
  obtain ⟨u, rfl, e⟩ := vals1 r
  cases e
  obtain ⟨as, rd⟩ := Dp.reads I d _ _ hd rfl
  exact repr_of_reads' rd sh (PyData.noDict_hsm nd) hg (by omega) (fun _ _ e => e) (fun h' u tk keep => ⟨.str d.shown, H, I.kept keep, ⟨u, rfl⟩, q⟩) len
theorem ve_repr {K : PySem.W.Frag} {σ : L2.St} {H : Hp} {tr : TA} {xs : List V} {d : PyData} (h : Va tr σ H xs) (hz : xs.length ≤ sizeLine) (hd : ∀ T H', Same H H' → H' T = some (.tup xs) → Dp K H' (.ref T) d) (h1 : d.showable = true) (h2 : d.hasDict = false) (h3 : d.depth ≤ 60) (h4 : d.shown.length ≤ sizeLine) :
    Ve (tCB (rRepr K) (tCons (tTup tr) tNil)) σ H (.str d.shown) := fun Q q => h _ ⟨hz, fun T nT => ⟨T, d, rfl, hd T _ (same_upd nT) upd_same, h1, h2, h3, h4, q _ (same_upd nT)⟩⟩
theorem ve_repr1 {K : PySem.W.Frag} {σ : L2.St} {H : Hp} {te : TE} {a : Addr} {d : PyData} (h : Vl te σ H (.ref a)) (hd : Dp K H (.ref a) d) (h1 : d.showable = true) (h2 : d.hasDict = false) (h3 : d.depth ≤ 60) (h4 : d.shown.length ≤ sizeLine) :
    Ve (tCB (rRepr K) (tCons te tNil)) σ H (.str d.shown) := fun Q q => h _ ⟨a, d, rfl, hd, h1, h2, h3, h4, q _ (Same.refl _)⟩
/-! ### a def that shows data: called while nothing is being shown -/
structure FnR (P : Program) (w : World) (K : PySem.W.Frag) (mg : Str → Option Value) (base : Heap) (k : Nat) (f : Addr) (fd : FuncData) (ps : List Str) (sp : Sp) : Prop where
  count : ∀ vs H Q E, sp vs H Q E → vs.length = ps.length
  go : ∀ (A : Around) (outer : List Env) (s : Shared) (H : Hp) (us : List Value) (vs : List V) (Q : VK) (E : XK), Room k A → A.guards = some [] → Env0 P w K mg base A outer s H → BindsTo s fd ⟨us, []⟩ (ps.zip us) → Vals vs us → sp vs H Q E → codeAny (model P w) A (.call (.ref f) ⟨us, []⟩) (CR CX0 outer P w H s Q E) s
section
variable {P : Program} {w : World} {K : PySem.W.Frag} {mg : Str → Option Value} {base : Heap}
theorem okR {x qual : Str} {st : Stmt} {f : Addr} {fd : FuncData} {N ps : List Str} {k : Nat} {sp : Sp} (F : Fun K x qual st f fd) (S : FnScope N ps (defScope st)) (count : ∀ vs H Q E, sp vs H Q E → vs.length = ps.length)
    (body : ∀ (cdv : Value) (A : Around) (outer : List Env) (s : Shared) (H : Hp) (vs : List V) (Q : VK) (E : XK), Room k (A.deeper (envOfC qual (defScope st) s.heap.objs.size f cdv)) → (A.deeper (envOfC qual (defScope st) s.heap.objs.size f cdv)).guards = some [] → sp vs H Q E →
      ∃ t, PSs (cxOf CX0 P w K mg base N qual (defScope st) f cdv A outer s H E).nox (defBody st) t ∧ t { nx := fun _ H' => Q .non H', rt := Q } (start N vs) H) : FnR P w K mg base (k + 1) f fd ps sp := by
  obtain ⟨oc, od, kV, doc, pm, an, cdv, ct, osl, efd, look, code⟩ := F.ex
  subst efd
  refine ⟨count, fun A outer s H us vs Q E room calm env bnd rel want => ?_⟩
  have old : ∀ b o, base.get? b = some o → s.heap.get? b = some o := fun b o e => (env.bs b o e).1
  have kin : K.In s.heap := env.mod.kin.keeps old
  have lims : s.heap.NoLimit := env.mod.nolimit.keeps old
  refine codeAny_call_function (by have := room.dp; omega) (kin _ _ look) rfl S.co S.gen rfl (PySem.W.codeRec_of kin code) (bnd _ _ _ _ ?_)
  refine wpAny_newFunctionEnv_cells S.kind (fun y hy => ?_) fun fresh same s1 made => ?_
  · obtain ⟨n, v⟩ := y
    cases S.par n (List.of_mem_zip hy).1 with
    | inl q => exact .inl q
    | inr q => exact .inr ⟨q, PySem.W.cellsFrom_some _ _ _ (.inl q)⟩
  cases same
  refine ⟨lims.keeps made.toInCall.keep, codeAny_func ?_⟩
  obtain ⟨t, prog, ends⟩ := body cdv A outer s H vs Q E (room.deeper _) calm want
  have inv : Inv (cxOf CX0 P w K mg base N qual (defScope st) f cdv A outer s H E) [] (start N vs) H s1 := inv_start S room.hd env (count _ _ _ _ want) rel made
  refine wpAny_mono (prog.nox.run [] s1 (start N vs) H _ inv ends) (fun fl s2 got => ?_) fun e s2 got => got
  cases fl with
  | ret u => exact let ⟨v, _, H2, J, rv, q⟩ := got; ⟨v, H2, J.os, J.bare, J.base, J.hok, rv, q⟩
  | next => exact let ⟨_, H2, J, q⟩ := got; ⟨V.non, H2, J.os, J.bare, J.base, J.hok, rfl, q⟩
  | brk => exact let ⟨_, _, _, q⟩ := got; False.elim q
  | cont => exact let ⟨_, _, _, q⟩ := got; False.elim q
structure KalR (P : Program) (w : World) (K : PySem.W.Frag) (mg : Str → Option Value) (base : Heap) (k : Nat) (x : Str) (ps : List Str) (sp : Sp) : Prop where
  ex : ∃ (f : Addr) (fd : FuncData), FnR P w K mg base k f fd ps sp ∧ mg x = some (.ref f) ∧ PySem.W.keepIn K (.ref f) = true ∧ Binds K fd ps []
theorem kalr_of {k : Nat} {x : Str} {st : Stmt} {ps : List Str} {sp : Sp} (A : Df K mg x st ps) (ok : ∀ f fd, Fun K x x st f fd → FnR P w K mg base k f fd ps sp) : KalR P w K mg base k x ps sp :=
  let ⟨f, fd, F, g, b⟩ := A.ex
  ⟨f, fd, ok f fd F, g, F.kp, b⟩
end
theorem pe_kr {X : Cx} {k j : Nat} {x : Str} {ps : List Str} {sp : Sp} {p pos : Pos} {e : Expr} {es : List Expr} {t : TA} (c : KalR X.prog X.w X.K X.mg X.base k x ps sp) (hr : Room j X.A) (calm : X.A.guards = some []) (hk : k ≤ j) (hg : Gl X x) (ha : PA X (e :: es) t)
    (nodbg : (x == ("__debug__" : Str)) = false := by decide) (stars : starEach (e :: es) X.env = (false, eval e X.env) :: starEach es X.env := by rfl) (plain : (backTo pos (starEach es X.env)).any (·.1) = false := by rfl) :
    PE X (.Call (.Name x p) (e :: es) [] pos) (tCall sp [] E0 t) := by
  obtain ⟨f, fd, F, hm, kp, b⟩ := c.ex
  refine ⟨fun pins s σ H Q J want => wpAny_Call_Name_kw (ld_glob J hg hm ?_ nodbg)⟩
  refine PySem.W.callWith_K (h₀ := X.base) J.ok.mod.kin kp (thn (ha.run pos pins s σ H _ J want) fun us s1 ⟨vs, H1, J1, rel, got⟩ => ⟨J1.kIn, ?_⟩) stars plain
  have want2 : sp (vs ++ []) H1 Q E0 := got
  rw [List.append_nil] at want2
  have count : us.length = ps.length := by
    rw [← rel.length]
    exact F.count _ _ _ _ want2
  have bnd := b s1 us J1.kIn (by rw [List.append_nil]; exact count)
  rw [List.append_nil] at bnd
  refine wpAny_call (codeAny_mono (F.go X.A X.stack s1 H1 us vs Q E0 (hr.mono hk) calm J1.env0 bnd rel want2) fun r s' end_ => ?_)
  match r, end_ with
  | .error e, end_ => exact pass0 pins σ H1 s1 e s' J1 end_
  | .ok (.ret u), end_ => exact J1.after end_
/-! ### check_places -/
def badP (n x : Int) : Bool := !(decide (0 ≤ x) && decide (x < n))
theorem badP_in {n x : Int} (h : 0 ≤ x ∧ x < n) : ¬ badP n x = true := by
  unfold badP
  rw [decide_eq_true h.1, decide_eq_true h.2]
  exact Bool.false_ne_true
theorem badP_out {n x : Int} (h : ¬ (0 ≤ x ∧ x < n)) : badP n x = true := by
  unfold badP
  rw [Bool.not_eq_true', Bool.and_eq_false_iff, decide_eq_false_iff_not, decide_eq_false_iff_not]
  omega
def badPl (n : Int) (xs : List Int) : Option Int := xs.find? (badP n)
theorem badPl_none {n : Int} {xs : List Int} (h : badPl n xs = none) : ∀ x ∈ xs, 0 ≤ x ∧ x < n := fun x hx => by
  have := List.find?_eq_none.mp h x hx
  by_cases c : 0 ≤ x ∧ x < n
  · exact c
  · exact absurd (badP_out c) this
theorem badPl_of {n : Int} {xs : List Int} (h : ∀ x ∈ xs, 0 ≤ x ∧ x < n) : badPl n xs = none := List.find?_eq_none.mpr fun x hx => badP_in (h x hx)
def spChkPl (K : PySem.W.Frag) (CP : Addr) : Sp := fun vs H Q E => ∃ (n : Int) (p : Addr) (xs : List Int), vs = [.int n, .ref p] ∧ SqL K H p (xs.map V.int) ∧
  (∀ x, badPl n xs = some x → RaiseTo E H CP x) ∧ (badPl n xs = none → ∀ H', Same H H' → Q .non H')
abbrev sChkPl : Stmt := topS 8
theorem scChkPl : FnScope ["n", "places", "place"] ["n", "places"] (defScope sChkPl) := ⟨rfl, rfl, rfl, by decide +kernel, rfl, by decide +kernel, by decide +kernel⟩
section
variable {P : Program} {w : World} {K : PySem.W.Frag} {mg : Str → Option Value} {base : Heap} {CP fI : Addr}
theorem ok_chkPl {f : Addr} {fd : FuncData} (F : Fun K "check_places" "check_places" sChkPl f fd) (hP : PySem.LowX.LowTxt K mg "NoPlace" CP fI) : FnOk P w K mg base (L2.CX P w) 2 f fd ["n", "places"] (spChkPl K CP) := by
  refine F.okX scChkPl (fun vs H Q E h => ?_) (fun cdv A outer s H vs Q E hr h => ?_)
  · obtain ⟨n, p, xs, rfl, _⟩ := h
    rfl
  · obtain ⟨n, p, xs, rfl, hS, q1, q2⟩ := h
    refine ⟨_, pss_one (ps_for (passes_of rfl) rfl (pi_list (pv 1)) (pg_name (i := 2) scChkPl.nd rfl (.inl rfl))
      (pss_one (ps_if (pt_not (pt_chain op_le op_lt pe_int (pv 2) (pv 0)))
        (pss_one (ps_raiseLow rfl hP hr (takes_of rfl rfl rfl rfl) (by exact (pa_cons (pv 2) pa_nil))))
        pss_nil))), ?_⟩
    refine g_forL (K := K) (j := 2) (xs := xs.map V.int) (vl_var rfl) hS
      (fun i σ H3 => ∃ y2, σ = [some (.int n), some (.ref p), y2] ∧ Same H H3 ∧ badPl n (xs.take i) = none)
      ⟨none, rfl, Same.refl _, rfl⟩ (fun i σ H3 hP => ?_) (fun i v σ H3 hi hP => ?_) (fun σ H3 hP => ?_)
    · obtain ⟨_, _, s3, _⟩ := hP
      exact s3.seq hS
    · obtain ⟨y2, rfl, s3, hb⟩ := hP
      rw [List.getElem?_map] at hi
      cases hg : xs[i]? with
      | none =>
        rw [hg] at hi
        cases hi
      | some z =>
        rw [hg] at hi
        cases hi
        refine g_when (b := !(decide ((0 : Int) ≤ z) && decide (z < n))) (an_not (an_test (vl_chainI vl_c (vl_var rfl) (vl_var rfl)))) (fun hz => ?_) (fun hz => ?_)
        · refine raise_now (va_cons (vl_var rfl) va_nil) ((q1 z ?_).to s3)
          have e : xs = xs.take i ++ (z :: xs.drop (i + 1)) := by
            have hil := (List.getElem?_eq_some_iff.mp hg)
            rw [← hil.2, ← List.drop_eq_getElem_cons hil.1, List.take_append_drop]
          rw [e]
          unfold badPl at hb ⊢
          rw [List.find?_append, hb, List.find?_cons_of_pos (p := badP n) hz] <;> rfl
        · refine ⟨_, rfl, s3, ?_⟩
          unfold badPl at hb ⊢
          rw [take_snoc hg, List.find?_append, hb, List.find?_cons_of_neg (p := badP n) (fun z => by rw [show badP n _ = false from hz] at z; cases z)] <;> rfl
    · obtain ⟨y2, rfl, s3, hb⟩ := hP
      rw [List.length_map, List.take_length] at hb
      exact q2 hb _ s3
end
section
variable {K : PySem.W.Frag} {σ : L2.St} {H : Hp} {t0 t1 t2 : TE} {D : Ends} {tw : TS} {E : XK} {CP : Addr} {n a b : Int}
/-- check_places(n, [a]) -/
theorem q_chk1 (h0 : Vl t0 σ H (.int n)) (h1 : Vl t1 σ H (.int a)) (qb : ¬ (0 ≤ a ∧ a < n) → RaiseTo E H CP a) (k : 0 ≤ a ∧ a < n → ∀ H', Same H H' → tw D σ H') :
    tSeq (tDrop (tCall (spChkPl K CP) [] E (tCons t0 (tCons (tLst (tCons t1 tNil)) tNil)))) tw D σ H :=
  h0 _ (h1 _ ⟨by show 1 ≤ sizeLine; decide, fun p np => ⟨n, p, [a], rfl, .of upd_same, fun x hx => by
    have s : Same H (upd H p (.lst [.int a])) := same_upd np
    refine (?_ : RaiseTo E H CP x).to s
    by_cases hin : 0 ≤ a ∧ a < n
    · rw [badPl_of (by
        intro y hy
        rw [List.mem_singleton.mp hy]
        exact hin)] at hx
      cases hx
    · have e : x = a := List.mem_singleton.mp (List.mem_of_find?_eq_some hx)
      rw [e]
      exact qb hin, fun hx H' s' => k (badPl_none hx a List.mem_cons_self) H' ((same_upd np).trans s')⟩⟩)
/-- check_places(n, [a, b]) -/
theorem q_chk2 (h0 : Vl t0 σ H (.int n)) (h1 : Vl t1 σ H (.int a)) (h2 : Vl t2 σ H (.int b)) (qa : ¬ (0 ≤ a ∧ a < n) → RaiseTo E H CP a) (qb : 0 ≤ a ∧ a < n → ¬ (0 ≤ b ∧ b < n) → RaiseTo E H CP b)
    (k : 0 ≤ a ∧ a < n → 0 ≤ b ∧ b < n → ∀ H', Same H H' → tw D σ H') :
    tSeq (tDrop (tCall (spChkPl K CP) [] E (tCons t0 (tCons (tLst (tCons t1 (tCons t2 tNil))) tNil)))) tw D σ H :=
  h0 _ (h1 _ (h2 _ ⟨by show 2 ≤ sizeLine; decide, fun p np => ⟨n, p, [a, b], rfl, .of upd_same, fun x hx => by
    have s : Same H (upd H p (.lst [.int a, .int b])) := same_upd np
    refine (?_ : RaiseTo E H CP x).to s
    unfold badPl at hx
    by_cases hin : 0 ≤ a ∧ a < n
    · by_cases hin2 : 0 ≤ b ∧ b < n
      · have := badPl_of (n := n) (xs := [a, b]) (by
          intro y hy
          rcases List.mem_cons.mp hy with rfl | hy
          · exact hin
          · rw [List.mem_singleton.mp hy]
            exact hin2)
        unfold badPl at this
        rw [this] at hx
        cases hx
      · rw [List.find?_cons_of_neg (badP_in hin)] at hx
        have e : x = b := List.mem_singleton.mp (List.mem_of_find?_eq_some hx)
        rw [e]
        exact qb hin hin2
    · rw [List.find?_cons_of_pos (badP_out hin)] at hx
      cases hx
      exact qa hin, fun hx H' s' => k (badPl_none hx a List.mem_cons_self) (badPl_none hx b (List.mem_cons_of_mem _ List.mem_cons_self)) H' ((same_upd np).trans s')⟩⟩))
end
/-! ### orders -/
def rng (n : Int) : List Int := (List.range n.toNat).map fun (i : Nat) => (i : Int)
def OrdOk (n : Int) (os : List Int) : Prop := os.Perm (rng n)
theorem mem_rng {n x : Int} : x ∈ rng n ↔ 0 ≤ x ∧ x < n := by
  unfold rng
  rw [List.mem_map]
  constructor
  · rintro ⟨i, hi, rfl⟩
    rw [List.mem_range] at hi
    omega
  · intro h
    exact ⟨x.toNat, List.mem_range.mpr (by omega), by omega⟩
theorem len_rng {n : Int} : (rng n).length = n.toNat := by
  unfold rng
  rw [List.length_map, List.length_range]
theorem nodup_rng {n : Int} : (rng n).Nodup := by
  unfold rng
  show List.Pairwise (· ≠ ·) _
  rw [List.pairwise_map]
  exact List.Pairwise.imp (fun h z => h (Int.ofNat.inj z)) List.nodup_range
theorem rng_succ (i : Nat) : rng ((i + 1 : Nat) : Int) = rng (i : Nat) ++ [(i : Int)] := by
  unfold rng
  rw [Int.toNat_natCast, Int.toNat_natCast, List.range_succ, List.map_append]
  rfl
theorem OrdOk.mem {n x : Int} {os : List Int} (h : OrdOk n os) : x ∈ os ↔ 0 ≤ x ∧ x < n := (h.mem_iff).trans mem_rng
theorem OrdOk.nodup {n : Int} {os : List Int} (h : OrdOk n os) : os.Nodup := (List.Perm.nodup_iff h).mpr nodup_rng
theorem OrdOk.len {n : Int} {os : List Int} (h : OrdOk n os) : os.length = n.toNat := (List.Perm.length_eq h).trans len_rng
theorem perm_of_sub : ∀ (xs ys : List Int), xs.Nodup → (∀ x ∈ xs, x ∈ ys) → ys.length ≤ xs.length → xs.Perm ys
  | [], ys, _, _, hl => by
    rw [List.eq_nil_of_length_eq_zero (Nat.le_zero.mp hl)]
  | x :: xs, ys, hn, hs, hl => by
    have hx := hs x List.mem_cons_self
    have hn := List.nodup_cons.mp hn
    have e := List.length_erase_of_mem hx
    have h := perm_of_sub xs (ys.erase x) hn.2 (fun y hy => (List.mem_erase_of_ne (fun z => hn.1 (by rw [← z]; exact hy))).mpr (hs y (List.mem_cons_of_mem _ hy))) (by
      rw [e]
      rw [List.length_cons] at hl
      omega)
    exact (h.cons x).trans (List.perm_cons_erase hx).symm
theorem ord_of {n : Int} {os : List Int} (hn : os.Nodup) (hm : ∀ x ∈ os, 0 ≤ x ∧ x < n) (hl : os.length = n.toNat) : OrdOk n os :=
  perm_of_sub _ _ hn (fun x hx => mem_rng.mpr (hm x hx)) (by rw [len_rng, hl]; exact Nat.le_refl _)
section
variable {K : PySem.W.Frag} {σ : L2.St} {H : Hp} {ta tb te : TE} {D : Ends} {tw : TS} {xs : List V}
theorem g_asgN {i : Nat} (h : Vn te σ H xs) (k : ∀ p H', Same H H' → H p = none → H' p = some (.lst xs) → D.nx (σ.set i (some (.ref p))) H') : tAsg te (gName i) D σ H := h _ k
/-- slices and sums of lists of ints -/
theorem vn_toI {ns : List Int} {a : Addr} {j : Nat} (h : Vl te σ H (.ref a)) (hj : Vl tb σ H (.int (j : Nat))) (hx : SqL K H a (ns.map V.int)) (hl : j ≤ ns.length) : Vn (tSl (rSlL K) te tNoPart (tPart tb)) σ H ((ns.take j).map V.int) := by
  have e : cutV (ns.map V.int) none (some ((j : Nat) : Int)) = (ns.take j).map V.int := by
    rw [cut_to (by rw [List.length_map]; exact hl), List.map_take]
  rw [← e]
  exact vn_slice h (fun _ q => q) (fun Q q => hj _ ⟨_, rfl, q⟩) hx
theorem vn_fromI {ns : List Int} {a : Addr} {j : Nat} (h : Vl te σ H (.ref a)) (hj : Vl tb σ H (.int (j : Nat))) (hx : SqL K H a (ns.map V.int)) (hl : j ≤ ns.length) : Vn (tSl (rSlL K) te (tPart tb) tNoPart) σ H ((ns.drop j).map V.int) := by
  have e : cutV (ns.map V.int) (some ((j : Nat) : Int)) none = (ns.drop j).map V.int := by
    rw [cut_from (by rw [List.length_map]; exact hl), List.map_drop]
  rw [← e]
  exact vn_slice h (fun Q q => hj _ ⟨_, rfl, q⟩) (fun _ q => q) hx
theorem vn_oneI {n : Int} (h : Vl te σ H (.int n)) : Vn (tLst (tCons te tNil)) σ H (([n] : List Int).map V.int) := vn_lst (va_cons h va_nil) (by show 1 ≤ sizeLine; decide)
theorem vn_catI {ms ns : List Int} (ha : Vn ta σ H (ms.map V.int)) (hb : ∀ H', Same H H' → Vn tb σ H' (ns.map V.int)) (hz : ms.length + ns.length ≤ 1000000) : Vn (tOp rCat ta tb) σ H ((ms ++ ns).map V.int) := by
  rw [List.map_append]
  exact vn_cat ha hb (by
    rw [List.length_map, List.length_map]
    exact Nat.le_trans hz (by decide))
theorem inV_int {x : Int} {ns : List Int} : inV (.int x) (ns.map V.int) = decide (x ∈ ns) := by
  unfold inV
  induction ns with
  | nil => rfl
  | cons n r ih =>
    rw [List.map_cons, List.any_cons, ih]
    show ((n == x) || decide (x ∈ r)) = _
    rw [Bool.eq_iff_iff, Bool.or_eq_true, beq_iff_eq, decide_eq_true_eq, decide_eq_true_eq, List.mem_cons]
    constructor
    · rintro (h | h)
      · exact .inl h.symm
      · exact .inr h
    · rintro (h | h)
      · exact .inl h.symm
      · exact .inr h
theorem flat_ints (ns : List Int) : (ns.map V.int).all flatV = true := by
  rw [List.all_map, List.all_eq_true]
  intro x _
  rfl
theorem vl_inI {a : Addr} {x : Int} {ns : List Int} (ha : Vl ta σ H (.int x)) (h : Vl te σ H (.ref a)) (hx : SqL K H a (ns.map V.int)) : Vl (tOp (rIn K false) ta te) σ H (.bl (decide (x ∈ ns))) := vl_op ha h fun _ k => ⟨a, _, rfl, .inl hx, rfl, flat_ints ns, by
  rw [inV_int]
  exact k⟩
theorem vl_notInI {a : Addr} {x : Int} {ns : List Int} (ha : Vl ta σ H (.int x)) (h : Vl te σ H (.ref a)) (hx : SqL K H a (ns.map V.int)) : Vl (tOp (rIn K true) ta te) σ H (.bl (!decide (x ∈ ns))) := vl_op ha h fun _ k => ⟨a, _, rfl, .inl hx, rfl, flat_ints ns, by
  rw [inV_int]
  exact k⟩
theorem vl_ixI {a : Addr} {ns : List Int} {j : Nat} {x : Int} (ha : Vl ta σ H (.ref a)) (hb : Vl tb σ H (.int (j : Nat))) (h : SqL K H a (ns.map V.int)) (hg : ns[j]? = some x) : Vl (tOp (rIxL K) ta tb) σ H (.int x) := vl_ixL ha hb h (atI_nat (by
  rw [List.getElem?_map, hg]
  rfl))
theorem vl_lenI {a : Addr} {ns : List Int} (ha : Vl ta σ H (.ref a)) (h : SqL K H a (ns.map V.int)) : Vl (tCB (fun xs H Q => ∃ p ys, xs = [V.ref p] ∧ (SqL K H p ys ∨ SqT K H p ys) ∧ Q (V.int ys.length) H) (tCons ta tNil)) σ H (.int ns.length) := (vl_lenL ha h).is (by rw [List.length_map])
end
section
variable {K : PySem.W.Frag} {σ : L2.St} {H : Hp} {ta tb te : TE} {b k m : Bool}
theorem vn_catL {a : Addr} {ms ns : List Int} (ha : Vl ta σ H (.ref a)) (hA : H a = some (.lst (ms.map V.int))) (hb : Vn tb σ H (ns.map V.int)) (hz : ms.length + ns.length ≤ 1000000) : Vn (tOp rCat ta tb) σ H ((ms ++ ns).map V.int) := fun Q q =>
  ha _ (hb _ fun p H1 s1 np hp => ⟨a, p, _, _, rfl, rfl, s1 _ _ hA, hp, by
    rw [List.length_map, List.length_map]
    exact Nat.le_trans hz (by decide), fun t nt => by
    rw [← List.map_append]
    exact q t _ (s1.trans (same_upd nt)) (Same.free s1 nt) upd_same⟩)
theorem vn_lstRg {n : Int} (h : Vl ta σ H (.int n)) (h0 : 0 ≤ n) (h1 : n ≤ 1000000) : Vn (tLstRg (tRg1 ta)) σ H ((rng n).map V.int) := fun Q q => h _ ⟨n, rfl, RgOk.of_le (by omega) (by omega) (by omega) h0, fun p np => by
  have e : rgV 0 n = (rng n).map V.int := by
    unfold rgV rng
    rw [List.map_map, Int.sub_zero]
    exact List.map_congr_left fun i _ => by
      rw [Int.zero_add]
      rfl
  rw [e]
  exact q p _ (same_upd np) np upd_same⟩
theorem vl_andV (h1 : Vl ta σ H (.bl k)) (h2 : k = true → Vl tb σ H (.bl m)) : Vl (tAndV ta tb) σ H (.bl (k && m)) := fun Q q => h1 _ ⟨k, rfl, by
  cases k with
  | true => exact iteT (h2 rfl _ q)
  | false => exact iteF q⟩
theorem dB {i j : Bool} : decide (V.bl i = V.bl j) = decide (i = j) := by
  rw [Bool.eq_iff_iff, decide_eq_true_eq, decide_eq_true_eq]
  exact ⟨fun z => V.bl.inj z, fun z => by rw [z]⟩
end
theorem q_dputN {σ : L2.St} {H : Hp} {td ty tv : TE} {D : Ends} {tw : TS} {o : Addr} {p : Int} {kvs : List (Key × V)} {xs : List V} (hv : Vn tv σ H xs) (ho : ∀ H', Same H H' → Vl td σ H' (.ref o)) (hk : ∀ H', Same H H' → Vl ty σ H' (.int p)) (hd : H o = some (.dK kvs)) (hl : kvs.length < sizeLine)
    (k : ∀ a H', Same H H' → H a = none → H' a = some (.lst xs) → tw D σ (upd H' o (.dK (putK kvs (.inl p) (.ref a))))) : tSeq (sDPut td ty tv) tw D σ H := g_dputN (D := { D with nx := tw D }) hv ho hk hd hl k
abbrev sOrder : Stmt := topS 23
theorem scOrder : FnScope ["draws", "k", "size", "order", "place", "at"] ["draws", "k", "size"] (defScope sOrder) := ⟨rfl, rfl, rfl, by decide +kernel, rfl, by decide +kernel, by decide +kernel⟩
def spOrder (K : PySem.W.Frag) : Sp := fun vs H Q _ => ∃ (d : Addr) (ds : List Int) (k n : Int), vs = [.ref d, .int k, .int n] ∧ SqL K H d (ds.map V.int) ∧ 0 ≤ k ∧ 0 ≤ n ∧ n ≤ 40 ∧ ∀ H' p os, Same H H' → H p = none → H' p = some (.lst (os.map V.int)) → OrdOk n os → Q (.ref p) H'
section
variable {P : Program} {w : World} {K : PySem.W.Frag} {mg : Str → Option Value} {base : Heap}
theorem ok_order {f : Addr} {fd : FuncData} (F : Fun K "_law_order" "_law_order" sOrder f fd) (c_law_mix : Kal P w K mg base 1 "_law_mix" ["draws", "k", "many"] (spAt K)) (mr : mg "range" = none) : FnOk P w K mg base CX0 2 f fd ["draws", "k", "size"] (spOrder K) := by
  refine F.ok scOrder (fun vs H Q E h => ?_) (fun cdv A outer s H vs Q E hr h => ?_)
  · obtain ⟨d, ds, k, n, rfl, _⟩ := h
    rfl
  · obtain ⟨d, ds, k, n, rfl, hS, hk, hn0, hn40, q⟩ := h
    refine ⟨_, pss_cons (ps_set (i := 3) scOrder.nd rfl (.inl rfl) (pe_lst pa_nil))
      (pss_cons (ps_for PassesOwn.never rfl (pi_range1 (by rfl) mr (pa_cons (pv 2) pa_nil)) (pg_name (i := 4) scOrder.nd rfl (.inl rfl))
      (pss_cons (ps_set (i := 5) scOrder.nd rfl (.inl rfl) (pe_k c_law_mix hr (by first | decide | omega) (by rfl) (pa_cons (pv 0) (pa_cons (pe_op op_add (pv 1) (pv 4)) (pa_cons (pe_op op_add (pv 4) pe_int) pa_nil)))))
        (pss_one (ps_set (i := 3) scOrder.nd rfl (.inl rfl) (pe_op op_cat (pe_op op_cat (pe_slice sl_list (pv 3) po_none (po_some (pv 5))) (pe_lst (pa_cons (pv 4) pa_nil))) (pe_slice sl_list (pv 3) (po_some (pv 5)) po_none))))))
      (pss_one (ps_ret (pv 3)))), ?_⟩
    refine q_lnew fun o no => ?_
    refine q_forR (n := n) (va_cons (vl_var rfl) va_nil) ⟨by omega, by omega⟩
      (fun i σ H3 => ∃ y4 y5 p os, σ = [some (.ref d), some (.int k), some (.int n), some (.ref p), y4, y5] ∧ Same H H3 ∧ H p = none ∧ H3 p = some (.lst (os.map V.int)) ∧ OrdOk i os)
      ⟨none, none, o, [], rfl, same_upd no, no, upd_same, List.Perm.refl _⟩ (fun i σ H3 hi hP => ?_) (fun σ H3 hP => ?_)
    · obtain ⟨y4, y5, p, os, rfl, s3, np, hp, hos⟩ := hP
      refine q_asgI (P := fun r => 0 ≤ r ∧ r < (i : Int) + 1) (vi_call (va_cons (vl_var rfl) (va_cons (vl_I0 (vl_var rfl) (vl_var rfl)) (va_cons (vl_I0 (vl_var rfl) vl_c) va_nil))) fun Q E q => ⟨d, ds, k + i, (i : Int) + 1, rfl, s3.seq hS, by omega, by omega, q⟩) (fun r hr => ?_)
      obtain ⟨j, rfl⟩ := Int.eq_ofNat_of_zero_le hr.1
      have hl := hos.len
      rw [Int.toNat_natCast] at hl
      have hj : j ≤ os.length := by omega
      refine g_asgN (xs := (os.take j ++ [(i : Int)] ++ os.drop j).map V.int) (vn_catI (vn_catI (vn_toI (vl_var rfl) (vl_var rfl) (.of hp) hj) (fun H' s' => vn_oneI (vl_var rfl)) ?_) (fun H' s' => vn_fromI (vl_var rfl) (vl_var rfl) (.of (s' _ _ hp)) hj) ?_) (fun p2 H4 s4 np2 hp2 => ?_)
      · rw [List.length_take]
        show min j os.length + 1 ≤ 1000000
        omega
      · rw [List.length_append, List.length_take, List.length_drop]
        show min j os.length + 1 + (os.length - j) ≤ 1000000
        omega
      · refine ⟨_, _, p2, _, rfl, s3.trans s4, Same.free s3 np2, hp2, ?_⟩
        unfold OrdOk
        rw [rng_succ]
        have h1 : (os.take j ++ [(i : Int)] ++ os.drop j).Perm ([(i : Int)] ++ (os.take j ++ os.drop j)) := by
          rw [List.append_assoc, ← List.append_assoc [(i : Int)]]
          refine (List.perm_append_comm_assoc _ _ _).trans ?_
          rw [List.append_assoc]
        rw [List.take_append_drop] at h1
        exact (h1.trans List.perm_append_comm).trans (hos.append_right _)
    · obtain ⟨y4, y5, p, os, rfl, s3, np, hp, hos⟩ := hP
      refine g_ret (vl_var rfl) (q H3 p os s3 np hp ?_)
      rw [show ((n.toNat : Nat) : Int) = n by omega] at hos
      exact hos
end
/-! ### ranks -/
def fb (m : Int) : List Int → List Int → Nat → Option Nat
  | _, [], _ => none
  | seen, x :: xs, k => if (0 ≤ x ∧ x < m) ∧ x ∉ seen then fb m (seen ++ [x]) xs (k + 1) else some k
def badAt (os : List Int) : Option Nat := fb os.length [] os 0
def posOf (x : Int) : List Int → Nat
  | [] => 0
  | y :: ys => if y = x then 0 else posOf x ys + 1
def rk (os : List Int) : List Int := (rng os.length).map fun p => (posOf p os : Int)
theorem posOf_get : ∀ {os : List Int} {i : Nat} {x : Int}, os.Nodup → os[i]? = some x → posOf x os = i
  | [], _, _, _, h => by simp at h
  | y :: ys, 0, x, _, h => if_pos (Option.some.inj h)
  | y :: ys, i + 1, x, hn, h => by
    have hn := List.nodup_cons.mp hn
    have h : ys[i]? = some x := h
    have ne : ¬ y = x := fun z => hn.1 (by rw [z]; exact List.mem_of_getElem? h)
    show (if y = x then 0 else posOf x ys + 1) = i + 1
    rw [if_neg ne, posOf_get hn.2 h]
theorem posOf_lt : ∀ {os : List Int} {x : Int}, x ∈ os → os[posOf x os]? = some x
  | y :: ys, x, h => by
    show (y :: ys)[if y = x then 0 else posOf x ys + 1]? = some x
    by_cases e : y = x
    · rw [if_pos e, e]
      rfl
    · rw [if_neg e]
      rcases List.mem_cons.mp h with h | h
      · exact absurd h.symm e
      · exact posOf_lt h
theorem fb_ok {m : Int} : ∀ {xs seen : List Int} {k : Nat}, fb m seen xs k = none → seen.Nodup → (∀ x ∈ seen, 0 ≤ x ∧ x < m) → (seen ++ xs).Nodup ∧ ∀ x ∈ seen ++ xs, 0 ≤ x ∧ x < m
  | [], seen, k, _, hn, hm => by
    rw [List.append_nil]
    exact ⟨hn, hm⟩
  | x :: xs, seen, k, h, hn, hm => by
    have h : (if (0 ≤ x ∧ x < m) ∧ x ∉ seen then fb m (seen ++ [x]) xs (k + 1) else some k) = none := h
    by_cases c : (0 ≤ x ∧ x < m) ∧ x ∉ seen
    · rw [if_pos c] at h
      have := fb_ok h (List.nodup_append.mpr ⟨hn, List.nodup_cons.mpr ⟨List.not_mem_nil, .nil⟩, fun a ha b hb e => c.2 (by
        rw [List.mem_singleton] at hb
        rw [← hb, ← e]
        exact ha)⟩) (fun y hy => by
        rcases List.mem_append.mp hy with hy | hy
        · exact hm y hy
        · rw [List.mem_singleton.mp hy]
          exact c.1)
      rw [List.append_assoc] at this
      exact this
    · rw [if_neg c] at h
      cases h
theorem bad_none {os : List Int} (h : badAt os = none) : OrdOk os.length os := by
  have := fb_ok h .nil (fun _ h => nomatch h)
  exact ord_of this.1 this.2 (Int.toNat_natCast _).symm
theorem fb_none {m : Int} : ∀ {xs seen : List Int} {k : Nat}, (seen ++ xs).Nodup → (∀ x ∈ xs, 0 ≤ x ∧ x < m) → fb m seen xs k = none
  | [], _, _, _, _ => rfl
  | x :: xs, seen, k, hn, hm => by
    have c : (0 ≤ x ∧ x < m) ∧ x ∉ seen := ⟨hm x List.mem_cons_self, fun z => (List.nodup_append.mp hn).2.2 x z x List.mem_cons_self rfl⟩
    show (if (0 ≤ x ∧ x < m) ∧ x ∉ seen then fb m (seen ++ [x]) xs (k + 1) else some k) = none
    rw [if_pos c]
    exact fb_none (by
      rw [List.append_assoc]
      exact hn) fun y hy => hm y (List.mem_cons_of_mem _ hy)
theorem bad_iff {os : List Int} : badAt os = none ↔ OrdOk os.length os := ⟨bad_none, fun h => fb_none (by
  rw [List.nil_append]
  exact h.nodup) fun x hx => h.mem.mp hx⟩
def outAt (os : List Int) (i : Nat) : List Int := (rng os.length).map fun p => if p ∈ os.take i then (posOf p os : Int) else 0
theorem rng_get {n : Int} {p : Nat} (h : p < (rng n).length) : (rng n)[p] = (p : Int) := by
  simp only [rng, List.getElem_map, List.getElem_range]
theorem out_zero {os : List Int} : outAt os 0 = os.map fun _ => (0 : Int) := by
  refine List.ext_getElem ?_ fun p h1 h2 => ?_
  · unfold outAt
    rw [List.length_map, List.length_map, len_rng, Int.toNat_natCast]
  · simp only [outAt, List.getElem_map, List.take_zero, List.not_mem_nil, if_false]
theorem out_succ {os : List Int} {i : Nat} {x : Int} (ok : OrdOk os.length os) (h : os[i]? = some x) : outAt os (i + 1) = (outAt os i).set x.toNat i := by
  have hx := ok.mem.mp (List.mem_of_getElem? h)
  refine List.ext_getElem ?_ fun p h1 h2 => ?_
  · unfold outAt
    rw [List.length_set, List.length_map, List.length_map]
  · rw [List.getElem_set]
    simp only [outAt, List.getElem_map, rng_get]
    rw [take_snoc h]
    by_cases e : x.toNat = p
    · have e2 : (p : Int) = x := by omega
      rw [if_pos e, e2, if_pos (List.mem_append.mpr (.inr (List.mem_singleton.mpr rfl))), posOf_get ok.nodup h]
    · have e2 : ¬ (p : Int) = x := fun z => e (by omega)
      rw [if_neg e]
      by_cases c : (p : Int) ∈ os.take i
      · rw [if_pos c, if_pos (List.mem_append.mpr (.inl c))]
      · rw [if_neg c, if_neg (fun z => by
          rcases List.mem_append.mp z with z | z
          · exact c z
          · exact e2 (List.mem_singleton.mp z))]
theorem out_end {os : List Int} (ok : OrdOk os.length os) : outAt os os.length = rk os := by
  unfold outAt rk
  rw [List.take_length]
  exact List.map_congr_left fun p hp => if_pos (ok.mem.mpr (mem_rng.mp hp))
def dueD (os : List Int) : PyData := match badAt os with
  | some k => .tuple [.str "bad", .int (k : Nat)]
  | none => .tuple [.str "ranks", .list ((rk os).map PyData.int)]
theorem shaped_due (os : List Int) : SeqAt.shaped (dueD os) = true := by
  unfold dueD
  split
  · exact shaped_pair (x := "bad") (by decide +kernel) rfl (Nat.zero_le _)
  · refine shaped_pair (x := "ranks") (by decide +kernel) ?_ ?_
    · exact (lay_ints _).1
    · show PyData.depthAll _ + 1 ≤ 3
      rw [(lay_ints _).2]
      decide
/-- what due's tuple holds -/
def DueAt (K : PySem.W.Frag) (H : Hp) (T : Addr) (os : List Int) : Prop := match badAt os with
  | some k => SqT K H T [.str "bad", .int (k : Nat)]
  | none => ∃ q, SqT K H T [.str "ranks", .ref q] ∧ SqL K H q ((rk os).map V.int)
theorem DueAt.dp {K : PySem.W.Frag} {H : Hp} {T : Addr} {os : List Int} (h : DueAt K H T os) : Dp K H (.ref T) (dueD os) := by
  unfold DueAt at h
  unfold dueD
  cases e : badAt os with
  | some k =>
    rw [e] at h
    exact .tup h (.cons (.str _) (.cons (.int _) .nil))
  | none =>
    rw [e] at h
    obtain ⟨q, h1, h2⟩ := h
    exact .tup h1 (.cons (.str _) (.cons (Dp.ints h2) .nil))
/-! ### neighbours -/
def nearF (a : Int) (l : Lnk) : Option Int := if l.a = a then some l.b else if l.b = a then some l.a else none
def nearOf (a : Int) (ls : List Lnk) : List Int := ls.filterMap (nearF a)
theorem nearF_sum {a : Int} {l : Lnk} : nearF a l = if (l.a = a ∨ l.b = a) then some (l.a + l.b - a) else none := by
  unfold nearF
  by_cases h1 : l.a = a
  · rw [if_pos h1, if_pos (.inl h1)]
    congr 1
    omega
  · rw [if_neg h1]
    by_cases h2 : l.b = a
    · rw [if_pos h2, if_pos (.inr h2)]
      congr 1
      omega
    · rw [if_neg h2, if_neg (by omega)]
theorem nearF_iff {a o : Int} {l : Lnk} (h : l.a < l.b) : nearF a l = some o ↔ (l.a = a ∧ l.b = o) ∨ (l.a = o ∧ l.b = a) := by
  rw [nearF_sum]
  by_cases c : l.a = a ∨ l.b = a
  · rw [if_pos c]
    constructor
    · intro e
      have := Option.some.inj e
      omega
    · intro e
      congr 1
      omega
  · rw [if_neg c]
    constructor
    · intro e
      cases e
    · intro e
      omega
def adj0 (ls : List Lnk) (x y : Int) : Bool := ls.any fun l => decide ((l.a = x ∧ l.b = y) ∨ (l.a = y ∧ l.b = x))
theorem adj0_iff {ls : List Lnk} {x y : Int} : adj0 ls x y = true ↔ ∃ l ∈ ls, (l.a = x ∧ l.b = y) ∨ (l.a = y ∧ l.b = x) := by
  unfold adj0
  rw [List.any_eq_true]
  constructor
  · rintro ⟨l, h, e⟩
    exact ⟨l, h, of_decide_eq_true e⟩
  · rintro ⟨l, h, e⟩
    exact ⟨l, h, decide_eq_true e⟩
theorem split_at {α : Type} {xs : List α} {i : Nat} {x : α} (h : xs[i]? = some x) : xs = xs.take i ++ x :: xs.drop (i + 1) := by
  have hi := (List.getElem?_eq_some_iff.mp h).1
  have e := List.take_append_drop i xs
  rw [List.drop_eq_getElem_cons hi, (List.getElem?_eq_some_iff.mp h).2] at e
  exact e.symm
theorem near_mem {N : Net} (ok : NetOk N) {a o : Int} : o ∈ nearOf a N.ls ↔ adj0 N.ls a o = true := by
  unfold nearOf
  rw [List.mem_filterMap, adj0_iff]
  constructor
  · rintro ⟨l, h, e⟩
    exact ⟨l, h, (nearF_iff (ok.ok l h).ab).mp e⟩
  · rintro ⟨l, h, e⟩
    exact ⟨l, h, (nearF_iff (ok.ok l h).ab).mpr e⟩
theorem near_lt {N : Net} (ok : NetOk N) (a : Int) : (nearOf a N.ls).Pairwise (· < ·) := by
  unfold nearOf
  rw [List.pairwise_filterMap]
  refine List.Pairwise.imp_of_mem (fun {l m} hl hm hlt x hx y hy => ?_) ok.lt
  have h1 := (ok.ok l hl).ab
  have h2 := (ok.ok m hm).ab
  have hx := (nearF_iff h1).mp hx
  have hy := (nearF_iff h2).mp hy
  unfold LnkLt at hlt
  omega
theorem near_nodup {N : Net} (ok : NetOk N) (a : Int) : (nearOf a N.ls).Nodup := (near_lt ok a).imp fun h z => by omega
theorem adj0_in {N : Net} (ok : NetOk N) {x y : Int} (h : adj0 N.ls x y = true) : (0 ≤ x ∧ x < N.n) ∧ (0 ≤ y ∧ y < N.n) ∧ x ≠ y := by
  obtain ⟨l, hl, e⟩ := adj0_iff.mp h
  have := (ok.ok l hl).a0
  have := (ok.ok l hl).ab
  have := (ok.ok l hl).bn
  omega
theorem adj0_sym {ls : List Lnk} {x y : Int} : adj0 ls x y = adj0 ls y x := by
  rw [Bool.eq_iff_iff, adj0_iff, adj0_iff]
  constructor
  · rintro ⟨l, h, e⟩
    exact ⟨l, h, e.symm⟩
  · rintro ⟨l, h, e⟩
    exact ⟨l, h, e.symm⟩
/-! ### the greedy order -/
def joinB (adj : Int → Int → Bool) (b x y : Int) : Bool := adj x y || (adj b x && (adj b y && !decide (x = y)))
def deg (L : List Int) (adj : Int → Int → Bool) (p : Int) : Nat := (L.filter (adj p)).length
def pick (f : Int → Nat) (b : Int) (xs : List Int) : Int := xs.foldl (fun b p => if f p < f b then p else b) b
def gr : Nat → List Int → (Int → Int → Bool) → List Int
  | 0, _, _ => []
  | _ + 1, [], _ => []
  | k + 1, p :: r, adj => pick (deg (p :: r) adj) p (p :: r) :: gr k ((p :: r).erase (pick (deg (p :: r) adj) p (p :: r))) (joinB adj (pick (deg (p :: r) adj) p (p :: r)))
def greedyOf (N : Net) : List Int := gr N.n.toNat (rng N.n) (adj0 N.ls)
theorem pick_or {f : Int → Nat} : ∀ {xs : List Int} {b : Int}, pick f b xs = b ∨ pick f b xs ∈ xs
  | [], b => .inl rfl
  | x :: xs, b => by
    show pick f (if f x < f b then x else b) xs = b ∨ pick f (if f x < f b then x else b) xs ∈ x :: xs
    by_cases c : f x < f b
    · rw [if_pos c]
      rcases pick_or (f := f) (xs := xs) (b := x) with h | h
      · right
        rw [h]
        exact List.mem_cons_self
      · exact .inr (List.mem_cons_of_mem _ h)
    · rw [if_neg c]
      rcases pick_or (f := f) (xs := xs) (b := b) with h | h
      · exact .inl h
      · exact .inr (List.mem_cons_of_mem _ h)
theorem pick_mem {f : Int → Nat} {p : Int} {r : List Int} : pick f p (p :: r) ∈ p :: r := by
  rcases pick_or (f := f) (xs := p :: r) (b := p) with h | h
  · rw [h]
    exact List.mem_cons_self
  · exact h
theorem pick_congr {f g : Int → Nat} : ∀ {xs : List Int} {b : Int}, (∀ x ∈ b :: xs, f x = g x) → pick f b xs = pick g b xs
  | [], _, _ => rfl
  | x :: xs, b, h => by
    show pick f (if f x < f b then x else b) xs = pick g (if g x < g b then x else b) xs
    rw [h x (List.mem_cons_of_mem _ List.mem_cons_self), h b List.mem_cons_self]
    refine pick_congr fun y hy => ?_
    rcases List.mem_cons.mp hy with e | e
    · by_cases c : g x < g b
      · rw [if_pos c] at e
        rw [e]
        exact h x (List.mem_cons_of_mem _ List.mem_cons_self)
      · rw [if_neg c] at e
        rw [e]
        exact h b List.mem_cons_self
    · exact h y (List.mem_cons_of_mem _ (List.mem_cons_of_mem _ e))
structure AdjOk (adj : Int → Int → Bool) : Prop where
  sym : ∀ x y, adj x y = adj y x
  irr : ∀ x, adj x x = false
theorem AdjOk.join {adj : Int → Int → Bool} (h : AdjOk adj) (b : Int) : AdjOk (joinB adj b) where
  sym := fun x y => by
    unfold joinB
    rw [h.sym x y, Bool.and_left_comm, show decide (x = y) = decide (y = x) by
      rw [Bool.eq_iff_iff, decide_eq_true_eq, decide_eq_true_eq]
      exact eq_comm]
  irr := fun x => by
    unfold joinB
    rw [h.irr x, decide_eq_true rfl]
    simp
theorem adj0_ok {N : Net} (ok : NetOk N) : AdjOk (adj0 N.ls) := ⟨fun _ _ => adj0_sym, fun x => by
  cases e : adj0 N.ls x x with
  | false => rfl
  | true => exact absurd rfl (adj0_in ok e).2.2⟩
/-- lists of neighbours that say what adj says of the places left -/
structure NearOk (L : List Int) (adj : Int → Int → Bool) (near : Int → List Int) : Prop where
  nd : ∀ p ∈ L, (near p).Nodup
  mem : ∀ p ∈ L, ∀ o, o ∈ near p ↔ o ∈ L ∧ adj p o = true
theorem sub_len : ∀ {xs ys : List Int}, xs.Nodup → (∀ x ∈ xs, x ∈ ys) → xs.length ≤ ys.length
  | [], _, _, _ => Nat.zero_le _
  | x :: xs, ys, hn, hs => by
    have hn := List.nodup_cons.mp hn
    have hx := hs x List.mem_cons_self
    have e := List.length_erase_of_mem hx
    have h := sub_len (ys := ys.erase x) hn.2 (fun y hy => (List.mem_erase_of_ne (fun z => hn.1 (by rw [← z]; exact hy))).mpr (hs y (List.mem_cons_of_mem _ hy)))
    have := List.length_pos_of_mem hx
    rw [List.length_cons]
    omega
theorem NearOk.deg {L : List Int} {adj : Int → Int → Bool} {near : Int → List Int} (h : NearOk L adj near) (hL : L.Nodup) {p : Int} (hp : p ∈ L) : (near p).length = Ovc.deg L adj p := by
  unfold Ovc.deg
  have hf : (L.filter (adj p)).Nodup := hL.filter _
  have m : ∀ o, o ∈ near p ↔ o ∈ L.filter (adj p) := fun o => by
    rw [h.mem p hp o, List.mem_filter]
  refine Nat.le_antisymm ?_ ?_
  · exact sub_len (h.nd p hp) fun o ho => (m o).mp ho
  · exact sub_len hf fun o ho => (m o).mpr ho
def nearTo (near : Int → List Int) (b p : Int) : List Int := (near p).filter (fun o => !decide (o = b)) ++ (near b).filter fun o => !decide (o = p) && !decide (o ∈ near p)
theorem NearOk.step {L : List Int} {adj : Int → Int → Bool} {near : Int → List Int} (h : NearOk L adj near) (ha : AdjOk adj) (hL : L.Nodup) {b : Int} (hb : b ∈ L) :
    NearOk (L.erase b) (joinB adj b) (fun p => if p ∈ near b then nearTo near b p else near p) where
  nd := fun p hp => by
    have hp2 := (hL.mem_erase_iff.mp hp).2
    show (if p ∈ near b then nearTo near b p else near p).Nodup
    by_cases c : p ∈ near b
    · rw [if_pos c]
      refine List.nodup_append.mpr ⟨(h.nd p hp2).filter _, (h.nd b hb).filter _, fun x hx y hy e => ?_⟩
      have h1 := (List.mem_filter.mp hx).1
      have h2 := (List.mem_filter.mp hy).2
      rw [Bool.and_eq_true, Bool.not_eq_true', Bool.not_eq_true', decide_eq_false_iff_not, decide_eq_false_iff_not] at h2
      exact h2.2 (by rw [← e]; exact h1)
    · rw [if_neg c]
      exact h.nd p hp2
  mem := fun p hp o => by
    have hpb := (hL.mem_erase_iff.mp hp).1
    have hp2 := (hL.mem_erase_iff.mp hp).2
    show o ∈ (if p ∈ near b then nearTo near b p else near p) ↔ o ∈ L.erase b ∧ joinB adj b p o = true
    have j : joinB adj b p o = true ↔ adj p o = true ∨ (adj b p = true ∧ adj b o = true ∧ o ≠ p) := by
      unfold joinB
      rw [Bool.or_eq_true, Bool.and_eq_true, Bool.and_eq_true, Bool.not_eq_true', decide_eq_false_iff_not]
      constructor
      · rintro (h | ⟨h1, h2, h3⟩)
        · exact .inl h
        · exact .inr ⟨h1, h2, fun z => h3 z.symm⟩
      · rintro (h | ⟨h1, h2, h3⟩)
        · exact .inl h
        · exact .inr ⟨h1, h2, fun z => h3 z.symm⟩
    rw [j, hL.mem_erase_iff]
    by_cases c : p ∈ near b
    · rw [if_pos c]
      unfold nearTo
      have hbp := ((h.mem b hb p).mp c).2
      rw [List.mem_append, List.mem_filter, List.mem_filter, Bool.and_eq_true, Bool.not_eq_true', Bool.not_eq_true', Bool.not_eq_true', decide_eq_false_iff_not, decide_eq_false_iff_not, decide_eq_false_iff_not, h.mem p hp2 o, h.mem b hb o]
      constructor
      · rintro (⟨⟨h1, h2⟩, h3⟩ | ⟨⟨h1, h2⟩, h3, h4⟩)
        · exact ⟨⟨h3, h1⟩, .inl h2⟩
        · have ne : o ≠ b := fun z => by
            rw [z, ha.irr] at h2
            cases h2
          exact ⟨⟨ne, h1⟩, .inr ⟨hbp, h2, h3⟩⟩
      · rintro ⟨⟨h1, h2⟩, h3 | ⟨h3, h4, h5⟩⟩
        · exact .inl ⟨⟨h2, h3⟩, h1⟩
        · by_cases d : adj p o = true
          · exact .inl ⟨⟨h2, d⟩, h1⟩
          · exact .inr ⟨⟨h2, h4⟩, h5, fun z => d z.2⟩
    · rw [if_neg c, h.mem p hp2 o]
      have hbp : adj b p ≠ true := fun z => c ((h.mem b hb p).mpr ⟨hp2, z⟩)
      constructor
      · rintro ⟨h1, h2⟩
        have ne : o ≠ b := fun z => by
          rw [z, ha.sym] at h2
          exact hbp h2
        exact ⟨⟨ne, h1⟩, .inl h2⟩
      · rintro ⟨⟨h1, h2⟩, h3 | ⟨h3, _⟩⟩
        · exact ⟨h2, h3⟩
        · exact absurd h3 hbp
theorem left_snoc {n b : Int} {acc : List Int} : (rng n).filter (fun p => !decide (p ∈ acc ++ [b])) = ((rng n).filter fun p => !decide (p ∈ acc)).erase b := by
  rw [List.Nodup.erase_eq_filter (show List.Nodup _ from nodup_rng.filter _) b, List.filter_filter]
  refine List.filter_congr fun p _ => ?_
  rw [Bool.eq_iff_iff]
  simp only [List.mem_append, List.mem_singleton, Bool.not_eq_true', decide_eq_false_iff_not, Bool.and_eq_true, bne_iff_ne, ne_eq, not_or]
  exact And.comm
/-! ### pairs of an order -/
inductive Rch (adj : Int → Int → Bool) (low : Int → Prop) : Int → Int → Prop
  | one {x y : Int} : adj x y = true → Rch adj low x y
  | step {x z y : Int} : Rch adj low x z → low z → adj z y = true → Rch adj low x y
section
variable {adj : Int → Int → Bool} {low low' : Int → Prop} {x y z : Int}
theorem Rch.mono (h : Rch adj low x y) (m : ∀ z, low z → low' z) : Rch adj low' x y := by
  induction h with
  | one a => exact .one a
  | step _ l a ih => exact .step ih (m _ l) a
theorem Rch.trans (h : Rch adj low x z) (l : low z) (k : Rch adj low z y) : Rch adj low x y := by
  induction k with
  | one a => exact .step h l a
  | step _ l2 a ih => exact .step ih l2 a
theorem Rch.sym (ok : AdjOk adj) (h : Rch adj low x y) : Rch adj low y x := by
  induction h with
  | one a => exact .one (by rw [ok.sym]; exact a)
  | step _ l a ih => exact Rch.trans (.one (by rw [ok.sym]; exact a)) l ih
theorem Rch.last (h : Rch adj low x y) : ∃ a, adj a y = true := by
  cases h with
  | one a => exact ⟨_, a⟩
  | step _ _ a => exact ⟨_, a⟩
theorem Rch.first (h : Rch adj low x y) : ∃ a, adj x a = true := by
  induction h with
  | one a => exact ⟨_, a⟩
  | step _ _ _ ih => exact ih
end
section
variable {adj : Int → Int → Bool} {pos : Int → Nat}
theorem floyd1 (inj : ∀ x y a b, adj a x = true → adj b y = true → pos x = pos y → x = y) {k : Nat} {x y : Int} (h : Rch adj (fun z => pos z < k + 1) x y) :
    Rch adj (fun z => pos z < k) x y ∨ ∃ w, pos w = k ∧ Rch adj (fun z => pos z < k) x w ∧ Rch adj (fun z => pos z < k) w y := by
  induction h with
  | one a => exact .inl (.one a)
  | @step z y hz l a ih =>
    by_cases e : pos z = k
    · rcases ih with h | ⟨w, hw, h1, h2⟩
      · exact .inr ⟨z, e, h, .one a⟩
      · obtain ⟨b, hb⟩ := h1.last
        obtain ⟨c, hc⟩ := hz.last
        have : w = z := inj w z b c hb hc (by omega)
        subst this
        exact .inr ⟨w, hw, h1, .one a⟩
    · rcases ih with h | ⟨w, hw, h1, h2⟩
      · exact .inl (.step h (by omega) a)
      · exact .inr ⟨w, hw, h1, .step h2 (by omega) a⟩
theorem floyd (inj : ∀ x y a b, adj a x = true → adj b y = true → pos x = pos y → x = y) : ∀ {k : Nat} {x y : Int}, Rch adj (fun z => pos z < k) x y →
    adj x y = true ∨ ∃ w, pos w < k ∧ Rch adj (fun z => pos z < pos w) x w ∧ Rch adj (fun z => pos z < pos w) w y
  | 0, x, y, h => by
    cases h with
    | one a => exact .inl a
    | step _ l _ => exact absurd l (Nat.not_lt_zero _)
  | k + 1, x, y, h => by
    rcases floyd1 inj h with h | ⟨w, hw, h1, h2⟩
    · rcases floyd inj h with h | ⟨w, hw, h1, h2⟩
      · exact .inl h
      · exact .inr ⟨w, by omega, h1, h2⟩
    · exact .inr ⟨w, by omega, by rw [hw]; exact h1, by rw [hw]; exact h2⟩
end
def PairP (ls : List Lnk) (os : List Int) (u v : Int) : Prop := posOf u os < posOf v os ∧ Rch (adj0 ls) (fun z => posOf z os < posOf u os) u v
theorem pos_inj {os : List Int} {x y : Int} (hx : x ∈ os) (hy : y ∈ os) (h : posOf x os = posOf y os) : x = y := by
  have h1 := posOf_lt hx
  rw [h, posOf_lt hy] at h1
  exact (Option.some.inj h1).symm
theorem pos_len {os : List Int} {x : Int} (hx : x ∈ os) : posOf x os < os.length := (List.getElem?_eq_some_iff.mp (posOf_lt hx)).1
section
variable {N : Net} {os : List Int} {u v w : Int}
theorem adj_inj (ok : NetOk N) (oo : OrdOk N.n os) : ∀ x y a b, adj0 N.ls a x = true → adj0 N.ls b y = true → posOf x os = posOf y os → x = y := fun x y a b h1 h2 h3 =>
  pos_inj (oo.mem.mpr (adj0_in ok h1).2.1) (oo.mem.mpr (adj0_in ok h2).2.1) h3
theorem PairP.ins (ok : NetOk N) (h : PairP N.ls os u v) : (0 ≤ u ∧ u < N.n) ∧ (0 ≤ v ∧ v < N.n) := by
  obtain ⟨a, ha⟩ := h.2.last
  obtain ⟨b, hb⟩ := h.2.first
  exact ⟨(adj0_in ok hb).1, (adj0_in ok ha).2.1⟩
theorem PairP.ne (h : PairP N.ls os u v) : u ≠ v := fun e => by
  have := h.1
  rw [e] at this
  exact Nat.lt_irrefl _ this
theorem pair_clique (ok : NetOk N) (h1 : PairP N.ls os u v) (h2 : PairP N.ls os u w) (hvw : posOf v os < posOf w os) : PairP N.ls os v w := by
  have m : ∀ z, posOf z os < posOf u os → posOf z os < posOf v os := fun z hz => Nat.lt_trans hz h1.1
  exact ⟨hvw, ((h1.2.sym (adj0_ok ok)).mono m).trans h1.1 (h2.2.mono m)⟩
theorem pair_rec (ok : NetOk N) (oo : OrdOk N.n os) : PairP N.ls os u v ↔ posOf u os < posOf v os ∧ (adj0 N.ls u v = true ∨ ∃ w, PairP N.ls os w u ∧ PairP N.ls os w v) := by
  constructor
  · intro h
    refine ⟨h.1, ?_⟩
    rcases floyd (adj_inj ok oo) h.2 with h2 | ⟨w, hw, h1, h2⟩
    · exact .inl h2
    · exact .inr ⟨w, ⟨hw, h1.sym (adj0_ok ok)⟩, ⟨Nat.lt_trans hw h.1, h2⟩⟩
  · rintro ⟨hl, h | ⟨w, h1, h2⟩⟩
    · exact ⟨hl, .one h⟩
    · have m : ∀ z, posOf z os < posOf w os → posOf z os < posOf u os := fun z hz => Nat.lt_trans hz h1.1
      exact ⟨hl, ((h1.2.sym (adj0_ok ok)).mono m).trans h1.1 (h2.2.mono m)⟩
theorem pair_link (ok : NetOk N) (oo : OrdOk N.n os) (h : adj0 N.ls u v = true) : PairP N.ls os u v ∨ PairP N.ls os v u := by
  have hi := adj0_in ok h
  have hne : posOf u os ≠ posOf v os := fun e => hi.2.2 (pos_inj (oo.mem.mpr hi.1) (oo.mem.mpr hi.2.1) e)
  rcases Nat.lt_or_gt_of_ne hne with h1 | h1
  · exact .inl ⟨h1, .one h⟩
  · exact .inr ⟨h1, .one (by rw [adj0_sym]; exact h)⟩
end
open Classical in
/-- the upper neighbours of a place, in the order of ranks -/
noncomputable def upP (ls : List Lnk) (os : List Int) (u : Int) : List Int := os.filter fun v => decide (PairP ls os u v)
section
variable {N : Net} {ls : List Lnk} {os : List Int} {u v w : Int}
open Classical in
theorem mem_up : v ∈ upP ls os u ↔ v ∈ os ∧ PairP ls os u v := by
  unfold upP
  rw [List.mem_filter, decide_eq_true_eq]
theorem mem_upP (ok : NetOk N) (oo : OrdOk N.n os) : v ∈ upP N.ls os u ↔ PairP N.ls os u v := by
  rw [mem_up]
  exact ⟨fun h => h.2, fun h => ⟨oo.mem.mpr (h.ins ok).2, h⟩⟩
open Classical in
theorem up_eq {fs : List Int} (oo : OrdOk N.n os) (h : ∀ v ∈ os, v ∈ fs ↔ PairP N.ls os u v) : os.filter (fun v => decide (v ∈ fs)) = upP N.ls os u := by
  unfold upP
  refine List.filter_congr fun v hv => ?_
  rw [Bool.eq_iff_iff, decide_eq_true_eq, decide_eq_true_eq]
  exact h v hv
theorem up_nodup (oo : OrdOk N.n os) : (upP N.ls os u).Nodup := oo.nodup.filter _
theorem up_len (ok : NetOk N) (oo : OrdOk N.n os) : (upP N.ls os u).length ≤ 40 := by
  have e := oo.len
  have := ok.n40
  have h2 : (upP N.ls os u).length ≤ os.length := List.length_filter_le _ _
  omega
theorem pos_sorted {os : List Int} (h : os.Nodup) : os.Pairwise fun a b => posOf a os < posOf b os := by
  rw [List.pairwise_iff_getElem]
  intro i j hi hj hij
  rw [posOf_get h (List.getElem?_eq_getElem hi), posOf_get h (List.getElem?_eq_getElem hj)]
  exact hij
theorem up_sorted (oo : OrdOk N.n os) : (upP N.ls os u).Pairwise fun a b => posOf a os < posOf b os := (pos_sorted oo.nodup).filter _
end
/-! ### the program's ranks -/
def spRk (K : PySem.W.Frag) (CN : Addr) : Sp := fun vs H Q E => ∃ (p : Addr) (os : List Int), vs = [.ref p] ∧ SqL K H p (os.map V.int) ∧ os.length ≤ 100 ∧
  match badAt os with
  | some k => RaiseTo E H CN (k : Nat)
  | none => ∀ H' q, Same H H' → H q = none → H' q = some (.lst ((rk os).map V.int)) → Q (.ref q) H'
theorem posOf_new : ∀ {os : List Int} {i : Nat} {x : Int}, os[i]? = some x → x ∉ os.take i → posOf x os = i
  | [], _, _, h, _ => by simp at h
  | y :: ys, 0, x, h, _ => if_pos (Option.some.inj h)
  | y :: ys, i + 1, x, h, hn => by
    have h : ys[i]? = some x := h
    rw [List.take_succ_cons, List.mem_cons, not_or] at hn
    show (if y = x then 0 else posOf x ys + 1) = i + 1
    rw [if_neg (fun z => hn.1 z.symm), posOf_new h hn.2]
def fnd (os : List Int) (i : Nat) : List V := (rng os.length).map fun p => if p ∈ os.take i then V.int (posOf p os) else V.non
theorem fnd_len {os : List Int} {i : Nat} : (fnd os i).length = os.length := by
  unfold fnd
  rw [List.length_map, len_rng, Int.toNat_natCast]
theorem fnd_zero {os : List Int} : fnd os 0 = List.replicate os.length V.non := by
  refine List.ext_getElem (by rw [fnd_len, List.length_replicate]) fun p h1 h2 => ?_
  simp only [fnd, List.getElem_map, List.take_zero, List.not_mem_nil, if_false, List.getElem_replicate]
theorem fnd_get {os : List Int} {i : Nat} {x : Int} (h0 : 0 ≤ x) (h1 : x < (os.length : Int)) : (fnd os i)[x.toNat]? = some (if x ∈ os.take i then V.int (posOf x os) else V.non) := by
  have hl : x.toNat < (rng os.length).length := by
    rw [len_rng, Int.toNat_natCast]
    omega
  unfold fnd
  rw [List.getElem?_map, List.getElem?_eq_getElem hl, rng_get hl, show ((x.toNat : Nat) : Int) = x by omega]
  rfl
theorem fnd_succ {os : List Int} {i : Nat} {x : Int} (hx : 0 ≤ x ∧ x < (os.length : Int)) (h : os[i]? = some x) (hn : x ∉ os.take i) : fnd os (i + 1) = (fnd os i).set x.toNat (V.int i) := by
  refine List.ext_getElem (by rw [List.length_set, fnd_len, fnd_len]) fun p h1 h2 => ?_
  rw [List.getElem_set]
  simp only [fnd, List.getElem_map, rng_get]
  rw [take_snoc h]
  by_cases e : x.toNat = p
  · have e2 : (p : Int) = x := by omega
    rw [if_pos e, e2, if_pos (List.mem_append.mpr (.inr (List.mem_singleton.mpr rfl))), posOf_new h hn]
  · have e2 : ¬ (p : Int) = x := fun z => e (by omega)
    rw [if_neg e]
    by_cases c : (p : Int) ∈ os.take i
    · rw [if_pos c, if_pos (List.mem_append.mpr (.inl c))]
    · rw [if_neg c, if_neg (fun z => by
        rcases List.mem_append.mp z with z | z
        · exact c z
        · exact e2 (List.mem_singleton.mp z))]
theorem fnd_end {os : List Int} (ok : OrdOk os.length os) : fnd os os.length = (rk os).map V.int := by
  unfold fnd rk
  rw [List.take_length, List.map_map]
  exact List.map_congr_left fun p hp => if_pos (ok.mem.mpr (mem_rng.mp hp))
theorem flat_rep {x : V} : ∀ n : Nat, (List.replicate n [x]).flatten = List.replicate n x
  | 0 => rfl
  | n + 1 => by
    rw [List.replicate_succ, List.flatten_cons, flat_rep n]
    rfl
theorem vn_rep {σ : L2.St} {H : Hp} {ta tb : TE} {x : V} {n : Nat} (ha : Vl ta σ H x) (hb2 : ∀ H', Same H H' → Vl tb σ H' (.int (n : Nat))) (hn : n ≤ 1000) : Vn (tOp rRep (tLst (tCons ta tNil)) tb) σ H (List.replicate n x) := fun Q q =>
  ha _ ⟨by show 1 ≤ sizeLine; decide, fun p np => hb2 _ (same_upd np) _ ⟨p, _, _, rfl, rfl, upd_same, by omega, by omega, by
    rw [Int.toNat_natCast]
    show 1 * n ≤ sizeLine
    rw [Nat.one_mul]
    exact Nat.le_trans hn (by decide), fun t nt => by
    rw [Int.toNat_natCast, flat_rep]
    exact q t _ ((same_upd np).trans (same_upd nt)) (Same.free (same_upd np) nt) upd_same⟩⟩
abbrev sRanks : Stmt := topS 10
theorem scRanks : FnScope ["order", "n", "found", "rank", "place"] ["order"] (defScope sRanks) := ⟨rfl, rfl, rfl, by decide +kernel, rfl, by decide +kernel, by decide +kernel⟩
section
variable {P : Program} {w : World} {K : PySem.W.Frag} {mg : Str → Option Value} {base : Heap} {CN fI : Addr}
theorem ok_ranks {f : Addr} {fd : FuncData} (F : Fun K "ranks" "ranks" sRanks f fd) (hN : PySem.LowX.LowTxt K mg "NotAnOrder" CN fI) (ml : mg "len" = none) (me : mg "enumerate" = none) : FnOk P w K mg base (L2.CX P w) 2 f fd ["order"] (spRk K CN) := by
  refine F.okX scRanks (fun vs H Q E h => ?_) (fun cdv A outer s H vs Q E hr h => ?_)
  · obtain ⟨p, os, rfl, _⟩ := h
    rfl
  · obtain ⟨p, os, rfl, hS, hl, q⟩ := h
    refine ⟨_, pss_cons (ps_set (i := 1) scRanks.nd rfl (.inl rfl) (pe_callB call_len_seq (by rfl) ml PySem.boot_len (pa_cons (pv 0) pa_nil)))
      (pss_cons (ps_set (i := 2) scRanks.nd rfl (.inl rfl) (pe_op op_rep (pe_lst (pa_cons pe_non pa_nil)) (pv 1)))
      (pss_cons (ps_for (passes_of rfl) rfl (pi_enum (by rfl) me (pa_cons (pv 0) pa_nil)) (pg_tup rfl (pgs_cons (pg_name (i := 3) scRanks.nd rfl (.inl rfl)) (pgs_cons (pg_name (i := 4) scRanks.nd rfl (.inl rfl)) pgs_nil)))
      (pss_cons (ps_if (PW.pt (pw_or (pt_not (pt_chain op_le op_lt pe_int (pv 4) (pv 1))) (pw_or1 (pt_cmpR op_notN (pe_ix ix_list (pv 2) (pv 4) (fun _ _ => rfl)) pe_non (nomark _)))))
        (pss_one (ps_raiseLow rfl hN hr (takes_of rfl rfl rfl rfl) (by exact (pa_cons (pv 3) pa_nil))))
        pss_nil)
        (pss_one (ps_asg (pv 3) (pg_sub (pv 2) (pv 4) set_list)))))
      (pss_one (ps_ret (pv 2))))), ?_⟩
    refine q_asg (vl_lenI (vl_var rfl) hS) ?_
    refine q_asgN (xs := fnd os 0) (by
      rw [fnd_zero]
      exact vn_rep vl_c (fun _ _ => vl_var rfl) (by omega)) fun o H2 s2 no ho => ?_
    refine ⟨.ref p, rfl, p, _, rfl, s2.seq hS, for_en (xs := os.map V.int)
      (fun i σ H4 => ∃ y3 y4, σ = [some (.ref p), some (.int os.length), some (.ref o), y3, y4] ∧ Same H (but H4 o) ∧ H4 o = some (.lst (fnd os i)) ∧ badAt os = fb os.length (os.take i) (os.drop i) i)
      ⟨none, none, rfl, same_but s2 no, ho, rfl⟩ (fun i σ H4 hP => ?_) (fun i x T2 σ H4 hi hP nT2 => ?_) (fun σ H4 hP => ?_)⟩
    · obtain ⟨_, _, _, s4, _⟩ := hP
      exact (s4.trans but_same).seq hS
    · obtain ⟨y3, y4, rfl, s4, ho4, eb⟩ := hP
      have hi2 : i < os.length := by
        have := (List.getElem?_eq_some_iff.mp hi).1
        rw [List.length_map] at this
        exact this
      have hg : os[i]? = some os[i] := List.getElem?_eq_getElem hi2
      rw [List.getElem?_map, hg] at hi
      cases hi
      have ed : os.drop i = os[i] :: os.drop (i + 1) := List.drop_eq_getElem_cons hi2
      rw [ed] at eb
      generalize os[i] = x at hg eb ⊢
      have eb : badAt os = if (0 ≤ x ∧ x < (os.length : Int)) ∧ x ∉ os.take i then fb os.length (os.take i ++ [x]) (os.drop (i + 1)) (i + 1) else some i := eb
      have sH := s4.trans but_same
      refine ⟨T2, _, rfl, .of upd_same, rfl, _, _, rfl, _, _, rfl, rfl, ?_⟩
      have s6 : Same H4 (upd H4 T2 (.tup [.int (i : Nat), .int x])) := same_upd nT2
      have ho5 := s6 _ _ ho4
      have s46 : Same (but H4 o) (but (upd H4 T2 (.tup [.int (i : Nat), .int x])) o) := but_mono s6
      generalize upd H4 T2 (.tup [.int (i : Nat), .int x]) = H5 at s6 ho5 s46 ⊢
      refine q_when (b := !(decide ((0 : Int) ≤ x) && decide (x < (os.length : Int))) || decide (x ∈ os.take i)) ?_ (fun hb => ?_) (fun hb => ?_)
      · refine an_or (an_not (an_test (vl_chainI vl_c (vl_var rfl) (vl_var rfl)))) fun hk => ?_
        rw [Bool.not_eq_false', Bool.and_eq_true, decide_eq_true_eq, decide_eq_true_eq] at hk
        have g := atI_nat (fnd_get (i := i) hk.1 hk.2)
        rw [show ((x.toNat : Nat) : Int) = x by omega] at g
        refine (an_test (vl_notN (vl_ixL (K := K) (vl_var rfl) (vl_var rfl) (.of ho5) g))).is ?_
        by_cases c : x ∈ os.take i
        · rw [if_pos c, decide_eq_true c]
          rfl
        · rw [if_neg c, decide_eq_false c]
          rfl
      · rw [if_neg (fun c => by
          rw [decide_eq_true c.1.1, decide_eq_true c.1.2, decide_eq_false c.2] at hb
          exact absurd hb (by decide))] at eb
        rw [eb] at q
        exact raise_now (va_cons (vl_var rfl) va_nil) (q.to (sH.trans s6))
      · rw [Bool.or_eq_false_iff, Bool.not_eq_false', Bool.and_eq_true, decide_eq_true_eq, decide_eq_true_eq, decide_eq_false_iff_not] at hb
        rw [if_pos hb] at eb
        refine ⟨.int i, rfl, .ref o, rfl, .int x, rfl, o, _, x, x.toNat, rfl, rfl, ho5, ?_, ?_⟩
        · unfold ixN
          rw [if_pos hb.1.1, fnd_len, if_pos (by omega)]
        · refine ⟨_, _, rfl, ?_, ?_, ?_⟩
          · rw [but_upd]
            exact s4.trans s46
          · rw [upd_same, fnd_succ hb.1 hg hb.2]
          · rw [eb, take_snoc hg]
    · obtain ⟨y3, y4, rfl, s4, ho4, eb⟩ := hP
      rw [List.length_map] at ho4 eb
      rw [List.take_length, List.drop_length] at eb
      have eb : badAt os = none := eb
      rw [eb] at q
      rw [fnd_end (bad_none eb)] at ho4
      exact g_ret (vl_var rfl) (q H4 o (s4.trans but_same) no ho4)
end
/-! ### neighbours of the program -/
abbrev sNear : Stmt := topS 7
theorem scNear : FnScope ["net", "a", "n", "links", "found", "link"] ["net", "a"] (defScope sNear) := ⟨rfl, rfl, rfl, by decide +kernel, rfl, by decide +kernel, by decide +kernel⟩
def spNb (K : PySem.W.Frag) (CP : Addr) : Sp := fun vs H Q E => ∃ (v : V) (a : Int) (N : Net), vs = [v, .int a] ∧ Dp K H v (netD N) ∧ N.ls.length ≤ 1700 ∧
  (¬ (0 ≤ a ∧ a < N.n) → RaiseTo E H CP a) ∧ (0 ≤ a ∧ a < N.n → ∀ H' p, Same H H' → H p = none → H' p = some (.lst ((nearOf a N.ls).map V.int)) → Q (.ref p) H')
section
variable {P : Program} {w : World} {K : PySem.W.Frag} {mg : Str → Option Value} {base : Heap} {CP fI : Addr}
theorem ok_near {f : Addr} {fd : FuncData} (F : Fun K "neighbours" "neighbours" sNear f fd) (cCp : KalX P w K mg base 2 "check_places" ["n", "places"] (spChkPl K CP)) : FnOk P w K mg base (L2.CX P w) 3 f fd ["net", "a"] (spNb K CP) := by
  refine F.okX scNear (fun vs H Q E h => ?_) (fun cdv A outer s H vs Q E hr h => ?_)
  · obtain ⟨v, a, N, rfl, _⟩ := h
    rfl
  · obtain ⟨v, a, N, rfl, hN, hlen, q1, q2⟩ := h
    refine ⟨_, pss_cons (ps_asg (pv 0) (pg_tup rfl (pgs_cons (pg_name (i := 2) scNear.nd rfl (.inl rfl)) (pgs_cons (pg_name (i := 3) scNear.nd rfl (.inl rfl)) pgs_nil))))
      (pss_cons (ps_expr (pe_kx (E := E) cCp hr (by decide) (by rfl) (takes_of rfl rfl rfl rfl) (pa_cons (pv 2) (pa_cons (pe_lst (pa_cons (pv 1) pa_nil)) pa_nil))))
      (pss_cons (ps_set (i := 4) scNear.nd rfl (.inl rfl) (pe_lst pa_nil))
      (pss_cons (ps_for (passes_of rfl) rfl (pi_list (pv 3)) (pg_name (i := 5) scNear.nd rfl (.inl rfl))
        (pss_one (ps_if (pt_cmpR op_eq (pe_ix ix_tup (pv 5) pe_int (fun _ _ => rfl)) (pv 1) (nomark _))
          (pss_one (ps_expr (pe_bm PySem.F.plainAttrs_list PySem.F.slot_list_append PySem.F.type_list_append mt_append (pv 4) (pa_cons (pe_ix ix_tup (pv 5) pe_int (fun _ _ => rfl)) pa_nil))))
          (pss_one (ps_if (pt_cmpR op_eq (pe_ix ix_tup (pv 5) pe_int (fun _ _ => rfl)) (pv 1) (nomark _))
            (pss_one (ps_expr (pe_bm PySem.F.plainAttrs_list PySem.F.slot_list_append PySem.F.type_list_append mt_append (pv 4) (pa_cons (pe_ix ix_tup (pv 5) pe_int (fun _ _ => rfl)) pa_nil)))) pss_nil)))))
      (pss_one (ps_ret (pv 4)))))), ?_⟩
    obtain ⟨p, c, xs, rfl, hp, hc, hx⟩ := Dp.net_inv hN
    refine q_asgT2 (vl_var rfl) hp ?_
    refine q_chk1 (n := N.n) (a := a) (vl_var rfl) (vl_var rfl) (fun h => ?_) (fun h H0 s0 => ?_)
    · exact q1 h
    · have q := q2 h
      replace hp := seqT s0 hp
      replace hc := s0.seq hc
      replace hx := DpAll.to hx s0
      refine q_lnew fun o no => ?_
      refine q_forLk (j := 5) (Hb := H0) (vl_var rfl) hc hx (same_upd no)
        (fun i σ H3 => ∃ y5, σ = [some (.ref p), some (.int a), some (.int N.n), some (.ref c), some (.ref o), y5] ∧ Same H0 H3 ∧ H3 o = some (.lst ((nearOf a (N.ls.take i)).map V.int)))
        ⟨none, rfl, same_upd no, upd_same⟩ (fun i σ H3 hP => ?_) (fun i l t σ H3 hl ht hP => ?_) (fun σ H3 hP => ?_)
      · obtain ⟨_, _, s3, _⟩ := hP
        exact s3
      · obtain ⟨y5, rfl, s3, ho⟩ := hP
        have hi := (List.getElem?_eq_some_iff.mp hl).1
        have hsz : ((nearOf a (N.ls.take i)).map V.int).length < sizeLine := by
          rw [List.length_map]
          refine Nat.lt_of_le_of_lt (List.length_filterMap_le _ _) (Nat.lt_of_le_of_lt (m := 10000) ?_ (by decide))
          rw [List.length_take]
          omega
        have en : nearOf a (N.ls.take (i + 1)) = nearOf a (N.ls.take i) ++ (nearF a l).toList := by
          unfold nearOf
          rw [take_snoc hl, List.filterMap_append]
          cases e : nearF a l <;> simp [e]
        have e0 : Vl (tOp (rIxT K) (tVar 5) (tC (.int 0))) [some (.ref p), some (.int a), some (.int N.n), some (.ref c), some (.ref o), some (.ref t)] H3 (.int l.a) := vl_ixT (vl_var rfl) vl_c (seqT s3 ht) (atI_nat (j := 0) rfl)
        have e1 : Vl (tOp (rIxT K) (tVar 5) (tC (.int 1))) [some (.ref p), some (.int a), some (.int N.n), some (.ref c), some (.ref o), some (.ref t)] H3 (.int l.b) := vl_ixT (vl_var rfl) vl_c (seqT s3 ht) (atI_nat (j := 1) rfl)
        refine g_if (b := decide (V.int l.a = V.int a)) ?_ (fun h => ?_) (fun h => ?_)
        · exact an_test (vl_eq e0 (vl_var rfl) rfl)
        · have z := V.int.inj (of_decide_eq_true h)
          have ef : nearF a l = some l.b := if_pos z
          refine g_app (vl_var rfl) ho e1 hsz ⟨_, rfl, same_upd' s3 no, ?_⟩
          rw [upd_same, en, ef, List.map_append]
          rfl
        · have z : ¬ l.a = a := fun y => of_decide_eq_false h (congrArg V.int y)
          refine g_when (b := decide (V.int l.b = V.int a)) ?_ (fun h2 => ?_) (fun h2 => ?_)
          · exact an_test (vl_eq e1 (vl_var rfl) rfl)
          · have z2 := V.int.inj (of_decide_eq_true h2)
            have ef : nearF a l = some l.a := by
              unfold nearF
              rw [if_neg z, if_pos z2]
            refine g_app (vl_var rfl) ho e0 hsz ⟨_, rfl, same_upd' s3 no, ?_⟩
            rw [upd_same, en, ef, List.map_append]
            rfl
          · have ef : nearF a l = none := by
              unfold nearF
              rw [if_neg z, if_neg (fun y => of_decide_eq_false h2 (congrArg V.int y))]
            refine ⟨_, rfl, s3, ?_⟩
            rw [ho, en, ef]
            simp
      · obtain ⟨y5, rfl, s3, ho⟩ := hP
        rw [List.take_length] at ho
        exact g_ret (vl_var rfl) (q H3 o (s0.trans s3) (Same.free s0 no) ho)
end
end Ovc
namespace CpCmb
def cmbs {α : Type} : List α → List (α × α)
  | [] => []
  | x :: xs => xs.map (fun y => (x, y)) ++ cmbs xs
theorem cmbs_map {α β : Type} (f : α → β) : ∀ xs : List α, cmbs (xs.map f) = (cmbs xs).map fun p => (f p.1, f p.2)
  | [] => rfl
  | x :: xs => by
    show (xs.map f).map (fun y => (f x, y)) ++ cmbs (xs.map f) = (xs.map (fun y => (x, y)) ++ cmbs xs).map fun p => (f p.1, f p.2)
    rw [List.map_append, cmbs_map f xs, List.map_map, List.map_map]
    rfl
theorem mem_cmbs_lt {α : Type} : ∀ (xs : List α) (p : α × α), p ∈ cmbs xs → p.1 ∈ xs ∧ p.2 ∈ xs
  | x :: xs, p, h => by
    rcases List.mem_append.mp h with h | h
    · obtain ⟨y, hy, rfl⟩ := List.mem_map.mp h
      exact ⟨List.mem_cons_self, List.mem_cons_of_mem _ hy⟩
    · have := mem_cmbs_lt xs p h
      exact ⟨List.mem_cons_of_mem _ this.1, List.mem_cons_of_mem _ this.2⟩
def nx2 (n : Nat) (p : Nat × Nat) : Option (Nat × Nat) :=
  if p.2 ≠ n - 1 then some (p.1, p.2 + 1) else if p.1 ≠ n - 2 then some (p.1 + 1, p.1 + 2) else none
theorem nx2_run {n : Nat} : ∀ (m a k : Nat) (p : Nat × Nat), a + m = n → (cmbs (List.range' a m))[k]? = some p → nx2 n p = (cmbs (List.range' a m))[k + 1]?
  | 0, a, k, p, _, h => by cases h
  | m + 1, a, k, p, e, h => by
    have e1 : cmbs (List.range' a (m + 1)) = (List.range' (a + 1) m).map (fun y => (a, y)) ++ cmbs (List.range' (a + 1) m) := by
      rw [List.range'_succ] <;> rfl
    rw [e1] at h ⊢
    have hl : ((List.range' (a + 1) m).map fun y => (a, y)).length = m := by rw [List.length_map, List.length_range']
    by_cases hk : k < m
    · rw [List.getElem?_append_left (by rw [hl]; exact hk), List.getElem?_map, List.getElem?_range' hk] at h
      have hp : p = (a, a + 1 + 1 * k) := (Option.some.inj h).symm
      subst hp
      by_cases hk1 : k + 1 < m
      · rw [List.getElem?_append_left (by rw [hl]; exact hk1), List.getElem?_map, List.getElem?_range' hk1]
        show (if a + 1 + 1 * k ≠ n - 1 then some (a, a + 1 + 1 * k + 1) else _) = _
        rw [if_pos (by omega)]
        show some (a, a + 1 + 1 * k + 1) = some (a, a + 1 + 1 * (k + 1))
        congr 2
      · rw [List.getElem?_append_right (by rw [hl]; omega), hl]
        have ek : k + 1 - m = 0 := by omega
        rw [ek]
        show (if a + 1 + 1 * k ≠ n - 1 then _ else if a ≠ n - 2 then some (a + 1, a + 2) else none) = _
        rw [if_neg (by omega)]
        by_cases hm : m = 1
        · subst hm
          rw [if_neg (by omega)] <;> rfl
        · rw [if_pos (by omega)]
          obtain ⟨m2, rfl⟩ : ∃ m2, m = m2 + 2 := ⟨m - 2, by omega⟩
          rw [List.range'_succ, List.range'_succ] <;> rfl
    · rw [List.getElem?_append_right (by rw [hl]; omega), hl] at h
      rw [List.getElem?_append_right (by rw [hl]; omega), hl, show k + 1 - m = k - m + 1 by omega]
      exact nx2_run m (a + 1) (k - m) p (by omega) h
theorem nx2_at {n k : Nat} {p : Nat × Nat} (h : (cmbs (List.range n))[k]? = some p) : nx2 n p = (cmbs (List.range n))[k + 1]? := by
  rw [List.range_eq_range'] at h ⊢
  exact nx2_run n 0 k p (by omega) h
theorem cmbs_first {n : Nat} (h : 2 ≤ n) : (cmbs (List.range n))[0]? = some (0, 1) := by
  obtain ⟨m, rfl⟩ : ∃ m, n = m + 2 := ⟨n - 2, by omega⟩
  rw [List.range_eq_range', List.range'_succ, List.range'_succ] <;> rfl
theorem cmbs_none {n : Nat} (h : n < 2) : cmbs (List.range n) = [] := by
  match n, h with
  | 0, _ => rfl
  | 1, _ => rfl
theorem map_range_get {α : Type} (d : α) (xs : List α) : (List.range xs.length).map (fun i => xs.getD i d) = xs := by
  apply List.ext_getElem?
  intro i
  rw [List.getElem?_map]
  by_cases h : i < xs.length
  · rw [List.getElem?_range h, List.getElem?_eq_getElem h]
    show some (xs.getD i d) = _
    rw [List.getD_eq_getElem?_getD, List.getElem?_eq_getElem h] <;> rfl
  · rw [List.getElem?_eq_none (by rw [List.length_range]; omega), List.getElem?_eq_none (by omega)] <;> rfl
theorem cmbs_ix {α : Type} (d : α) (xs : List α) : cmbs xs = (cmbs (List.range xs.length)).map fun p => (xs.getD p.1 d, xs.getD p.2 d) := by
  exact (congrArg cmbs (map_range_get d xs)).symm.trans (cmbs_map _ _)
theorem cmbs_len {α : Type} (xs : List α) : (cmbs xs).length = (cmbs (List.range xs.length)).length := by
  cases xs with
  | nil => rfl
  | cons x xs => rw [cmbs_ix x, List.length_map]
end CpCmb
namespace CpCmb
open PySem PySem.Spec
open Sem (wp)
theorem mro_cmb : mroOf (.type "itertools.combinations") = pure [.type "itertools.combinations", .type "object"] := by rw [mroOf_type]; kernel_rfl
theorem lookup_cmb_new : typeLookup (.type "itertools.combinations") "__new__" = pure (some (.builtin "itertools.combinations.__new__")) := by rw [typeLookup_type, builtinLookup_eq_fast]; kernel_rfl
theorem slot_cmb_init : Slot "itertools.combinations" "__init__" "object.__init__" :=
  .of (owner := "object") (n := "__init__") (by rw [typeLookup_type, builtinLookup_eq_fast]; kernel_rfl) (by decide +kernel) (by decide +kernel) (by decide +kernel)
    (by first | exact .inl (by decide +kernel) | exact .inr (by decide +kernel)) (by rw [isSubtype_type]; kernel_rfl)
theorem sub_cmb : isSubtype (.type "itertools.combinations") (.type "itertools.combinations") = pure true := by rw [isSubtype_type]; kernel_rfl
theorem called_cmb : TypeCalled "itertools.combinations" "itertools.combinations.__new__" "object.__init__" :=
  ⟨by decide +kernel, by decide +kernel, ⟨_, _, mro_cmb⟩, madeBy_type mro_cmb lookup_cmb_new (by decide +kernel), by decide +kernel, sub_cmb, slot_cmb_init⟩
theorem plain_cmb_new : plainId "itertools.combinations.__new__" = true := by decide +kernel
theorem typeCall_cmb_2 (a b : Value) : checkTypeCall "itertools.combinations" ⟨[a, b], []⟩ = pure () := by kernel_rfl
theorem newCall_cmb_2 (a b : Value) : checkBuiltinCall "itertools.combinations.__new__" ⟨[.type "itertools.combinations", a, b], []⟩ = pure () := by kernel_rfl
theorem entry_cmb_new : entryFor table "itertools.combinations.__new__" = some Builtin.«itertools.combinations.__new__» := entryFor_of_tree (by kernel_rfl)
theorem slot_cmb_iter : Slot "itertools.combinations" "__iter__" "itertools.combinations.__iter__" :=
  .of (owner := "itertools.combinations") (n := "__iter__") (by rw [typeLookup_type, builtinLookup_eq_fast]; kernel_rfl) (by decide +kernel) (by decide +kernel) (by decide +kernel)
    (by first | exact .inl (by decide +kernel) | exact .inr (by decide +kernel)) sub_cmb
theorem slot_cmb_next : Slot "itertools.combinations" "__next__" "itertools.combinations.__next__" :=
  .of (owner := "itertools.combinations") (n := "__next__") (by rw [typeLookup_type, builtinLookup_eq_fast]; kernel_rfl) (by decide +kernel) (by decide +kernel) (by decide +kernel)
    (by first | exact .inl (by decide +kernel) | exact .inr (by decide +kernel)) sub_cmb
theorem entry_cmb_iter : entryFor table "itertools.combinations.__iter__" = some Builtin.«dict_keyiterator.__iter__» :=
  entryFor_alias (id' := "dict_keyiterator.__iter__") (by kernel_rfl) (by first | rfl | decide +kernel | (unfold String.splitOn; simp +decide [String.splitOnAux])) (by decide +kernel) (by kernel_rfl)
theorem entry_cmb_next : entryFor table "itertools.combinations.__next__" = some Builtin.«itertools.combinations.__next__» := entryFor_of_tree (by kernel_rfl)
theorem owner_cmb : Manifest.owners.lookup (String.ofList ['s', 'n', 'o', 'i', 't', 'a', 'n', 'i', 'b', 'm', 'o', 'c', '.', 's', 'l', 'o', 'o', 't', 'r', 'e', 't', 'i'].reverse) = some Manifest.sig_itertools_combinations := by kernel_rfl
theorem args_cmb_iter (a : Value) : argsOk "itertools.combinations.__iter__" ⟨[a], []⟩ := by
  unfold argsOk; rw [signature?_of (id := "itertools.combinations.__iter__") (n := ['_', '_', 'r', 'e', 't', 'i', '_', '_']) (o := ['s', 'n', 'o', 'i', 't', 'a', 'n', 'i', 'b', 'm', 'o', 'c', '.', 's', 'l', 'o', 'o', 't', 'r', 'e', 't', 'i']) (by kernel_rfl) owner_cmb]; kernel_rfl
theorem args_cmb_next (a : Value) : argsOk "itertools.combinations.__next__" ⟨[a], []⟩ := by
  unfold argsOk; rw [signature?_of (id := "itertools.combinations.__next__") (n := ['_', '_', 't', 'x', 'e', 'n', '_', '_']) (o := ['s', 'n', 'o', 'i', 't', 'a', 'n', 'i', 'b', 'm', 'o', 'c', '.', 's', 'l', 'o', 'o', 't', 'r', 'e', 't', 'i']) (by kernel_rfl) owner_cmb]; kernel_rfl
theorem noDict_cmb : typeHasDict (.type "itertools.combinations") = false := by decide +kernel

/-- the object: the tuple it goes over, where it stands (0 new, 1 going, 2 at its end), the last result, the two numbers -/
abbrev IsCmb (h : Heap) (it pool : Addr) (st : Int) (last : Value) (i j : Nat) : Prop := h.get? it = some { cls := .type "itertools.combinations", dict := none, data := .fields #[.ref pool, .int st 0, last, .int i 0, .int j 0], slots := #[] }
abbrev IsPool (h : Heap) (pool : Addr) (vs : Array Value) : Prop := h.get? pool = some { cls := .type "tuple", data := .seq vs }
section
variable {prog : Program} {w : World} {A : Around} {E : Value → Shared → Prop} {s : Shared}
theorem code_cmb_new {l : Addr} {vs : List Value} {t : Tok} {Q₁ : Value → Shared → Prop} (hl : s.heap.IsList l vs.toArray) (hsz : vs.length ≤ sizeLine)
    (h : ∀ h' it pool, s.heap.objs.size ≤ pool → s.heap.objs.size ≤ it → pool ≠ it → IsPool h' pool vs.toArray → IsCmb h' it pool (if 2 > vs.length then 2 else 0) .none 0 1 → (∀ b o, s.heap.get? b = some o → h'.get? b = some o) → Q₁ (.ref it) { s with heap := h' }) :
    codeAny (model prog w) A (.call (.builtin "itertools.combinations.__new__") ⟨[.type "itertools.combinations", .ref l, .int 2 t], []⟩) (wants Q₁ E) s := by
  refine codeAny_of_tree ?_
  show wpAny _ A.in1 (do checkBuiltinCall "itertools.combinations.__new__" ⟨[.type "itertools.combinations", .ref l, .int 2 t], []⟩; again (.builtin "itertools.combinations.__new__" ⟨[.type "itertools.combinations", .ref l, .int 2 t], []⟩)) _ _ s
  refine wpAny_bind (wpAny_of_eq (newCall_cmb_2 _ _) (wpAny_pure ⟨plainId_quiet plain_cmb_new _, codeAny_builtin entry_cmb_new ?_⟩))
  rw [Around.under_plainId plain_cmb_new _]
  have hsub := sub_cmb
  have hd := noDict_cmb
  obtain ⟨hp, g, dd, tk, os⟩ := s
  have hcol : ∀ (A : Around) (E : Value → Shared → Prop) (Q : List Value → Shared → Prop), Q vs { heap := (hp.push (PyProof.Rows.seqObj "list" #[] 0)).update hp.objs.size (Obj.mapSeq (· ++ vs.toArray)), gens := g, drawn := dd, toks := tk, os := os } → wpAny (model prog w) A (collect (.ref l)) Q E ⟨hp, g, dd, tk, os⟩ :=
    fun A E Q q => PyProof.Rows.collect_list hl q hsz
  have hcat : ("itertools." ++ "combinations" : String) = "itertools.combinations" := by decide +kernel
  refine wpAny_bind ?_
  show wpAny _ _ (Builtin.Itertools.itClassAndRest "combinations" _ >>= _) _ _ _
  refine wpAny_bind ?_
  unfold Builtin.Itertools.itClassAndRest
  simp only [hcat]
  repeat (first
    | (refine hcol _ _ _ ?_)
    | wp_step
    | simp only [List.head?_cons, Option.some_or, List.getElem?_cons_succ, List.getElem?_cons_zero, List.length_cons, List.length_nil, List.forIn_nil])
  have hz : ∀ (h : Heap) (a : Addr) (f : Obj → Obj), (h.update a f).objs.size = h.objs.size := fun h a f => by
    unfold Heap.update
    simp
  refine h _ _ ((hp.push (PyProof.Rows.seqObj "list" #[] 0)).update hp.objs.size (Obj.mapSeq (· ++ vs.toArray))).objs.size ?_ ?_ ?_ (Heap.get?_push_of_some _ (Heap.get?_push_size _ rfl)) (Heap.get?_push_size _ rfl) fun b o e => ?_
  · rw [hz, Heap.size_push]
    exact Nat.le_succ _
  · rw [Heap.size_push, hz, Heap.size_push]
    show hp.objs.size ≤ _
    omega
  · rw [Heap.size_push]
    omega
  · refine Heap.get?_push_of_some _ (Heap.get?_push_of_some _ ?_)
    exact (Heap.get?_update_other _ _ (Nat.ne_of_gt (Heap.lt_size e))).trans (Heap.get?_push_of_some _ e)
theorem call_cmb {l : Addr} {vs : List Value} {t : Tok} {Q : Value → Shared → Prop} (hl : s.heap.IsList l vs.toArray) (hsz : vs.length ≤ sizeLine)
    (h : ∀ h' it pool, s.heap.objs.size ≤ pool → s.heap.objs.size ≤ it → pool ≠ it → IsPool h' pool vs.toArray → IsCmb h' it pool (if 2 > vs.length then 2 else 0) .none 0 1 → (∀ b o, s.heap.get? b = some o → h'.get? b = some o) → Q (.ref it) { s with heap := h' }) :
    wpAny (model prog w) A (call (.type "itertools.combinations") [.ref l, .int 2 t]) Q E s := by
  refine callType_codes (Q₁ := fun obj s₁ => s₁.TypeIs obj "itertools.combinations" ∧ Q obj s₁) called_cmb (typeCall_cmb_2 _ _) F.entry_object_init
    (code_cmb_new (A := A.in1) hl hsz fun h' it pool e1 e2 e3 hp hc hk => ⟨⟨_, hc, rfl⟩, h h' it pool e1 e2 e3 hp hc hk⟩) fun obj s₁ h₁ => ?_
  exact ⟨h₁.1, F.args_object_init_3 obj _ _, object_init_meets called_cmb.init.lookup called_cmb.made (by decide) prog w A.in1 _ s₁ ⟨h₁.1, rfl, h₁.2⟩⟩
theorem iter_cmb {it pool : Addr} {st : Int} {last : Value} {i j : Nat} {Q : Value → Shared → Prop} (hit : IsCmb s.heap it pool st last i j) (h : Q (.ref it) s) : wpAny (model prog w) A (pyIter (.ref it)) Q E s := by
  have hT : s.TypeIs (.ref it) "itertools.combinations" := ⟨_, hit, rfl⟩
  refine wpAny_pyIter_slot hT slot_cmb_iter (wpAny_call_entry slot_cmb_iter hT entry_cmb_iter ?_ (args_cmb_iter _))
  show wpAny _ _ (ret (.ref it)) _ _ s
  exact wpAny_pure ⟨_, rfl, "itertools.combinations", _, hT, slot_cmb_next.lookup, h⟩
/-- what is handed out -/
theorem next_cmb_0 {it pool : Addr} {vs : Array Value} {x y : Value} {last : Value} {i j : Nat} {Q : Option Value → Shared → Prop} (hne : pool ≠ it) (hit : IsCmb s.heap it pool 0 last i j) (hp : IsPool s.heap pool vs) (hx : vs.getD i .none = x) (hy : vs.getD j .none = y)
    (hQ : ∀ h', IsCmb h' it pool 1 (.ref s.heap.objs.size) i j → h'.get? s.heap.objs.size = some { cls := .type "tuple", data := .seq #[x, y] } → (∀ b o, b ≠ it → s.heap.get? b = some o → h'.get? b = some o) → Q (some (.ref s.heap.objs.size)) { s with heap := h' }) :
    wpAny (model prog w) A (pyNext (.ref it)) Q E s := by
  have hT : s.TypeIs (.ref it) "itertools.combinations" := ⟨_, hit, rfl⟩
  unfold pyNext
  refine wpAny_bind (wpAny_attempt (wpAny_callSpecial?_slot (name := Str.ofString "__next__") hT slot_cmb_next (wpAny_call_entry slot_cmb_next hT entry_cmb_next ?_ (args_cmb_next _))))
  show wpAny _ _ (field (.ref it) 0 >>= _) _ _ s
  refine wpAny_bind (wpAny_field hit rfl (x := .ref pool) rfl ?_)
  refine wpAny_bind ?_
  show wpAny _ _ (load it >>= _) _ _ s
  refine wpAny_bind (wpAny_load hit (wpAny_pure ?_))
  refine wpAny_bind ?_
  show wpAny _ _ (field (.ref it) 1 >>= _) _ _ s
  refine wpAny_bind (wpAny_field hit rfl (x := .int 0 0) rfl (wpAny_pure ?_))
  show wpAny _ _ (setField (.ref it) 1 (rawInt 1) >>= _) _ _ s
  refine wpAny_bind (wpAny_setField_rec hit (by simp) fun h₁ hit₁ hs₁ => ?_)
  replace hit₁ : IsCmb h₁ it pool 1 last i j := hit₁
  have hp₁ : IsPool h₁ pool vs := (hs₁.2 _ hne).trans hp
  refine wpAny_bind ?_
  show wpAny _ _ (Builtin.Itertools.itPoolItems (.ref pool) >>= _) _ _ _
  refine wpAny_bind ?_
  show wpAny _ _ (seqItems? (.ref pool) >>= _) _ _ _
  refine wpAny_bind (wpAny_seqItems hp₁ rfl (wpAny_pure ?_))
  show wpAny _ _ (newTuple [vs.getD i .none, vs.getD j .none]) _ _ _
  rw [hx, hy]
  refine wpAny_newTuple ?_ (by show 2 ≤ sizeLine; decide)
  have hit₂ : IsCmb (h₁.push { cls := .type "tuple", data := .seq #[x, y] }) it pool 1 last i j := Heap.get?_push_of_some _ hit₁
  refine wpAny_bind (wpAny_field hit₂ rfl (x := last) rfl ?_)
  refine wpAny_bind (wpAny_setField_rec hit₂ (by simp) fun h₃ hit₃ hs₃ => ?_)
  have hsz : h₁.objs.size = s.heap.objs.size := hs₁.1
  have hlt : it < s.heap.objs.size := Heap.lt_size hit
  refine wpAny_bind (wpAny_letGo ?_)
  refine wpAny_pure ⟨_, rfl, wpAny_pure ?_⟩
  show Q (some (.ref h₁.objs.size)) _
  rw [hsz]
  refine hQ h₃ ?_ ?_ fun b o hb e => ?_
  · replace hit₃ : IsCmb h₃ it pool 1 (.ref h₁.objs.size) i j := hit₃
    rw [← hsz]
    exact hit₃
  · rw [← hsz]
    exact (hs₃.2 _ (by rw [hsz]; exact Nat.ne_of_gt hlt)).trans (Heap.get?_push_size _ rfl)
  · exact (hs₃.2 _ hb).trans (Heap.get?_push_of_some _ ((hs₁.2 _ hb).trans e))
def nc (n : Nat) (indices : List Nat) : Option (List Nat) :=
  let r := indices.length
  match (List.range r).reverse.find? fun i => indices.getD i 0 != i + n - r with
  | none => none
  | some i => some (indices.take i ++ (List.range (r - i)).map (indices.getD i 0 + 1 + ·))
theorem nc_eq {n i j : Nat} (h : 2 ≤ n) : nc n [i, j] = (nx2 n (i, j)).map fun p => [p.1, p.2] := by
  have er : (List.range 2).reverse = [1, 0] := by decide
  have e1 : (1 + n - 2) = n - 1 := by omega
  have e0 : (0 + n - 2) = n - 2 := by omega
  show (match (List.range 2).reverse.find? fun k => [i, j].getD k 0 != k + n - 2 with
    | none => none
    | some k => some ([i, j].take k ++ (List.range (2 - k)).map ([i, j].getD k 0 + 1 + ·))) = _
  rw [er]
  unfold nx2
  by_cases h1 : j = n - 1
  · have b1 : ([i, j].getD 1 0 != 1 + n - 2) = false := by
      show (j != 1 + n - 2) = false
      rw [e1, h1]
      exact bne_self_eq_false _
    by_cases h2 : i = n - 2
    · have b2 : ([i, j].getD 0 0 != 0 + n - 2) = false := by
        show (i != 0 + n - 2) = false
        rw [e0, h2]
        exact bne_self_eq_false _
      rw [List.find?_cons, b1]
      dsimp only
      rw [List.find?_cons, b2]
      dsimp only
      rw [if_neg (by simpa using h1), if_neg (by simpa using h2)] <;> rfl
    · have b2 : ([i, j].getD 0 0 != 0 + n - 2) = true := by
        show (i != 0 + n - 2) = true
        rw [e0]
        exact bne_iff_ne.mpr h2
      rw [List.find?_cons, b1]
      dsimp only
      rw [List.find?_cons, b2]
      dsimp only
      rw [if_neg (by simpa using h1), if_pos (by simpa using h2)] <;> rfl
  · have b1 : ([i, j].getD 1 0 != 1 + n - 2) = true := by
      show (j != 1 + n - 2) = true
      rw [e1]
      exact bne_iff_ne.mpr h1
    rw [List.find?_cons, b1]
    dsimp only
    rw [if_pos (by simpa using h1)] <;> rfl
theorem next_cmb_1 {it pool : Addr} {vs : Array Value} {x y : Value} {last : Value} {i j i' j' : Nat} {Q : Option Value → Shared → Prop} (hne : pool ≠ it) (hit : IsCmb s.heap it pool 1 last i j) (hp : IsPool s.heap pool vs) (h2 : 2 ≤ vs.size) (hn : nx2 vs.size (i, j) = some (i', j')) (hx : vs.getD i' .none = x) (hy : vs.getD j' .none = y)
    (hQ : ∀ h', IsCmb h' it pool 1 (.ref s.heap.objs.size) i' j' → h'.get? s.heap.objs.size = some { cls := .type "tuple", data := .seq #[x, y] } → (∀ b o, b ≠ it → s.heap.get? b = some o → h'.get? b = some o) → Q (some (.ref s.heap.objs.size)) { s with heap := h' }) :
    wpAny (model prog w) A (pyNext (.ref it)) Q E s := by
  have hT : s.TypeIs (.ref it) "itertools.combinations" := ⟨_, hit, rfl⟩
  unfold pyNext
  refine wpAny_bind (wpAny_attempt (wpAny_callSpecial?_slot (name := Str.ofString "__next__") hT slot_cmb_next (wpAny_call_entry slot_cmb_next hT entry_cmb_next ?_ (args_cmb_next _))))
  show wpAny _ _ (field (.ref it) 0 >>= _) _ _ s
  refine wpAny_bind (wpAny_field hit rfl (x := .ref pool) rfl ?_)
  refine wpAny_bind ?_
  show wpAny _ _ (load it >>= _) _ _ s
  refine wpAny_bind (wpAny_load hit (wpAny_pure ?_))
  refine wpAny_bind ?_
  show wpAny _ _ (field (.ref it) 1 >>= _) _ _ s
  refine wpAny_bind (wpAny_field hit rfl (x := .int 1 0) rfl (wpAny_pure ?_))
  show wpAny _ _ (Builtin.Itertools.itPoolItems (.ref pool) >>= _) _ _ _
  refine wpAny_bind ?_
  show wpAny _ _ (seqItems? (.ref pool) >>= _) _ _ _
  refine wpAny_bind (wpAny_seqItems hp rfl (wpAny_pure ?_))
  have hnc : nc vs.size [i, j] = some [i', j'] := by rw [nc_eq h2, hn] <;> rfl
  split
  case h_2 hq => exact absurd (hq.symm.trans hnc) (by simp)
  case h_1 next hq =>
  have en : next = [i', j'] := Option.some.inj (hq.symm.trans hnc)
  subst en
  refine wpAny_bind ?_
  show wpAny _ _ (Builtin.Itertools.itSetNumbersFrom (.ref it) 3 [i', j']) _ _ _
  unfold Builtin.Itertools.itSetNumbersFrom
  try dsimp only
  refine wpAny_updateFields hit rfl ?_ (by rw [Array.size_append]; show _ ≤ sizeLine + 3; simp; decide)
  have hit₁ : IsCmb (s.heap.update it (Obj.mapFields fun fs => fs.extract 0 3 ++ (List.map (fun (n : Nat) => rawInt n) [i', j']).toArray)) it pool 1 last i' j' := by
    refine (Heap.get?_update_self _ hit rfl).trans ?_
    rfl
  have hs₁ : Heap.SameBut it s.heap (s.heap.update it (Obj.mapFields fun fs => fs.extract 0 3 ++ (List.map (fun (n : Nat) => rawInt n) [i', j']).toArray)) := Heap.SameBut.update ..
  generalize s.heap.update it (Obj.mapFields fun fs => fs.extract 0 3 ++ (List.map (fun (n : Nat) => rawInt n) [i', j']).toArray) = h₁ at hit₁ hs₁
  have hp₁ : IsPool h₁ pool vs := (hs₁.2 _ hne).trans hp
  refine wpAny_bind ?_
  show wpAny _ _ (Builtin.Itertools.itPoolItems (.ref pool) >>= _) _ _ _
  refine wpAny_bind ?_
  show wpAny _ _ (seqItems? (.ref pool) >>= _) _ _ _
  refine wpAny_bind (wpAny_seqItems hp₁ rfl (wpAny_pure ?_))
  show wpAny _ _ (newTuple [vs.getD i' .none, vs.getD j' .none]) _ _ _
  rw [hx, hy]
  refine wpAny_newTuple ?_ (by show 2 ≤ sizeLine; decide)
  have hit₂ : IsCmb (h₁.push { cls := .type "tuple", data := .seq #[x, y] }) it pool 1 last i' j' := Heap.get?_push_of_some _ hit₁
  refine wpAny_bind (wpAny_field hit₂ rfl (x := last) rfl ?_)
  refine wpAny_bind (wpAny_setField_rec hit₂ (by simp) fun h₃ hit₃ hs₃ => ?_)
  have hsz : h₁.objs.size = s.heap.objs.size := hs₁.1
  have hlt : it < s.heap.objs.size := Heap.lt_size hit
  refine wpAny_bind (wpAny_letGo ?_)
  refine wpAny_pure ⟨_, rfl, wpAny_pure ?_⟩
  show Q (some (.ref h₁.objs.size)) _
  rw [hsz]
  refine hQ h₃ ?_ ?_ fun b o hb e => ?_
  · replace hit₃ : IsCmb h₃ it pool 1 (.ref h₁.objs.size) i' j' := hit₃
    rw [← hsz]
    exact hit₃
  · rw [← hsz]
    exact (hs₃.2 _ (by rw [hsz]; exact Nat.ne_of_gt hlt)).trans (Heap.get?_push_size _ rfl)
  · exact (hs₃.2 _ hb).trans (Heap.get?_push_of_some _ ((hs₁.2 _ hb).trans e))
theorem stop_cmb {it : Addr} {Q : Option Value → Shared → Prop} (hh : A.handled = none) (hQ : ∀ h', (∀ b o, b ≠ it → s.heap.get? b = some o → h'.get? b = some o) → Q none { s with heap := h' }) :
    wpAny (model prog w) A.in1 (Builtin.Itertools.itStop (α := Fin)) (fun fin s' => ∃ v, fin = Fin.done (Flow.ret v) ∧ wpAny (model prog w) A (match (Except.ok (some v) : Except Value (Option Value)) with
      | Except.ok (some v) => pure (some v)
      | Except.ok none => unsupported "iter:the-iterator's-class-has-lost-its-__next__-amid-the-walk"
      | Except.error e => do
        let __do_lift ← isInstance e (Value.type "StopIteration")
        if __do_lift = true then pure none else throw e) Q E s')
      (fun e s' => wpAny (model prog w) A (match (Except.error e : Except Value (Option Value)) with
      | Except.ok (some v) => pure (some v)
      | Except.ok none => unsupported "iter:the-iterator's-class-has-lost-its-__next__-amid-the-walk"
      | Except.error e => do
        let __do_lift ← isInstance e (Value.type "StopIteration")
        if __do_lift = true then pure none else throw e) Q E s') s := by
  unfold Builtin.Itertools.itStop
  show wpAny _ _ (newExc (.type "StopIteration") [] >>= _) _ _ _
  refine wpAny_bind ?_
  simp only [newExc, newTuple]
  refine wpAny_bind (wpAny_newObj_type ?_ (by size_fits))
  refine wpAny_bind (m := firstArgMember _ _) (wpAny_of_eq (a := Value.none) (by first | rfl | (simp only [firstArgMember]; rfl)) ?_)
  refine wpAny_newObj_type ?_ (by size_fits)
  simp only [raiseNew]
  refine wpAny_bind (wpAny_handled ?_)
  first | rw [show A.in1.handled = none from hh] | rw [hh]
  refine wpAny_bind (wpAny_pure (wpAny_throw ?_))
  refine wpAny_bind (wpAny_isInstance (T := "StopIteration") (b := true) ⟨_, Heap.get?_push_size _ rfl, rfl⟩ isSubtype_stop ?_)
  refine wpAny_pure (hQ _ ?_)
  exact fun b o _ e => Heap.get?_push_of_some _ (Heap.get?_push_of_some _ e)
theorem next_cmb_end {it pool : Addr} {vs : Array Value} {last : Value} {i j : Nat} {Q : Option Value → Shared → Prop} (hh : A.handled = none) (hne : pool ≠ it) (hit : IsCmb s.heap it pool 1 last i j) (hp : IsPool s.heap pool vs) (h2 : 2 ≤ vs.size) (hn : nx2 vs.size (i, j) = none)
    (hQ : ∀ h', (∀ b o, b ≠ it → s.heap.get? b = some o → h'.get? b = some o) → Q none { s with heap := h' }) :
    wpAny (model prog w) A (pyNext (.ref it)) Q E s := by
  have hT : s.TypeIs (.ref it) "itertools.combinations" := ⟨_, hit, rfl⟩
  unfold pyNext
  refine wpAny_bind (wpAny_attempt (wpAny_callSpecial?_slot (name := Str.ofString "__next__") hT slot_cmb_next (wpAny_call_entry slot_cmb_next hT entry_cmb_next ?_ (args_cmb_next _))))
  show wpAny _ _ (field (.ref it) 0 >>= _) _ _ s
  refine wpAny_bind (wpAny_field hit rfl (x := .ref pool) rfl ?_)
  refine wpAny_bind ?_
  show wpAny _ _ (load it >>= _) _ _ s
  refine wpAny_bind (wpAny_load hit (wpAny_pure ?_))
  refine wpAny_bind ?_
  show wpAny _ _ (field (.ref it) 1 >>= _) _ _ s
  refine wpAny_bind (wpAny_field hit rfl (x := .int 1 0) rfl (wpAny_pure ?_))
  show wpAny _ _ (Builtin.Itertools.itPoolItems (.ref pool) >>= _) _ _ _
  refine wpAny_bind ?_
  show wpAny _ _ (seqItems? (.ref pool) >>= _) _ _ _
  refine wpAny_bind (wpAny_seqItems hp rfl (wpAny_pure ?_))
  have hnc : nc vs.size [i, j] = none := by rw [nc_eq h2, hn] <;> rfl
  split
  case h_1 next hq => exact absurd (hq.symm.trans hnc) (by simp)
  refine wpAny_bind (wpAny_setField_rec hit (by simp) fun h₁ hit₁ hs₁ => ?_)
  exact stop_cmb hh fun h' hk => hQ h' fun b o hb e => hk b o hb ((hs₁.2 _ hb).trans e)
theorem next_cmb_end2 {it pool : Addr} {last : Value} {i j : Nat} {Q : Option Value → Shared → Prop} (hh : A.handled = none) (hit : IsCmb s.heap it pool 2 last i j)
    (hQ : ∀ h', (∀ b o, b ≠ it → s.heap.get? b = some o → h'.get? b = some o) → Q none { s with heap := h' }) :
    wpAny (model prog w) A (pyNext (.ref it)) Q E s := by
  have hT : s.TypeIs (.ref it) "itertools.combinations" := ⟨_, hit, rfl⟩
  unfold pyNext
  refine wpAny_bind (wpAny_attempt (wpAny_callSpecial?_slot (name := Str.ofString "__next__") hT slot_cmb_next (wpAny_call_entry slot_cmb_next hT entry_cmb_next ?_ (args_cmb_next _))))
  show wpAny _ _ (field (.ref it) 0 >>= _) _ _ s
  refine wpAny_bind (wpAny_field hit rfl (x := .ref pool) rfl ?_)
  refine wpAny_bind ?_
  show wpAny _ _ (load it >>= _) _ _ s
  refine wpAny_bind (wpAny_load hit (wpAny_pure ?_))
  refine wpAny_bind ?_
  show wpAny _ _ (field (.ref it) 1 >>= _) _ _ s
  refine wpAny_bind (wpAny_field hit rfl (x := .int 2 0) rfl (wpAny_pure ?_))
  refine wpAny_bind (wpAny_rule ?_)
  exact stop_cmb hh hQ
end
end CpCmb
namespace L2
open PySem PySem.Spec PyProof.Rows
/-- the told pairs, each in a new tuple -/
def Itcm (ps : List (V × V)) : It :=
  ⟨fun i _ => i < ps.length, fun i H v H' => ∃ T x y, v = .ref T ∧ H T = none ∧ H' = upd H T (.tup [x, y]) ∧ ps[i]? = some (x, y), fun i _ => ps.length ≤ i⟩
/-- where the object stands ahead of turn k, n things in its tuple -/
def CmbAt (it pool : Addr) (vs : List Value) (k : Nat) (h : Heap) : Prop :=
  pool ≠ it ∧ CpCmb.IsPool h pool vs.toArray ∧ ∃ last i j, (k = 0 ∧ (i = 0 ∧ j = 1) ∧ CpCmb.IsCmb h it pool (if 2 > vs.length then 2 else 0) last i j) ∨ (∃ k', k = k' + 1 ∧ (CpCmb.cmbs (List.range vs.length))[k']? = some (i, j) ∧ CpCmb.IsCmb h it pool 1 last i j)
theorem turn_cmb {P : Program} {w : World} {K : PySem.W.Frag} {tg : Expr} {xs : List V} {vs : List Value} (rv : Vals xs vs) (it pool : Addr) :
    Turn P w K tg (Itcm (CpCmb.cmbs xs)) [it, pool] it (fun k h => CmbAt it pool vs k h) where
  mem := by simp
  obj := fun k h st b hb => by
    obtain ⟨hne, hp, last, i, j, hc⟩ := st
    have hi : ∃ st, CpCmb.IsCmb h it pool st last i j := by
      rcases hc with ⟨_, _, hc⟩ | ⟨_, _, _, hc⟩
      · exact ⟨_, hc⟩
      · exact ⟨_, hc⟩
    obtain ⟨st, hi⟩ := hi
    have e' : b = it ∨ b = pool := by simpa using hb
    rcases e' with z | z
    · rw [z]; exact ⟨_, hi, fun v q => nomatch q⟩
    · rw [z]; exact ⟨_, hp, fun v q => nomatch q⟩
  keep := fun k h h' st kk => by
    obtain ⟨hne, hp, last, i, j, hc⟩ := st
    refine ⟨hne, kk pool (by simp) _ hp, last, i, j, ?_⟩
    rcases hc with ⟨e1, e2, hc⟩ | ⟨k', e1, e2, hc⟩
    · exact .inl ⟨e1, e2, kk it (by simp) _ hc⟩
    · exact .inr ⟨k', e1, e2, kk it (by simp) _ hc⟩
  item := by
    intro X hP hw hK hc k pins s σ H E I hf st hg
    subst hP hw hK
    obtain ⟨hne, hp, last, i, j, hq⟩ := st
    have hlen : xs.length = vs.length := rv.length
    have hk : k < (CpCmb.cmbs (List.range vs.length)).length := by
      have e : k < (CpCmb.cmbs xs).length := hg
      rw [CpCmb.cmbs_len, hlen] at e
      exact e
    obtain ⟨p, hpk⟩ : ∃ p, (CpCmb.cmbs (List.range vs.length))[k]? = some p := ⟨_, List.getElem?_eq_getElem hk⟩
    obtain ⟨a, b⟩ := p
    have hmem := CpCmb.mem_cmbs_lt _ _ (List.mem_of_getElem? hpk)
    have ha : a < vs.length := List.mem_range.mp hmem.1
    have hb : b < vs.length := List.mem_range.mp hmem.2
    have h2 : 2 ≤ vs.length := by
      by_cases h2 : 2 ≤ vs.length
      · exact h2
      · rw [CpCmb.cmbs_none (by omega)] at hk
        exact absurd hk (Nat.not_lt_zero _)
    obtain ⟨u, hu, ru⟩ := rv.get (List.getElem?_eq_getElem (by omega : a < xs.length))
    obtain ⟨v, hv, rv2⟩ := rv.get (List.getElem?_eq_getElem (by omega : b < xs.length))
    have gu : vs.toArray.getD a .none = u := by
      have : vs.toArray[a]? = some u := by simpa using hu
      rw [Array.getD_eq_getD_getElem?, this] <;> rfl
    have gv : vs.toArray.getD b .none = v := by
      have : vs.toArray[b]? = some v := by simpa using hv
      rw [Array.getD_eq_getD_getElem?, this] <;> rfl
    have hxs : (CpCmb.cmbs xs)[k]? = some (xs[a], xs[b]) := by
      have hpk' : (CpCmb.cmbs (List.range xs.length))[k]? = some (a, b) := by
        rw [hlen]
        exact hpk
      rw [CpCmb.cmbs_ix V.non xs, List.getElem?_map, hpk']
      show some (xs.getD a V.non, xs.getD b V.non) = _
      rw [List.getD_eq_getElem?_getD, List.getD_eq_getElem?_getD, List.getElem?_eq_getElem (by omega : a < xs.length), List.getElem?_eq_getElem (by omega : b < xs.length)] <;> rfl
    have fin : ∀ h', CpCmb.IsCmb h' it pool 1 (.ref s.heap.objs.size) a b → h'.get? s.heap.objs.size = some { cls := .type "tuple", data := .seq #[u, v] } → (∀ c o, c ≠ it → s.heap.get? c = some o → h'.get? c = some o) →
        ∃ u', some (Value.ref s.heap.objs.size) = some u' ∧ wpAny (model X.prog X.w) X.A (letOwnedTupleGo tg (.ref it) u') (fun _ s2 => ∃ x H', Inv X pins σ H' s2 ∧ RelV x u' ∧ (Itcm (CpCmb.cmbs xs)).yld k H x H' ∧ CmbAt it pool vs (k + 1) s2.heap ∧ ∀ b ∈ [it, pool], H' b = none) E { s with heap := h' } := by
      intro h' hit' hT hkp
      have hil : it < s.heap.objs.size := by
        rcases hq with ⟨_, _, q⟩ | ⟨_, _, _, q⟩
        · exact Heap.lt_size q
        · exact Heap.lt_size q
      have new : ObjOk X.prog X.w (upd H s.heap.objs.size (.tup [xs[a], xs[b]])) h' s.heap.objs.size (.tup [xs[a], xs[b]]) :=
        ⟨by show 2 ≤ sizeLine; decide, [u, v], .cons ru (.cons rv2 .nil), ⟨_, hT, rfl, _, rfl⟩⟩
      have I1 : Inv X pins σ (upd H s.heap.objs.size (.tup [xs[a], xs[b]])) { s with heap := h' } :=
        I.turnedNew (t' := s.toks) (ch := [it]) (fun c o hc q => hkp c o (fun z => hc (by simp [z])) q) (fun c hc => hf c (by simp at hc; simp [hc])) (Nat.le_refl _) new
      refine ⟨_, rfl, go_of (s := { s with heap := h' }) hit' rfl rfl (by decide) ⟨.ref s.heap.objs.size, _, I1, rfl, ⟨_, _, _, rfl, I.hok.fresh (Nat.le_refl _), rfl, hxs⟩, ⟨hne, hkp pool _ hne hp, _, a, b, .inr ⟨k, rfl, hpk, hit'⟩⟩, fun c hcm => ?_⟩⟩
      have hlt : c < s.heap.objs.size := by
        have e' : c = it ∨ c = pool := by simpa using hcm
        rcases e' with z | z
        · rw [z]; exact hil
        · rw [z]; exact Heap.lt_size hp
      rw [upd_ne (Nat.ne_of_lt hlt)]
      exact (hf c hcm).1
    have hvz : vs.toArray.size = vs.length := List.size_toArray
    rcases hq with ⟨e1, ⟨e2, e3⟩, q⟩ | ⟨k', e1, e2, q⟩
    · subst e1 e2 e3
      rw [if_neg (by omega)] at q
      have e4 := hpk.symm.trans (CpCmb.cmbs_first h2)
      cases e4
      exact CpCmb.next_cmb_0 hne q hp gu gv fin
    · subst e1
      have e3 := CpCmb.nx2_at e2
      rw [hpk] at e3
      exact CpCmb.next_cmb_1 hne q hp (by rw [hvz]; exact h2) (by rw [hvz]; exact e3) gu gv fin
  done := by
    intro X hP hw hK hc k pins s σ H E I hf st hg
    subst hP hw hK
    obtain ⟨hne, hp, last, i, j, hq⟩ := st
    have hlen : xs.length = vs.length := rv.length
    have hk : (CpCmb.cmbs (List.range vs.length)).length ≤ k := by
      have e : (CpCmb.cmbs xs).length ≤ k := hg
      rw [CpCmb.cmbs_len, hlen] at e
      exact e
    have hvz : vs.toArray.size = vs.length := List.size_toArray
    have fin : ∀ h', (∀ b o, b ≠ it → s.heap.get? b = some o → h'.get? b = some o) → (none : Option Value) = none ∧ Inv X pins σ H { s with heap := h' } := fun h' hkp =>
      ⟨rfl, I.turnedL (t' := s.toks) (ch := [it]) (fun c o hc q => hkp c o (fun z => hc (by simp [z])) q) (fun c hc => hf c (by simp at hc; simp [hc]))⟩
    rcases hq with ⟨e1, ⟨e2, e3⟩, q⟩ | ⟨k', e1, e2, q⟩
    · subst e1
      by_cases h2 : 2 > vs.length
      · rw [if_pos h2] at q
        exact CpCmb.next_cmb_end2 (I.ok.hd hc) q fin
      · have e4 := CpCmb.cmbs_first (n := vs.length) (by omega)
        rw [List.getElem?_eq_none hk] at e4
        cases e4
    · subst e1
      have e3 := CpCmb.nx2_at e2
      rw [List.getElem?_eq_none hk] at e3
      have h2 : 2 ≤ vs.length := by
        by_cases h2 : 2 ≤ vs.length
        · exact h2
        · rw [CpCmb.cmbs_none (by omega)] at e2
          cases e2
      exact CpCmb.next_cmb_end (I.ok.hd hc) hne q hp (by rw [hvz]; exact h2) (by rw [hvz]; exact e3) fin
  self := fun A k s Q E st h => by
    obtain ⟨hne, hp, last, i, j, hq⟩ := st
    rcases hq with ⟨_, _, q⟩ | ⟨_, _, _, q⟩
    · exact CpCmb.iter_cmb q h
    · exact CpCmb.iter_cmb q h
def iCmb (K : PySem.W.Frag) (ta : TA) : TI := fun σ H R => ta σ H fun vs H1 => ∃ a xs, vs = [.ref a, .int 2] ∧ SqL K H1 a xs ∧ R (Itcm (CpCmb.cmbs xs)) H1
theorem pi_cmb {X : Cx} {e e2 tg : Expr} {ta : TA} {p pos : Pos} (hg : Gl X "combinations") (hm : X.mg "combinations" = some (.type "itertools.combinations")) (ha : PA X [e, e2] ta)
    (hs : starEach [e, e2] X.env = (false, eval e X.env) :: starEach [e2] X.env := by rfl) (hpl : (backTo pos (starEach [e2] X.env)).any (·.1) = false := by rfl) :
    PI X tg (.Call (.Name "combinations" p) [e, e2] [] pos) (iCmb X.K ta) := by
  refine ⟨fun pins s σ H R I h => ?_⟩
  refine Call_ (ld_glob I hg hm (PyProof.Rows.callWith_type1 (thn (ha.run pos pins s σ H _ I h) fun us s1 ⟨vs, H1, I1, r1, q1⟩ => ?_) hs hpl))
  obtain ⟨a, xs, ex, hq, q⟩ := q1
  subst ex
  cases r1 with
  | cons r rr =>
    cases rr with
    | cons r2 rr =>
      cases rr
      cases r
      obtain ⟨tk, r2⟩ := r2
      subst r2
      obtain ⟨its, rv, p', hz⟩ := I1.list hq
      refine CpCmb.call_cmb p'.isList (by simpa [rv.length] using hz) fun h' it pool e1 e2 e3 hp hc hk => ?_
      have I2 : Inv X pins σ H1 { s1 with heap := h' } := I1.kept (t' := s1.toks) hk
      refine CpCmb.iter_cmb (s := { s1 with heap := h' }) hc ?_
      refine ⟨it, [it, pool], _, _, H1, rfl, I2, turn_cmb rv it pool, ⟨e3, hp, _, 0, 1, .inl ⟨rfl, ⟨rfl, rfl⟩, hc⟩⟩, fun b hb => ?_, q⟩
      have hle : s1.heap.objs.size ≤ b := by
        have e' : b = it ∨ b = pool := by simpa using hb
        rcases e' with z | z
        · rw [z]; exact e2
        · rw [z]; exact e1
      exact I1.fpOk hle (I1.hok.fresh hle)
end L2
namespace Ovc
open PySem PySem.Spec PyProof.Rows L2
/-! ### the program's way to the pairs: a matrix by ranks -/
def oA (os : List Int) (i : Nat) : Int := os.getD i 0
theorem oA_get {os : List Int} {i : Nat} (h : i < os.length) : os[i]? = some (oA os i) := by
  unfold oA
  rw [List.getD_eq_getElem?_getD, List.getElem?_eq_getElem h] <;> rfl
theorem oA_pos {os : List Int} (hn : os.Nodup) {i : Nat} (h : i < os.length) : posOf (oA os i) os = i := posOf_get hn (oA_get h)
theorem oA_of {os : List Int} {x : Int} (h : x ∈ os) : oA os (posOf x os) = x := by
  have := oA_get (pos_len h)
  rw [posOf_lt h] at this
  exact (Option.some.inj this).symm
theorem oA_map (os : List Int) : (List.range os.length).map (oA os) = os := CpCmb.map_range_get 0 os
def Lk (ls : List Lnk) (os : List Int) (t i k : Nat) : Bool := decide (i < k) && adj0 (ls.take t) (oA os i) (oA os k)
open Classical in
noncomputable def Jm (ls : List Lnk) (os : List Int) (m i k : Nat) : Bool := decide (i < k ∧ (adj0 ls (oA os i) (oA os k) = true ∨ ∃ w, w < m ∧ PairP ls os (oA os w) (oA os i) ∧ PairP ls os (oA os w) (oA os k)))
open Classical in
theorem Jm_iff {ls : List Lnk} {os : List Int} {m i k : Nat} : Jm ls os m i k = true ↔ i < k ∧ (adj0 ls (oA os i) (oA os k) = true ∨ ∃ w, w < m ∧ PairP ls os (oA os w) (oA os i) ∧ PairP ls os (oA os w) (oA os k)) := by
  unfold Jm
  rw [decide_eq_true_eq]
theorem Lk_zero {ls : List Lnk} {os : List Int} : Lk ls os 0 = fun _ _ => false := by
  funext i k
  unfold Lk
  rw [List.take_zero]
  exact Bool.and_false _
theorem Lk_end {ls : List Lnk} {os : List Int} : Lk ls os ls.length = Jm ls os 0 := by
  funext i k
  rw [Bool.eq_iff_iff, Jm_iff]
  unfold Lk
  rw [List.take_length, Bool.and_eq_true, decide_eq_true_eq]
  constructor
  · rintro ⟨h1, h2⟩
    exact ⟨h1, .inl h2⟩
  · rintro ⟨h1, h2 | ⟨w, hw, _⟩⟩
    · exact ⟨h1, h2⟩
    · exact absurd hw (Nat.not_lt_zero _)
theorem Lk_succ {ls : List Lnk} {os : List Int} {t i k : Nat} {l : Lnk} (hn : os.Nodup) (hg : ls[t]? = some l) (ha : l.a ∈ os) (hb : l.b ∈ os) (hi : i < os.length) (hk : k < os.length) :
    Lk ls os (t + 1) i k = (Lk ls os t i k || (decide (i = min (posOf l.a os) (posOf l.b os)) && decide (k = max (posOf l.a os) (posOf l.b os)) && decide (l.a ≠ l.b))) := by
  have pa := oA_of ha
  have pb := oA_of hb
  have qi := oA_pos hn hi
  have qk := oA_pos hn hk
  have e : adj0 (ls.take (t + 1)) (oA os i) (oA os k) = (adj0 (ls.take t) (oA os i) (oA os k) || decide ((l.a = oA os i ∧ l.b = oA os k) ∨ (l.a = oA os k ∧ l.b = oA os i))) := by
    unfold adj0
    rw [take_snoc hg, List.any_append, List.any_cons, List.any_nil, Bool.or_false]
  unfold Lk
  rw [e, Bool.and_or_distrib_left]
  congr 1
  rw [Bool.eq_iff_iff, Bool.and_eq_true, Bool.and_eq_true, Bool.and_eq_true, decide_eq_true_eq, decide_eq_true_eq, decide_eq_true_eq, decide_eq_true_eq, decide_eq_true_eq]
  constructor
  · rintro ⟨h1, ⟨h2, h3⟩ | ⟨h2, h3⟩⟩
    · rw [← h2] at qi
      rw [← h3] at qk
      refine ⟨⟨by omega, by omega⟩, fun z => ?_⟩
      rw [z] at qi
      omega
    · rw [← h3] at qi
      rw [← h2] at qk
      refine ⟨⟨by omega, by omega⟩, fun z => ?_⟩
      rw [z] at qk
      omega
  · rintro ⟨⟨h1, h2⟩, h3⟩
    have hne : posOf l.a os ≠ posOf l.b os := fun z => h3 (pos_inj ha hb z)
    rcases Nat.lt_or_gt_of_ne hne with h | h
    · have e1 : i = posOf l.a os := by omega
      have e2 : k = posOf l.b os := by omega
      rw [e1, e2]
      exact ⟨h, .inl ⟨pa.symm, pb.symm⟩⟩
    · have e1 : i = posOf l.b os := by omega
      have e2 : k = posOf l.a os := by omega
      rw [e1, e2]
      exact ⟨h, .inr ⟨pa.symm, pb.symm⟩⟩
section
variable {N : Net} {os : List Int} {m i k : Nat}
theorem PairP.lt (h : PairP N.ls os (oA os i) (oA os k)) (hn : os.Nodup) (hi : i < os.length) (hk : k < os.length) : i < k := by
  have := h.1
  rw [oA_pos hn hi, oA_pos hn hk] at this
  exact this
theorem Jm_row (ok : NetOk N) (oo : OrdOk N.n os) (hm : m < os.length) (hk : k < os.length) : Jm N.ls os m m k = true ↔ PairP N.ls os (oA os m) (oA os k) := by
  rw [Jm_iff, pair_rec ok oo, oA_pos oo.nodup hm, oA_pos oo.nodup hk]
  refine and_congr_right fun _ => or_congr_right ⟨fun ⟨w, _, h1, h2⟩ => ⟨_, h1, h2⟩, fun ⟨w, h1, h2⟩ => ?_⟩
  have hw : w ∈ os := oo.mem.mpr (h1.ins ok).1
  have hl := h1.1
  rw [oA_pos oo.nodup hm] at hl
  exact ⟨posOf w os, hl, by rw [oA_of hw]; exact h1, by rw [oA_of hw]; exact h2⟩
theorem aboveOf (ok : NetOk N) (oo : OrdOk N.n os) (hm : m < os.length) : ((List.range' (m + 1) (os.length - (m + 1))).filter (Jm N.ls os m m)).map (oA os) = upP N.ls os (oA os m) := by
  have e1 : upP N.ls os (oA os m) = (((List.range os.length).map (oA os)).filter fun v => @decide (PairP N.ls os (oA os m) v) (Classical.propDecidable _)) := by
    rw [oA_map]
    rfl
  have e2 : List.range os.length = List.range' 0 (m + 1) ++ List.range' (m + 1) (os.length - (m + 1)) := by
    rw [List.range_eq_range']
    have := List.range'_append_1 (s := 0) (m := m + 1) (n := os.length - (m + 1))
    rw [Nat.zero_add, show m + 1 + (os.length - (m + 1)) = os.length by omega] at this
    exact this.symm
  rw [e1, List.filter_map, e2, List.filter_append]
  have e3 : (List.range' 0 (m + 1)).filter ((fun v => @decide (PairP N.ls os (oA os m) v) (Classical.propDecidable _)) ∘ oA os) = [] := by
    rw [List.filter_eq_nil_iff]
    intro x hx h
    have hx := (List.mem_range'_1.mp hx)
    have h := @of_decide_eq_true _ (Classical.propDecidable _) h
    have := h.lt oo.nodup hm (by omega)
    omega
  rw [e3, List.nil_append]
  congr 1
  refine List.filter_congr fun x hx => ?_
  have hx := List.mem_range'_1.mp hx
  rw [Bool.eq_iff_iff, Jm_row ok oo hm (by omega)]
  exact (@decide_eq_true_iff _ (Classical.propDecidable _)).symm
theorem mem_cmbs : ∀ {l : List Nat} {p : Nat × Nat}, l.Pairwise (· < ·) → (p ∈ CpCmb.cmbs l ↔ p.1 < p.2 ∧ p.1 ∈ l ∧ p.2 ∈ l)
  | [], p, _ => ⟨fun h => (nomatch h), fun h => (nomatch h.2.1)⟩
  | x :: l, (a, b), h => by
    have h1 := List.pairwise_cons.mp h
    show (a, b) ∈ l.map (fun y => (x, y)) ++ CpCmb.cmbs l ↔ _
    rw [List.mem_append, List.mem_map, mem_cmbs h1.2]
    constructor
    · rintro (⟨y, hy, e⟩ | ⟨h2, h3, h4⟩)
      · cases e
        exact ⟨h1.1 _ hy, List.mem_cons_self, List.mem_cons_of_mem _ hy⟩
      · exact ⟨h2, List.mem_cons_of_mem _ h3, List.mem_cons_of_mem _ h4⟩
    · rintro ⟨h2, h3, h4⟩
      rcases List.mem_cons.mp h3 with e | e
      · rcases List.mem_cons.mp h4 with e2 | e2
        · exact absurd h2 (by
            show ¬ a < b
            have e : a = x := e
            have e2 : b = x := e2
            omega)
        · exact .inl ⟨b, e2, by
            have e : a = x := e
            rw [e]⟩
      · rcases List.mem_cons.mp h4 with e2 | e2
        · have := h1.1 _ e
          exact absurd h2 (by
            show ¬ a < b
            have e2 : b = x := e2
            have this : x < a := this
            omega)
        · exact .inr ⟨h2, e, e2⟩
def abv (M : Nat → Nat → Bool) (m n : Nat) : List Nat := (List.range' (m + 1) (n - (m + 1))).filter (M m)
theorem abv_asc {M : Nat → Nat → Bool} {m n : Nat} : (abv M m n).Pairwise (· < ·) := by
  unfold abv
  exact List.Pairwise.filter _ List.pairwise_lt_range'
theorem mem_abv {M : Nat → Nat → Bool} {m n x : Nat} : x ∈ abv M m n ↔ (m < x ∧ x < n) ∧ M m x = true := by
  unfold abv
  rw [List.mem_filter, List.mem_range'_1]
  constructor
  · rintro ⟨h1, h2⟩
    exact ⟨⟨by omega, by omega⟩, h2⟩
  · rintro ⟨h1, h2⟩
    exact ⟨⟨by omega, by omega⟩, h2⟩
theorem Jm_succ (ok : NetOk N) (oo : OrdOk N.n os) (hm : m < os.length) (hi : i < os.length) (hk : k < os.length) : Jm N.ls os (m + 1) i k = (Jm N.ls os m i k || decide ((i, k) ∈ CpCmb.cmbs (abv (Jm N.ls os m) m os.length))) := by
  rw [Bool.eq_iff_iff, Bool.or_eq_true, decide_eq_true_eq, mem_cmbs abv_asc, mem_abv, mem_abv, Jm_iff, Jm_iff, Jm_row ok oo hm hi, Jm_row ok oo hm hk]
  constructor
  · rintro ⟨h1, h2 | ⟨w, hw, h2, h3⟩⟩
    · exact .inl ⟨h1, .inl h2⟩
    · by_cases e : w = m
      · subst e
        exact .inr ⟨h1, ⟨⟨h2.lt oo.nodup hm hi, hi⟩, h2⟩, ⟨h3.lt oo.nodup hm hk, hk⟩, h3⟩
      · exact .inl ⟨h1, .inr ⟨w, by omega, h2, h3⟩⟩
  · rintro (⟨h1, h2 | ⟨w, hw, h2, h3⟩⟩ | ⟨h1, ⟨_, h2⟩, _, h3⟩)
    · exact ⟨h1, .inl h2⟩
    · exact ⟨h1, .inr ⟨w, by omega, h2, h3⟩⟩
    · exact ⟨h1, .inr ⟨m, by omega, h2, h3⟩⟩
end
structure RowsAt (H H' : Hp) (q : Addr) (rs : List V) (N : Net) (os : List Int) : Prop where
  len : rs.length = N.n.toNat
  row : ∀ x : Int, 0 ≤ x → x < N.n → ∃ a, rs[x.toNat]? = some (.ref a) ∧ H a = none ∧ a ≠ q ∧ H' a = some (.lst ((upP N.ls os x).map V.int))
def spUpper (K : PySem.W.Frag) : Sp := fun vs H Q _ => ∃ (v : V) (N : Net) (p : Addr) (os : List Int), vs = [v, .ref p] ∧ Dp K H v (netD N) ∧ NetOk N ∧ SqL K H p (os.map V.int) ∧ OrdOk N.n os ∧ ∀ H' q rs, Same H H' → H q = none → H' q = some (.lst rs) → RowsAt H H' q rs N os → Q (.ref q) H'
/-- what changes -/
noncomputable def msk (T : Addr → Prop) (H : Hp) : Hp := fun b => @ite _ (T b) (Classical.propDecidable _) none (H b)
theorem msk_ne {T : Addr → Prop} {H : Hp} {b : Addr} (h : ¬ T b) : msk T H b = H b := if_neg h
theorem msk_at {T : Addr → Prop} {H : Hp} {b : Addr} (h : T b) : msk T H b = none := if_pos h
theorem msk_same {T : Addr → Prop} {H : Hp} : Same (msk T H) H := fun b x e => by
  by_cases h : T b
  · rw [msk_at h] at e
    cases e
  · rw [msk_ne h] at e
    exact e
theorem msk_mono {T : Addr → Prop} {G H : Hp} (s : Same G H) : Same (msk T G) (msk T H) := fun b x e => by
  by_cases h : T b
  · rw [msk_at h] at e
    cases e
  · rw [msk_ne h] at e ⊢
    exact s b x e
theorem msk_upd {T : Addr → Prop} {H : Hp} {a : Addr} {u : HO} (h : T a) : msk T (upd H a u) = msk T H := by
  funext b
  by_cases hb : T b
  · rw [msk_at hb, msk_at hb]
  · rw [msk_ne hb, msk_ne hb, upd_ne (fun e => hb (by rw [e]; exact h))]
theorem msk_get {T : Addr → Prop} {G H : Hp} {a : Addr} {x : HO} (s : Same (msk T G) (msk T H)) (h : G a = some x) (n : ¬ T a) : H a = some x := msk_same _ _ (s _ _ (by rw [msk_ne n]; exact h))
/-! ### comprehensions that make a list each turn; pairs of a list -/
section
variable {K : PySem.W.Frag} {σ : L2.St} {H : Hp} {te tl : TE} {tr : TA} {tt : TT}
theorem lc_rows {j : Nat} {xs ys : List V} {Q : VK} (hl : ∀ Q : VK, (∀ a H1, Same H H1 → SqL K H1 a xs → Q (.ref a) H1) → tl σ H Q) (hz : xs.length ≤ 1000)
    (he : ∀ x H', Same H H' → Vn te ((σ.set j none).set j (some x)) H' ys)
    (q : ∀ D H' (rw : List Addr), Same H H' → H D = none → H' D = some (.lst (rw.map V.ref)) → rw.length = xs.length → rw.Nodup → D ∉ rw → (∀ a ∈ rw, H a = none ∧ H' a = some (.lst ys)) → Q (.ref D) H') : tLc (iList K tl) (gName j) tYes te [j] σ H Q := by
  refine hl _ fun a H1 s1 hx => ⟨a, rfl, ⟨xs, hx⟩, fun D nD => lc_list (xs := xs) (fun i H' => ∃ rw : List Addr, H' D = some (.lst (rw.map V.ref)) ∧ Same H1 H' ∧ rw.length = i ∧ rw.Nodup ∧ D ∉ rw ∧ ∀ a ∈ rw, H a = none ∧ H' a = some (.lst ys))
    ⟨[], upd_same, same_upd nD, rfl, .nil, List.not_mem_nil, fun _ h => (nomatch h)⟩ (fun i H' _ hP => hP.choose_spec.2.1.seq hx) (fun i x H2 hi hP => ?_) (fun H2 hP => ?_)⟩
  · obtain ⟨rw_, hD, s2, hlen, hnd, hDn, hr⟩ := hP
    have hi2 := (List.getElem?_eq_some_iff.mp hi).1
    refine ⟨?_, ?_⟩
    · show ((σ.set j none).set j (some x)).set j none = σ.set j none
      rw [List.set_set, List.set_set]
    · refine iteT (B := ∃ rw : List Addr, H2 D = some (.lst (rw.map V.ref)) ∧ Same H1 H2 ∧ rw.length = i + 1 ∧ rw.Nodup ∧ D ∉ rw ∧ ∀ a ∈ rw, H a = none ∧ H2 a = some (.lst ys)) (he x H2 (s1.trans s2) _ fun p H3 s3 np hp => ⟨_, s3 _ _ hD, ?_, rw_ ++ [p], ?_, ?_, ?_, ?_, ?_, fun b hb => ?_⟩)
      · rw [List.length_map]
        exact Nat.lt_of_le_of_lt (m := 1000000) (by omega) (by decide)
      · rw [upd_same, List.map_append]
        rfl
      · exact same_upd' (s2.trans s3) nD
      · rw [List.length_append, hlen]
        rfl
      · refine List.nodup_append.mpr ⟨hnd, List.nodup_cons.mpr ⟨List.not_mem_nil, .nil⟩, fun x hx y hy e => ?_⟩
        rw [List.mem_singleton.mp hy] at e
        have := (hr x hx).2
        rw [e, np] at this
        cases this
      · intro h
        rcases List.mem_append.mp h with h | h
        · exact hDn h
        · have e := List.mem_singleton.mp h
          rw [e, np] at hD
          cases hD
      · rcases List.mem_append.mp hb with h | h
        · exact ⟨(hr b h).1, by
            rw [upd_ne (fun e => hDn (by rw [← e]; exact h))]
            exact s3 _ _ (hr b h).2⟩
        · have e := List.mem_singleton.mp h
          refine ⟨by rw [e]; exact Same.free (s1.trans s2) np, ?_⟩
          rw [e, upd_ne (fun z => by rw [← z, np] at hD; cases hD)]
          exact hp
  · obtain ⟨rw_, hD, s2, hlen, hnd, hDn, hr⟩ := hP
    exact q D H2 rw_ (s1.trans s2) (Same.free s1 nD) hD hlen hnd hDn hr
theorem vn_lcR2 {j lo hi : Nat} {pb : Nat → Bool} {f : Nat → V} (hl : Va tr σ H [.int (lo : Nat), .int (hi : Nat)]) (hz : lo ≤ 1000 ∧ hi ≤ 1000)
    (ht : ∀ x : Nat, lo ≤ x → x < hi → ∀ H', Same H H' → An tt ((σ.set j none).set j (some (.int (x : Nat)))) H' (pb x)) (he : ∀ x : Nat, lo ≤ x → x < hi → ∀ H', Same H H' → Vl te ((σ.set j none).set j (some (.int (x : Nat)))) H' (f x)) :
    Vn (tLc (iRng2 tr) (gName j) tt te [j]) σ H (((List.range' lo (hi - lo)).filter pb).map f) := fun Q q => by
  have en : ((hi : Int) - (lo : Int)).toNat = hi - lo := by omega
  refine hl _ ⟨_, _, rfl, ⟨by omega, by omega, by omega, by omega⟩, fun D nD => ?_⟩
  rw [en]
  refine lc_range (fun i H' => H' D = some (.lst (((List.range' lo i).filter pb).map f)) ∧ Same H H') ⟨upd_same, same_upd nD⟩ (fun i H2 hi2 hP => ?_) (fun H2 hP => ?_)
  · obtain ⟨hD, s2⟩ := hP
    have e0 : (lo : Int) + (i : Int) = ((lo + i : Nat) : Int) := by omega
    rw [e0]
    have e : (List.range' lo (i + 1)).filter pb = (List.range' lo i).filter pb ++ [lo + i].filter pb := by
      rw [List.range'_concat, Nat.one_mul]
      exact List.filter_append ..
    refine ⟨?_, ht (lo + i) (by omega) (by omega) H2 s2 _ ?_⟩
    · show ((σ.set j none).set j (some (V.int _))).set j none = σ.set j none
      rw [List.set_set, List.set_set]
    · cases hp : pb (lo + i) with
      | true =>
        have e2 : [lo + i].filter pb = [lo + i] := by
          rw [List.filter_cons, hp]
          rfl
        refine iteT (B := H2 D = some (.lst (((List.range' lo (i + 1)).filter pb).map f)) ∧ Same H H2) (he (lo + i) (by omega) (by omega) H2 s2 _ ⟨_, hD, ?_, ?_, same_upd' s2 nD⟩)
        · rw [List.length_map]
          have h1 : ((List.range' lo i).filter pb).length ≤ i := Nat.le_trans (List.length_filter_le _ _) (by rw [List.length_range']; exact Nat.le_refl _)
          exact Nat.lt_of_le_of_lt (m := 1000000) (by omega) (by decide)
        · rw [upd_same, e, e2, List.map_append]
          rfl
      | false =>
        have e2 : [lo + i].filter pb = [] := by
          rw [List.filter_cons, hp]
          rfl
        refine iteF ⟨?_, s2⟩
        rw [e, e2, List.append_nil]
        exact hD
  · exact q D H2 hP.2 nD hP.1
/-- for x, y in combinations(xs, 2) -/
theorem for_cm {ps : List (V × V)} {g : TG} {tb : TS} {D : Ends} (Pv : Nat → L2.St → Hp → Prop) (h0 : Pv 0 σ H)
    (hs : ∀ (i : Nat) x y T σ H, ps[i]? = some (x, y) → Pv i σ H → H T = none → g (.ref T) σ (upd H T (.tup [x, y])) fun σ2 H2 => tb { D with nx := Pv (i + 1), ct := Pv (i + 1), bk := D.nx } σ2 H2) (hd : ∀ σ H, Pv ps.length σ H → D.nx σ H) :
    ∃ W : Nat → Nat → L2.St → Hp → Prop, (∃ m, W 0 m σ H) ∧ ∀ i m σ H, W i m σ H → ((Itcm ps).stop i H ∧ D.nx σ H) ∨
      ((Itcm ps).go i H ∧ ∃ N : L2.St → Hp → Prop, (∀ σ' H', N σ' H' → ∃ m', m' < m ∧ W (i + 1) m' σ' H') ∧ ∀ v H', (Itcm ps).yld i H v H' → g v σ H' fun σ2 H2 => tb { D with nx := N, ct := N, bk := D.nx } σ2 H2) := by
  refine ⟨fun i m σ H => m + i = ps.length ∧ Pv i σ H, ⟨ps.length, rfl, h0⟩, fun i m σ H hW => ?_⟩
  obtain ⟨em, p⟩ := hW
  by_cases hlt : i < ps.length
  · refine .inr ⟨hlt, Pv (i + 1), fun σ' H' p' => ⟨m - 1, by omega, by omega, p'⟩, fun v H' yy => ?_⟩
    obtain ⟨T, x, y, rfl, hT, rfl, f1⟩ := yy
    exact hs i x y T σ H f1 p hT
  · have e : i = ps.length := by omega
    rw [e] at p
    exact .inl ⟨by rw [e]; exact Nat.le_refl _, hd σ H p⟩
end
theorem q_par {σ : L2.St} {H : Hp} {ta : TA} {D : Ends} {tw : TS} {x y : V} {i j : Nat} (h : Va ta σ H [x, y]) (k : tw D ((σ.set i (some x)).set j (some y)) H) : tSeq (tPar i j ta) tw D σ H := h _ ⟨x, y, rfl, k⟩
theorem g_asgG {σ : L2.St} {H : Hp} {te : TE} {g : TG} {D : Ends} {xs : List V} (h : Vn te σ H xs) (k : ∀ p H', Same H H' → H p = none → H' p = some (.lst xs) → g (.ref p) σ H' D.nx) : tAsg te g D σ H := h _ k
/-- joined[x][y] = True -/
theorem g_setM {K : PySem.W.Frag} {σ : L2.St} {H : Hp} {t0 t1 t2 : TE} {D : Ends} {j a : Addr} {xs ys : List V} {x y : Nat} {v : V} (h0 : Vl t0 σ H (.ref j)) (h1 : Vl t1 σ H (.int (x : Nat))) (h2 : Vl t2 σ H (.int (y : Nat))) (hj : SqL K H j xs) (hx : xs[x]? = some (.ref a)) (ha : H a = some (.lst ys)) (hy : y < ys.length)
    (k : D.nx σ (upd H a (.lst (ys.set y v)))) : tAsg (tC v) (gSub (tOp (rIxL K) t0 t1) t2 rSetL) D σ H :=
  (vl_ixL (K := K) h0 h1 hj (atI_nat hx)) _ (h2 _ ⟨a, ys, (y : Nat), y, rfl, rfl, ha, by
    unfold ixN
    rw [if_pos (by omega), if_pos (by omega)]
    rw [Int.toNat_natCast], k⟩)
/-! ### the matrix -/
structure MatAt (H : Hp) (j : Addr) (rw : List Addr) (n : Nat) (M : Nat → Nat → Bool) : Prop where
  top : H j = some (.lst (rw.map V.ref))
  len : rw.length = n
  nd : rw.Nodup
  jn : j ∉ rw
  row : ∀ (i : Nat) a, rw[i]? = some a → H a = some (.lst ((List.range n).map fun k => V.bl (M i k)))
theorem MatAt.to {H H' : Hp} {j : Addr} {rw : List Addr} {n : Nat} {M : Nat → Nat → Bool} (h : MatAt H j rw n M) (s : Same H H') : MatAt H' j rw n M := ⟨s _ _ h.top, h.len, h.nd, h.jn, fun i a e => s _ _ (h.row i a e)⟩
theorem MatAt.is {H : Hp} {j : Addr} {rw : List Addr} {n : Nat} {M M' : Nat → Nat → Bool} (h : MatAt H j rw n M) (e : ∀ i k, i < n → k < n → M' i k = M i k) : MatAt H j rw n M' := ⟨h.top, h.len, h.nd, h.jn, fun i a g => by
  rw [h.row i a g]
  have hi := (List.getElem?_eq_some_iff.mp g).1
  rw [h.len] at hi
  congr 2
  exact List.map_congr_left fun k hk => by rw [e i k hi (List.mem_range.mp hk)]⟩
theorem MatAt.set {H : Hp} {j : Addr} {rw : List Addr} {n : Nat} {M M' : Nat → Nat → Bool} {x y : Nat} {a : Addr} (h : MatAt H j rw n M) (ha : rw[x]? = some a) (hy : y < n) (e : ∀ i k, i < n → k < n → M' i k = (M i k || (decide (i = x) && decide (k = y)))) :
    MatAt (upd H a (.lst (((List.range n).map fun k => V.bl (M x k)).set y (.bl true)))) j rw n M' where
  top := by
    rw [upd_ne (fun z => h.jn (by rw [z]; exact List.mem_of_getElem? ha))]
    exact h.top
  len := h.len
  nd := h.nd
  jn := h.jn
  row := fun i b hb => by
    have hi := (List.getElem?_eq_some_iff.mp hb).1
    rw [h.len] at hi
    by_cases c : i = x
    · subst c
      cases hb.symm.trans ha
      rw [upd_same]
      congr 2
      refine List.ext_getElem (by rw [List.length_set, List.length_map, List.length_map]) fun k h1 h2 => ?_
      rw [List.length_map, List.length_range] at h2
      rw [List.getElem_set]
      simp only [List.getElem_map, List.getElem_range]
      rw [e i k hi h2, decide_eq_true rfl, Bool.true_and]
      by_cases d : y = k
      · rw [if_pos d, decide_eq_true d.symm, Bool.or_true]
      · rw [if_neg d, decide_eq_false (fun z => d z.symm), Bool.or_false]
    · have hne : b ≠ a := fun z => by
        rw [z, ← ha] at hb
        exact c ((List.getElem?_inj (by rw [h.len]; exact hi) h.nd).mp hb)
      rw [upd_ne hne, h.row i b hb]
      congr 2
      exact List.map_congr_left fun k hk => by rw [e i k hi (List.mem_range.mp hk), decide_eq_false c, Bool.false_and, Bool.or_false]
theorem MatAt.at_ {H : Hp} {j : Addr} {rw : List Addr} {n : Nat} {M : Nat → Nat → Bool} {x : Nat} (h : MatAt H j rw n M) (hx : x < n) : ∃ a, rw[x]? = some a ∧ (rw.map V.ref)[x]? = some (.ref a) ∧ H a = some (.lst ((List.range n).map fun k => V.bl (M x k))) := by
  have hx2 : x < rw.length := by
    rw [h.len]
    exact hx
  have e : rw[x]? = some rw[x] := List.getElem?_eq_getElem hx2
  exact ⟨_, e, by rw [List.getElem?_map, e] <;> rfl, h.row x _ e⟩
abbrev sUpper : Stmt := topS 13
theorem scUpper : FnScope ["net", "order", "n", "links", "rank", "joined", "link", "a", "b", "found", "low", "place", "above", "first", "second", "_", "high"] ["net", "order"] (defScope sUpper) := ⟨rfl, rfl, rfl, by decide +kernel, rfl, by decide +kernel, by decide +kernel⟩
section
variable {P : Program} {w : World} {K : PySem.W.Frag} {mg : Str → Option Value} {base : Heap} {CN fI : Addr}
theorem ok_upper {f : Addr} {fd : FuncData} {k : Nat} (F : Fun K "upper" "upper" sUpper f fd) (c_ranks : KalX P w K mg base k "ranks" ["order"] (spRk K CN)) (ml : mg "len" = none) (me : mg "enumerate" = none) (mr : mg "range" = none) (mm : mg "min" = none) (mx : mg "max" = none) (mcmb : mg "combinations" = some (.type "itertools.combinations")) : FnOk P w K mg base CX0 (k + 1) f fd ["net", "order"] (spUpper K) := by
  refine F.ok scUpper (fun vs H Q E h => ?_) (fun cdv A outer s H vs Q E hr h => ?_)
  · obtain ⟨v, N, p, os, rfl, _⟩ := h
    rfl
  · obtain ⟨v, N, p, os, rfl, hN, okN, hS, oo, q⟩ := h
    refine ⟨_, pss_cons (ps_asg (pv 0) (pg_tup rfl (pgs_cons (pg_name (i := 2) scUpper.nd rfl (.inr rfl)) (pgs_cons (pg_name (i := 3) scUpper.nd rfl (.inl rfl)) pgs_nil))))
      (pss_cons (ps_set (i := 4) scUpper.nd rfl (.inl rfl) (pe_kx (E := fun _ _ _ => False) c_ranks hr (by first | decide | omega) (by rfl) takes0 (pa_cons (pv 1) pa_nil)))
      (pss_cons (ps_set (i := 5) scUpper.nd rfl (.inr rfl) (pe_lc (own := [("_", 15)]) (g := gName 15) (tt := tYes) (te := (tOp rRep (tLst (tCons (tC (.bl false)) tNil)) (tVar 2))) (by rfl) scUpper.nd (pi_list (pv 1)) (blkOk_by (own := [("_", 15)]) (N := ["net", "order", "n", "links", "rank", "joined", "link", "a", "b", "found", "low", "place", "above", "first", "second", "_", "high"]) (sc := defScope sUpper) (by decide +kernel)) (fun _ _ _ _ _ => pg_name (i := 15) scUpper.nd rfl (Or.inl rfl)) (fun _ _ _ _ _ => by exact pts_nil) (fun _ _ _ _ _ => by exact (pe_op op_rep (pe_lst (pa_cons pe_bl pa_nil)) (pv 2)))))
      (pss_cons (ps_for PassesOwn.never rfl (pi_list (pv 3)) (pg_name (i := 6) scUpper.nd rfl (.inl rfl))
      (pss_cons (ps_par (i := 7) (j := 8) (by rfl) scUpper.nd rfl rfl (by decide) rfl rfl (pa_cons (pe_ix ix_list (pv 4) (pe_ix ix_tup (pv 6) pe_int (fun _ _ => rfl)) (fun _ _ => rfl)) (pa_cons (pe_ix ix_list (pv 4) (pe_ix ix_tup (pv 6) pe_int (fun _ _ => rfl)) (fun _ _ => rfl)) pa_nil)) (by rfl))
        (pss_one (ps_asg pe_bl (pg_sub (pe_ix ix_list (pv 5) (pe_callB (call_min2 rfl) (by rfl) mm (by decide +kernel) (pa_cons (pv 7) (pa_cons (pv 8) pa_nil))) (fun _ _ => rfl)) (pe_callB (call_max2 rfl) (by rfl) mx (by decide +kernel) (pa_cons (pv 7) (pa_cons (pv 8) pa_nil))) set_list)))))
      (pss_cons (ps_setLc (i := 9) (own := [("_", 15)]) (g := gName 15) (tt := tYes) (te := (tLst tNil)) (by rfl) scUpper.nd rfl rfl (sw_true rfl rfl rfl (by decide +kernel)) (pi_list (pv 1)) (blkOk_by (own := [("_", 15)]) (N := ["net", "order", "n", "links", "rank", "joined", "link", "a", "b", "found", "low", "place", "above", "first", "second", "_", "high"]) (sc := defScope sUpper) (by decide +kernel)) (fun _ _ _ _ _ => pg_name (i := 15) scUpper.nd rfl (Or.inl rfl)) (fun _ _ _ _ _ => by exact pts_nil) (fun _ _ _ _ _ => by exact (pe_lst pa_nil)))
      (pss_cons (ps_for PassesOwn.never rfl (pi_enum (by rfl) me (pa_cons (pv 1) pa_nil)) (pg_tup rfl (pgs_cons (pg_name (i := 10) scUpper.nd rfl (.inr rfl)) (pgs_cons (pg_name (i := 11) scUpper.nd rfl (.inl rfl)) pgs_nil)))
      (pss_cons (ps_setLc (i := 12) (own := [("high", 16)]) (g := gName 16) (tt := (tTest (tOp (rIxL K) (tOp (rIxL K) (tVar 5) (tVar 10)) (tVar 16)))) (te := (tVar 16)) (by rfl) scUpper.nd rfl rfl (sw_true rfl rfl rfl (by decide +kernel)) (pi_range2 (by rfl) mr (pa_cons (pe_op op_add (pv 10) pe_int) (pa_cons (pv 2) pa_nil))) (blkOk_by (own := [("high", 16)]) (N := ["net", "order", "n", "links", "rank", "joined", "link", "a", "b", "found", "low", "place", "above", "first", "second", "_", "high"]) (sc := defScope sUpper) (by decide +kernel)) (fun _ _ _ _ _ => pg_name (i := 16) scUpper.nd rfl (Or.inl rfl)) (fun _ _ _ _ _ => by exact (pts_one (pt_val (pe_ix ix_list (pe_ix ix_list (pv 5) (pv 10) (fun _ _ => rfl)) (pv 16) (fun _ _ => rfl))))) (fun _ _ _ _ _ => by exact (pv 16)))
        (pss_cons (ps_for PassesOwn.never rfl (pi_cmb (by rfl) mcmb (pa_cons (pv 12) (pa_cons pe_int pa_nil))) (pg_tup rfl (pgs_cons (pg_name (i := 13) scUpper.nd rfl (.inl rfl)) (pgs_cons (pg_name (i := 14) scUpper.nd rfl (.inl rfl)) pgs_nil)))
        (pss_one (ps_asg pe_bl (pg_sub (pe_ix ix_list (pv 5) (pv 13) (fun _ _ => rfl)) (pv 14) set_list))))
        (pss_one (ps_asg (pe_lc (own := [("high", 16)]) (g := gName 16) (tt := tYes) (te := (tOp (rIxL K) (tVar 1) (tVar 16))) (by rfl) scUpper.nd (pi_list (pv 12)) (blkOk_by (own := [("high", 16)]) (N := ["net", "order", "n", "links", "rank", "joined", "link", "a", "b", "found", "low", "place", "above", "first", "second", "_", "high"]) (sc := defScope sUpper) (by decide +kernel)) (fun _ _ _ _ _ => pg_name (i := 16) scUpper.nd rfl (Or.inl rfl)) (fun _ _ _ _ _ => by exact pts_nil) (fun _ _ _ _ _ => by exact (pe_ix ix_list (pv 1) (pv 16) (fun _ _ => rfl)))) (pg_sub (pv 9) (pv 11) set_list))))))
      (pss_one (ps_ret (pv 9)))))))), ?_⟩
    obtain ⟨p0, c, xs, rfl, hp0, hc, hx⟩ := Dp.net_inv hN
    have on := oo.len
    have n40 := okN.n40
    have n1 := okN.n1
    have l16 := okN.len
    have hnd := oo.nodup
    have hbad : badAt os = none := bad_iff.mpr (by
      rw [show (os.length : Int) = N.n by omega]
      exact oo)
    have lx := DpAll.len hx
    rw [List.length_map] at lx
    refine q_asgT2 (vl_var rfl) hp0 ?_
    refine q_asgE ⟨.ref p, rfl, p, os, rfl, hS, by omega, ?_⟩
    rw [hbad]
    intro G r sG nr er
    -- the matrix
    refine q_asgE (lc_rows (ys := List.replicate os.length (.bl false)) (vx_list (vl_var rfl) (sG.seq hS)) (by rw [List.length_map]; omega) (fun x H' s' => ?_) fun j H1 rw_ s1 nj ej rl rnd jn rr => ?_)
    · exact vn_rep vl_c (fun _ _ => (vl_var rfl).is (by rw [show N.n = ((os.length : Nat) : Int) by omega])) (by omega)
    have hM1 : MatAt H1 j rw_ os.length (Lk N.ls os 0) := ⟨ej, by rw [rl, List.length_map], rnd, jn, fun i a e => by
      rw [(rr a (List.mem_of_getElem? e)).2, Lk_zero]
      congr 2
      exact List.ext_getElem (by simp) fun k h1 h2 => by simp⟩
    have hrG : ∀ a ∈ rw_, G a = none := fun a h => (rr a h).1
    refine q_forLk (j := 6) (Hb := G) (vl_var rfl) (sG.seq hc) (DpAll.to hx sG) s1
      (fun i σ H3 => ∃ y6 y7 y8, σ = [some (.ref p0), some (.ref p), some (.int N.n), some (.ref c), some (.ref r), some (.ref j), y6, y7, y8, none, none, none, none, none, none, none, none] ∧ Same G H3 ∧ MatAt H3 j rw_ os.length (Lk N.ls os i))
      ⟨none, none, none, rfl, s1, hM1⟩ (fun i σ H3 hP => ?_) (fun i l t σ H3 hl ht hP => ?_) (fun σ H3 hP => ?_)
    · obtain ⟨_, _, _, _, s3, _⟩ := hP
      exact s3
    · obtain ⟨y6, y7, y8, rfl, s3, hM⟩ := hP
      have hlm := okN.ok l (List.mem_of_getElem? hl)
      have a0 := hlm.a0
      have ab := hlm.ab
      have bn := hlm.bn
      have ha : l.a ∈ os := oo.mem.mpr (by omega)
      have hb : l.b ∈ os := oo.mem.mpr (by omega)
      have rka : (rk os)[l.a.toNat]? = some (posOf l.a os : Int) := by
        unfold rk
        rw [List.getElem?_map, List.getElem?_eq_getElem (by rw [len_rng]; omega), rng_get (by rw [len_rng]; omega), show ((l.a.toNat : Nat) : Int) = l.a by omega] <;> rfl
      have rkb : (rk os)[l.b.toNat]? = some (posOf l.b os : Int) := by
        unfold rk
        rw [List.getElem?_map, List.getElem?_eq_getElem (by rw [len_rng]; omega), rng_get (by rw [len_rng]; omega), show ((l.b.toNat : Nat) : Int) = l.b by omega] <;> rfl
      have pa := pos_len ha
      have pb := pos_len hb
      generalize hA : posOf l.a os = A1 at rka pa
      generalize hB : posOf l.b os = B1 at rkb pb
      refine q_par (va_cons (vl_ixI (K := K) (vl_var rfl) ((vl_ixT (vl_var rfl) vl_c (seqT s3 ht) (atI_nat (j := 0) rfl)).is (by rw [show ((l.a.toNat : Nat) : Int) = l.a by omega])) (.of (s3 _ _ er)) rka) (va_cons (vl_ixI (K := K) (vl_var rfl) ((vl_ixT (vl_var rfl) vl_c (seqT s3 ht) (atI_nat (j := 1) rfl)).is (by rw [show ((l.b.toNat : Nat) : Int) = l.b by omega])) (.of (s3 _ _ er)) rkb) va_nil)) ?_
      obtain ⟨a1, e1, e2, e3⟩ := hM.at_ (x := min A1 B1) (by omega)
      refine g_setM (x := min A1 B1) (y := max A1 B1) (vl_var rfl) ((vl_min2 (vl_var rfl) (vl_var rfl)).is ?_) ((vl_max2 (vl_var rfl) (vl_var rfl)).is ?_) (.of hM.top) e2 e3 (by rw [List.length_map, List.length_range]; omega) ⟨_, _, _, rfl, same_upd' s3 (hrG a1 (List.mem_of_getElem? e1)), hM.set e1 (by omega) fun i' k' hi hk => ?_⟩
      · congr 1
        split <;> omega
      · congr 1
        split <;> omega
      · rw [Lk_succ hnd hl ha hb hi hk, hA, hB, decide_eq_true (show l.a ≠ l.b by omega), Bool.and_true]
    · obtain ⟨y6, y7, y8, rfl, s3, hM⟩ := hP
      rw [Lk_end] at hM
      -- found
      refine q_asgE (lc_rows (ys := []) (vx_list (vl_var rfl) ((sG.trans s3).seq hS)) (by rw [List.length_map]; omega) (fun x H' s' => vn_lst va_nil (Nat.zero_le _)) fun fo H4 fr s4 nf ef fl fnd_ fn ff => ?_)
      have hfG := Same.free s3 nf
      have hfr : fo ∉ rw_ := fun h => by
        obtain ⟨i, hi⟩ := List.mem_iff_getElem?.mp h
        rw [hM.row i fo hi] at nf
        cases nf
      have hfj : j ≠ fo := fun z => by
        have := hM.top
        rw [z, nf] at this
        cases this
      refine ⟨.ref p, rfl, p, _, rfl, (sG.trans (s3.trans s4)).seq hS, for_en (xs := os.map V.int)
        (fun m σ H5 => ∃ y6 y7 y8 y10 y11 y12 y13 y14 fs, σ = [some (.ref p0), some (.ref p), some (.int N.n), some (.ref c), some (.ref r), some (.ref j), y6, y7, y8, some (.ref fo), y10, y11, y12, y13, y14, none, none] ∧ Same G H5 ∧ MatAt H5 j rw_ os.length (Jm N.ls os m) ∧
          H5 fo = some (.lst fs) ∧ fs.length = os.length ∧ ∀ w, w < m → ∃ a, fs[(oA os w).toNat]? = some (.ref a) ∧ G a = none ∧ a ≠ fo ∧ a ∉ rw_ ∧ H5 a = some (.lst ((upP N.ls os (oA os w)).map V.int)))
        ⟨_, _, _, none, none, none, none, none, _, rfl, s3.trans s4, hM.to s4, ef, by rw [List.length_map, fl, List.length_map], fun w hw => absurd hw (Nat.not_lt_zero _)⟩ (fun m σ H5 hP => ?_) (fun m x T2 σ H5 hi hP nT2 => ?_) (fun σ H5 hP => ?_)⟩
      · obtain ⟨_, _, _, _, _, _, _, _, _, _, s5, _⟩ := hP
        exact (sG.trans s5).seq hS
      · obtain ⟨y6, y7, y8, y10, y11, y12, y13, y14, fs, rfl, s5, hM5, ef5, fl5, hrow⟩ := hP
        have hm : m < os.length := by
          have := (List.getElem?_eq_some_iff.mp hi).1
          rw [List.length_map] at this
          exact this
        rw [List.getElem?_map, oA_get hm] at hi
        cases hi
        refine ⟨T2, _, rfl, .of upd_same, rfl, _, _, rfl, _, _, rfl, rfl, ?_⟩
        have s6 : Same H5 (upd H5 T2 (.tup [.int (m : Nat), .int (oA os m)])) := same_upd nT2
        have s56 := s5.trans s6
        have hM6 := hM5.to s6
        have ef6 := s6 _ _ ef5
        have hrow6 : ∀ w, w < m → ∃ a, fs[(oA os w).toNat]? = some (.ref a) ∧ G a = none ∧ a ≠ fo ∧ a ∉ rw_ ∧ upd H5 T2 (.tup [.int (m : Nat), .int (oA os m)]) a = some (.lst ((upP N.ls os (oA os w)).map V.int)) := fun w hw => by
          obtain ⟨a, z1, z2, z3, z4, z5⟩ := hrow w hw
          exact ⟨a, z1, z2, z3, z4, s6 _ _ z5⟩
        clear hrow hM5 ef5 nT2
        generalize upd H5 T2 (.tup [.int (m : Nat), .int (oA os m)]) = H6 at s6 s56 hM6 ef6 hrow6 ⊢
        -- above
        obtain ⟨am, g1, g2, g3⟩ := hM6.at_ hm
        refine q_asgN (xs := (abv (Jm N.ls os m) m os.length).map fun k => V.int (k : Nat)) (vn_lcR2 (lo := m + 1) (hi := os.length) (va_cons ((vl_I0 (vl_var rfl) vl_c).is (by
          show V.int ((m : Int) + 1) = V.int ((m + 1 : Nat) : Int)
          rfl)) (va_cons ((vl_var rfl).is (by rw [show N.n = ((os.length : Nat) : Int) by omega])) va_nil)) ⟨by omega, by omega⟩ (fun x h1 h2 H' s' => ?_) (fun x h1 h2 H' s' => vl_var rfl)) fun ab H7 s7 nab eab => ?_
        · exact an_test (vl_ixL (K := K) (vl_ixL (K := K) (vl_var rfl) (vl_var rfl) (.of (s' _ _ hM6.top)) (atI_nat g2)) (vl_var rfl) (.of (s' _ _ g3)) (atI_nat (by rw [List.getElem?_map, List.getElem?_range h2] <;> rfl)))
        have hM7 := hM6.to s7
        have ef7 := s7 _ _ ef6
        have s57 := s56.trans s7
        have hrow7 : ∀ w, w < m → ∃ a, fs[(oA os w).toNat]? = some (.ref a) ∧ G a = none ∧ a ≠ fo ∧ a ∉ rw_ ∧ H7 a = some (.lst ((upP N.ls os (oA os w)).map V.int)) := fun w hw => by
          obtain ⟨a, z1, z2, z3, z4, z5⟩ := hrow6 w hw
          exact ⟨a, z1, z2, z3, z4, s7 _ _ z5⟩
        have habr : ab ∉ rw_ := fun h => by
          obtain ⟨i, hi⟩ := List.mem_iff_getElem?.mp h
          rw [hM6.row i ab hi] at nab
          cases nab
        clear hrow6 hM6 ef6 g3
        -- the pairs of above
        refine ⟨.ref ab, rfl, ab, _, rfl, .of eab, for_cm
          (fun t σ H8 => ∃ y13 y14, σ = [some (.ref p0), some (.ref p), some (.int N.n), some (.ref c), some (.ref r), some (.ref j), y6, y7, y8, some (.ref fo), some (.int (m : Nat)), some (.int (oA os m)), some (.ref ab), y13, y14, none, none] ∧ Same G H8 ∧ Same (msk (· ∈ rw_) H7) (msk (· ∈ rw_) H8) ∧
            MatAt H8 j rw_ os.length (fun i k => Jm N.ls os m i k || decide ((i, k) ∈ (CpCmb.cmbs (abv (Jm N.ls os m) m os.length)).take t)))
          ⟨_, _, rfl, s57, Same.refl _, hM7.is fun i k _ _ => by rw [List.take_zero, decide_eq_false (by exact List.not_mem_nil), Bool.or_false]⟩ (fun t x y T3 σ H8 ht hP nT3 => ?_) (fun σ H8 hP => ?_)⟩
        · obtain ⟨y13, y14, rfl, s8, k8, hM8⟩ := hP
          rw [CpCmb.cmbs_map, List.getElem?_map] at ht
          cases hq : (CpCmb.cmbs (abv (Jm N.ls os m) m os.length))[t]? with
          | none =>
            rw [hq] at ht
            cases ht
          | some xy =>
            obtain ⟨i1, k1⟩ := xy
            rw [hq] at ht
            cases ht
            have hmem := (mem_cmbs abv_asc).mp (List.mem_of_getElem? hq)
            have hi1 := (mem_abv.mp hmem.2.1).1.2
            have hk1 := (mem_abv.mp hmem.2.2).1.2
            refine ⟨T3, _, rfl, .of upd_same, rfl, _, _, rfl, _, _, rfl, rfl, ?_⟩
            have s9 : Same H8 (upd H8 T3 (.tup [.int (i1 : Nat), .int (k1 : Nat)])) := same_upd nT3
            have s89 := s8.trans s9
            have k89 := k8.trans (msk_mono s9)
            have hM9 := hM8.to s9
            generalize upd H8 T3 (.tup [.int (i1 : Nat), .int (k1 : Nat)]) = H9 at s9 s89 k89 hM9 ⊢
            obtain ⟨a1, e1, e2, e3⟩ := hM9.at_ hi1
            refine g_setM (x := i1) (y := k1) (vl_var rfl) (vl_var rfl) (vl_var rfl) (.of hM9.top) e2 e3 (by rw [List.length_map, List.length_range]; exact hk1) ⟨_, _, rfl, same_upd' s89 (hrG a1 (List.mem_of_getElem? e1)), by
              rw [msk_upd (List.mem_of_getElem? e1)]
              exact k89, hM9.set e1 hk1 fun i' k' _ _ => ?_⟩
            rw [take_snoc hq, Bool.eq_iff_iff]
            simp only [List.mem_append, List.mem_singleton, Prod.mk.injEq, Bool.or_eq_true, Bool.and_eq_true, decide_eq_true_eq, or_assoc]
        · obtain ⟨y13, y14, rfl, s8, k8, hM8⟩ := hP
          have ef8 := msk_get k8 ef7 hfr
          have eab8 := msk_get k8 eab habr
          have hrow8 : ∀ w, w < m → ∃ a, fs[(oA os w).toNat]? = some (.ref a) ∧ G a = none ∧ a ≠ fo ∧ a ∉ rw_ ∧ H8 a = some (.lst ((upP N.ls os (oA os w)).map V.int)) := fun w hw => by
            obtain ⟨a, z1, z2, z3, z4, z5⟩ := hrow7 w hw
            exact ⟨a, z1, z2, z3, z4, msk_get k8 z5 z4⟩
          have hxm := oo.mem.mp (List.mem_of_getElem? (oA_get hm))
          have hM10 : MatAt H8 j rw_ os.length (Jm N.ls os (m + 1)) := hM8.is fun i k hi hk => by
            rw [Jm_succ okN oo hm hi hk, show ((CpCmb.cmbs ((abv (Jm N.ls os m) m os.length).map fun k => V.int (k : Nat))).length) = (CpCmb.cmbs (abv (Jm N.ls os m) m os.length)).length by rw [CpCmb.cmbs_map, List.length_map], List.take_length]
          refine g_asgG (xs := (upP N.ls os (oA os m)).map V.int) (vn_lc (xs := (abv (Jm N.ls os m) m os.length).map fun k => V.int (k : Nat)) (ys := (upP N.ls os (oA os m)).map V.int) (vx_list (vl_var rfl) (.of eab8)) (by
            rw [← aboveOf okN oo hm, List.length_map, List.length_map, List.length_map]
            rfl) (by rw [List.length_map]; have := up_len (u := oA os m) okN oo; omega) fun i x y H' s' hx' hy' => ?_) fun rq H11 s11 nrq erq => ?_
          · rw [← aboveOf okN oo hm, List.map_map, List.getElem?_map] at hy'
            rw [List.getElem?_map] at hx'
            unfold abv at hx'
            cases e : ((List.range' (m + 1) (os.length - (m + 1))).filter (Jm N.ls os m m))[i]? with
            | none =>
              rw [e] at hx'
              cases hx'
            | some z =>
              rw [e] at hx' hy'
              cases hx'
              cases hy'
              have hz := (mem_abv (M := Jm N.ls os m) (m := m) (n := os.length)).mp (List.mem_of_getElem? e)
              exact ve_of (vl_ixI (K := K) (vl_var rfl) (vl_var rfl) ((sG.trans (s8.trans s')).seq hS) (oA_get hz.1.2))
          · have hrr : rq ∉ rw_ := fun h => by
              obtain ⟨i, hi⟩ := List.mem_iff_getElem?.mp h
              rw [hM8.row i rq hi] at nrq
              cases nrq
            have hrf : rq ≠ fo := fun z => by
              rw [z, ef8] at nrq
              cases nrq
            refine ⟨.ref fo, rfl, .int (oA os m), rfl, fo, fs, oA os m, (oA os m).toNat, rfl, rfl, s11 _ _ ef8, ?_, ?_⟩
            · unfold ixN
              rw [if_pos hxm.1, if_pos (by omega)]
            · refine ⟨_, _, _, _, _, _, _, _, _, rfl, same_upd' (s8.trans s11) hfG, ?_, upd_same, by rw [List.length_set]; exact fl5, fun w hw => ?_⟩
              · have := hM10.to s11
                exact ⟨by
                  rw [upd_ne hfj]
                  exact this.top, this.len, this.nd, this.jn, fun i a e => by
                  rw [upd_ne (fun z => hfr (by rw [← z]; exact List.mem_of_getElem? e))]
                  exact this.row i a e⟩
              · by_cases e : w = m
                · subst e
                  refine ⟨rq, ?_, Same.free s8 nrq, hrf, hrr, ?_⟩
                  · rw [List.getElem?_set_self (by omega)]
                  · rw [upd_ne hrf]
                    exact erq
                · obtain ⟨a, z1, z2, z3, z4, z5⟩ := hrow8 w (by omega)
                  refine ⟨a, ?_, z2, z3, z4, ?_⟩
                  · have hxw := oo.mem.mp (List.mem_of_getElem? (oA_get (os := os) (i := w) (by omega)))
                    rw [List.getElem?_set_ne (fun z => ?_)]
                    · exact z1
                    · have e3 : oA os m = oA os w := by omega
                      have p1 := oA_pos hnd hm
                      have p2 := oA_pos hnd (i := w) (by omega)
                      rw [e3, p2] at p1
                      exact e p1
                  · rw [upd_ne z3]
                    exact s11 _ _ z5
      · obtain ⟨y6, y7, y8, y10, y11, y12, y13, y14, fs, rfl, s5, hM5, ef5, fl5, hrow⟩ := hP
        refine g_ret (vl_var rfl) (q H5 fo fs (sG.trans s5) (Same.free sG hfG) ef5 ⟨by omega, fun x h0 h1 => ?_⟩)
        have hx := oo.mem.mpr ⟨h0, h1⟩
        obtain ⟨a, z1, z2, z3, z4, z5⟩ := hrow (posOf x os) (by rw [List.length_map]; exact pos_len hx)
        rw [oA_of hx] at z1 z5
        exact ⟨a, z1, Same.free sG z2, z3, z5⟩
end
/-! ### the law's links, ranks -/
structure LinkAt (H : Hp) (o : Addr) (N : Net) : Prop where
  ex : ∃ kvs, H o = some (.dK kvs) ∧ kvs.length = N.n.toNat ∧ ∀ x : Int, 0 ≤ x → x < N.n → ∃ a ns, valV kvs (.inl x) = some (.ref a) ∧ H a = some (.lst ((ns : List Int).map V.int)) ∧ ns.length ≤ 4000 ∧ ∀ y, y ∈ ns ↔ adj0 N.ls x y = true
structure RankAt (H : Hp) (o : Addr) (os : List Int) : Prop where
  ex : ∃ kvs, H o = some (.dK kvs) ∧ ∀ x ∈ os, valV kvs (.inl x) = some (.int (posOf x os : Nat))
theorem LinkAt.to {H H' : Hp} {o : Addr} {N : Net} (h : LinkAt H o N) (s : Same H H') : LinkAt H' o N := by
  obtain ⟨kvs, h1, h2, h3⟩ := h.ex
  exact ⟨kvs, s _ _ h1, h2, fun x h0 h1 => let ⟨a, ns, h4, h5, h6⟩ := h3 x h0 h1; ⟨a, ns, h4, s _ _ h5, h6⟩⟩
theorem RankAt.to {H H' : Hp} {o : Addr} {os : List Int} (h : RankAt H o os) (s : Same H H') : RankAt H' o os := by
  obtain ⟨kvs, h1, h2⟩ := h.ex
  exact ⟨kvs, s _ _ h1, h2⟩
theorem adj_take {ls : List Lnk} {i : Nat} {l : Lnk} (h : ls[i]? = some l) {x y : Int} : adj0 (ls.take (i + 1)) x y = true ↔ adj0 (ls.take i) x y = true ∨ (l.a = x ∧ l.b = y) ∨ (l.a = y ∧ l.b = x) := by
  rw [take_snoc h, adj0_iff, adj0_iff]
  constructor
  · rintro ⟨m, hm, e⟩
    rcases List.mem_append.mp hm with hm | hm
    · exact .inl ⟨m, hm, e⟩
    · rw [List.mem_singleton.mp hm] at e
      exact .inr e
  · rintro (⟨m, hm, e⟩ | e)
    · exact ⟨m, List.mem_append.mpr (.inl hm), e⟩
    · exact ⟨l, List.mem_append.mpr (.inr (List.mem_singleton.mpr rfl)), e⟩
abbrev sLinked : Stmt := topS 24
abbrev sRank : Stmt := topS 26
theorem scLinked : FnScope ["net", "linked", "place", "a", "b", "there", "back"] ["net"] (defScope sLinked) := ⟨rfl, rfl, rfl, by decide +kernel, rfl, by decide +kernel, by decide +kernel⟩
theorem scRank : FnScope ["order", "rank", "k"] ["order"] (defScope sRank) := ⟨rfl, rfl, rfl, by decide +kernel, rfl, by decide +kernel, by decide +kernel⟩
def spLinked (K : PySem.W.Frag) : Sp := fun vs H Q _ => ∃ (v : V) (N : Net), vs = [v] ∧ Dp K H v (netD N) ∧ NetOk N ∧ ∀ H' o, Same H H' → LinkAt H' o N → Q (.ref o) H'
def spRank (K : PySem.W.Frag) : Sp := fun vs H Q _ => ∃ (p : Addr) (os : List Int), vs = [.ref p] ∧ SqL K H p (os.map V.int) ∧ os.Nodup ∧ os.length ≤ 100 ∧ ∀ H' o, Same H H' → RankAt H' o os → Q (.ref o) H'
section
variable {P : Program} {w : World} {K : PySem.W.Frag} {mg : Str → Option Value} {base : Heap}
theorem ok_rank {f : Addr} {fd : FuncData} {k : Nat} (F : Fun K "_law_rank" "_law_rank" sRank f fd) (ml : mg "len" = none) (mr : mg "range" = none) : FnOk P w K mg base CX0 (k + 1) f fd ["order"] (spRank K) := by
  refine F.ok scRank (fun vs H Q E h => ?_) (fun cdv A outer s H vs Q E hr h => ?_)
  · obtain ⟨p, os, rfl, _⟩ := h
    rfl
  · obtain ⟨p, os, rfl, hS, hn, hl, q⟩ := h
    have hu := hu_of hr
    refine ⟨_, pss_cons (ps_set (i := 1) scRank.nd rfl (.inl rfl) pe_dnewK)
      (pss_cons (ps_for PassesOwn.never rfl (pi_range1 (by rfl) mr (pa_cons (pe_callB call_len_seq (by rfl) ml PySem.boot_len (pa_cons (pv 0) pa_nil)) pa_nil)) (pg_name (i := 2) scRank.nd rfl (.inl rfl))
      (pss_one (ps_dput hu (pv 1) (pe_ix ix_list (pv 0) (pv 2) (fun _ _ => rfl)) (pv 2) rfl)))
      (pss_one (ps_ret (pv 1)))), ?_⟩
    refine q_dnewK fun o no => ?_
    have so : Same H (upd H o (.dK [])) := same_upd no
    refine q_forR (n := (os.length : Int)) (va_cons (vl_lenI (vl_var rfl) (so.seq hS)) va_nil) ⟨by omega, by omega⟩
      (fun i σ H3 => ∃ y2 kvs, σ = [some (.ref p), some (.ref o), y2] ∧ H3 o = some (.dK kvs) ∧ Same H (but H3 o) ∧ kvs.length ≤ i ∧ ∀ x ∈ os.take i, valV kvs (.inl x) = some (.int (posOf x os : Nat)))
      ⟨none, [], rfl, upd_same, same_but so no, Nat.le_refl _, fun x hx => by
        rw [List.take_zero] at hx
        cases hx⟩ (fun i σ H3 hi hP => ?_) (fun σ H3 hP => ?_)
    · obtain ⟨y2, kvs, rfl, ho, s3, hk, hA⟩ := hP
      have hg : os[i]? = some os[i] := List.getElem?_eq_getElem (by omega)
      generalize os[i] = x at hg
      refine g_dputV (v := .int i) (vl_var rfl) (vl_var rfl) (vl_ixI (vl_var rfl) (vl_var rfl) ((s3.trans but_same).seq hS) hg) ho ?_ ?_
      · exact Nat.lt_of_le_of_lt (m := 10000) (by omega) (by decide)
      · refine ⟨_, _, rfl, upd_same, ?_, Nat.le_trans (length_putK _ _ _) (Nat.succ_le_succ hk), fun z hz => ?_⟩
        · rw [but_upd]
          exact s3
        · rw [valV_put]
          by_cases e : z = x
          · subst e
            rw [if_pos rfl, posOf_get hn hg]
          · rw [if_neg (fun h => e (Sum.inl.inj h))]
            rw [take_snoc hg] at hz
            rcases List.mem_append.mp hz with hz | hz
            · exact hA z hz
            · exact absurd (List.mem_singleton.mp hz) e
    · obtain ⟨y2, kvs, rfl, ho, s3, hk, hA⟩ := hP
      rw [Int.toNat_natCast, List.take_length] at hA
      exact g_ret (vl_var rfl) (q H3 o (s3.trans but_same) ⟨kvs, ho, hA⟩)
theorem ok_linked {f : Addr} {fd : FuncData} {k : Nat} (F : Fun K "_law_linked" "_law_linked" sLinked f fd) (mr : mg "range" = none) : FnOk P w K mg base CX0 (k + 1) f fd ["net"] (spLinked K) := by
  refine F.ok scLinked (fun vs H Q E h => ?_) (fun cdv A outer s H vs Q E hr h => ?_)
  · obtain ⟨v, N, rfl, _⟩ := h
    rfl
  · obtain ⟨v, N, rfl, hN, okN, q⟩ := h
    have hu := hu_of hr
    refine ⟨_, pss_cons (ps_set (i := 1) scLinked.nd rfl (.inl rfl) pe_dnewK)
      (pss_cons (ps_for PassesOwn.never rfl (pi_range1 (by rfl) mr (pa_cons (pe_ix ix_tup (pv 0) pe_int (fun _ _ => rfl)) pa_nil)) (pg_name (i := 2) scLinked.nd rfl (.inl rfl))
      (pss_one (ps_dput hu (pv 1) (pv 2) (pe_lst pa_nil) rfl)))
      (pss_cons (ps_for PassesOwn.never rfl (pi_list (pe_ix ix_tup (pv 0) pe_int (fun _ _ => rfl))) (pg_tup rfl (pgs_cons (pg_name (i := 3) scLinked.nd rfl (.inl rfl)) (pgs_cons (pg_name (i := 4) scLinked.nd rfl (.inl rfl)) (pgs_cons (pg_name (i := 5) scLinked.nd rfl (.inl rfl)) (pgs_cons (pg_name (i := 6) scLinked.nd rfl (.inl rfl)) pgs_nil)))))
      (pss_cons (ps_dput hu (pv 1) (pv 3) (pe_op op_cat (pe_dget hu (pv 1) (pv 3) (fun _ _ => rfl)) (pe_lst (pa_cons (pv 4) pa_nil))) rfl)
        (pss_one (ps_dput hu (pv 1) (pv 4) (pe_op op_cat (pe_dget hu (pv 1) (pv 4) (fun _ _ => rfl)) (pe_lst (pa_cons (pv 3) pa_nil))) rfl))))
      (pss_one (ps_ret (pv 1))))), ?_⟩
    obtain ⟨p, c, xs, rfl, hp, hc, hx⟩ := Dp.net_inv hN
    have n1 := okN.n1
    have n40 := okN.n40
    have l16 := okN.len
    refine q_dnewK fun o no => ?_
    have so : Same H (upd H o (.dK [])) := same_upd no
    refine q_forR (n := N.n) (va_cons (vl_ixT (vl_var rfl) vl_c (seqT so hp) (atI_nat (j := 0) rfl)) va_nil) ⟨by omega, by omega⟩
      (fun i σ H3 => ∃ y2 kvs, σ = [some (.ref p), some (.ref o), y2, none, none, none, none] ∧ H3 o = some (.dK kvs) ∧ Same H (but H3 o) ∧ kvs.length = i ∧ (∀ x : Int, (i : Int) ≤ x → valV kvs (.inl x) = none) ∧ ∀ x : Int, 0 ≤ x → x < i → ∃ a, valV kvs (.inl x) = some (.ref a) ∧ but H3 o a = some (.lst (([] : List Int).map V.int)))
      ⟨none, [], rfl, upd_same, same_but so no, rfl, fun _ _ => rfl, fun x h0 h1 => by omega⟩ (fun i σ H3 hi hP => ?_) (fun σ H3 hP => ?_)
    · obtain ⟨y2, kvs, rfl, ho, s3, hk, hN, hA⟩ := hP
      refine g_dputN (xs := ([] : List Int).map V.int) (vn_lst va_nil (Nat.zero_le _)) (fun _ _ => vl_var rfl) (fun _ _ => vl_var rfl) ho ?_ (fun a H4 s4 na ea => ?_)
      · exact Nat.lt_of_le_of_lt (m := 10000) (by omega) (by decide)
      · have oa : o ≠ a := ne_of_none ho na
        refine ⟨_, _, rfl, upd_same, ?_, ?_, fun x hx => ?_, fun x h0 h1 => ?_⟩
        · rw [but_upd]
          exact s3.trans (but_mono s4)
        · rw [putK_new _ (hN i (Int.le_refl _)), List.length_append, hk]
          rfl
        · rw [valV_put, if_neg (fun z => by
            have := Sum.inl.inj z
            omega)]
          exact hN x (by omega)
        · rw [valV_put, but_upd]
          by_cases e : x = (i : Int)
          · rw [if_pos (by rw [e])]
            exact ⟨a, rfl, by rw [but_ne oa.symm, ea]⟩
          · rw [if_neg (fun z => e (Sum.inl.inj z))]
            obtain ⟨b, hb1, hb2⟩ := hA x h0 (by omega)
            exact ⟨b, hb1, but_mono s4 _ _ hb2⟩
    · obtain ⟨y2, kvs, rfl, ho, s3, hk, hN, hA⟩ := hP
      rw [show ((N.n.toNat : Nat) : Int) = N.n by omega] at hA
      have sH := s3.trans but_same
      refine q_forLnk (j1 := 3) (j2 := 4) (j3 := 5) (j4 := 6) (Hb := H) (vl_ixT (vl_var rfl) vl_c (seqT sH hp) (atI_nat (j := 1) rfl)) hc hx sH
        (fun i σ H3 => ∃ y2 y3 y4 y5 y6 kvs near, σ = [some (.ref p), some (.ref o), y2, y3, y4, y5, y6] ∧ H3 o = some (.dK kvs) ∧ Same H (but H3 o) ∧ kvs.length = N.n.toNat ∧ ∀ x : Int, 0 ≤ x → x < N.n → ∃ a, valV kvs (.inl x) = some (.ref a) ∧ but H3 o a = some (.lst ((near x : List Int).map V.int)) ∧ (near x).length ≤ i ∧ ∀ y, y ∈ near x ↔ adj0 (N.ls.take i) x y = true)
        ⟨_, _, _, _, _, kvs, fun _ => [], rfl, ho, s3, hk, fun x h0 h1 => by
          obtain ⟨a, h2, h3⟩ := hA x h0 h1
          exact ⟨a, h2, h3, Nat.le_refl _, fun y => ⟨fun h => (nomatch h), fun h => (nomatch h)⟩⟩⟩ (fun i σ H3 hP => ?_) (fun i l σ H3 hl hP => ?_) (fun σ H3 hP => ?_)
      · obtain ⟨_, _, _, _, _, _, _, _, _, s4, _⟩ := hP
        exact s4.trans but_same
      · obtain ⟨y2, y3, y4, y5, y6, kvs, near, rfl, ho, s3, hk, hA⟩ := hP
        have hi := (List.getElem?_eq_some_iff.mp hl).1
        have hlk := okN.ok l (List.mem_of_getElem? hl)
        have h0 := hlk.a0
        have hab := hlk.ab
        have hbn := hlk.bn
        obtain ⟨aa, ha1, ha2, ha3, ha4⟩ := hA l.a (by omega) (by omega)
        refine q_dputN (xs := (near l.a ++ [l.b]).map V.int) (vn_catL (vl_dgetI (vl_var rfl) (vl_var rfl) ho ha1) (but_same _ _ ha2) (vn_oneI (vl_var rfl)) ?_) (fun _ _ => vl_var rfl) (fun _ _ => vl_var rfl) ho ?_ (fun a H4 s4 na ea => ?_)
        · show _ + 1 ≤ 1000000
          omega
        · exact Nat.lt_of_le_of_lt (m := 10000) (by omega) (by decide)
        have oa : o ≠ a := ne_of_none ho na
        have hA4 : ∀ x : Int, 0 ≤ x → x < N.n → ∃ b, valV (putK kvs (.inl l.a) (.ref a)) (.inl x) = some (.ref b) ∧ but (upd H4 o (.dK (putK kvs (.inl l.a) (.ref a)))) o b = some (.lst ((if x = l.a then near l.a ++ [l.b] else near x).map V.int)) := fun x h0 h1 => by
          rw [valV_put, but_upd]
          by_cases e : x = l.a
          · rw [if_pos (by rw [e]), if_pos e]
            exact ⟨a, rfl, by rw [but_ne oa.symm, ea]⟩
          · rw [if_neg (fun z => e (Sum.inl.inj z)), if_neg e]
            obtain ⟨b, hb1, hb2, _⟩ := hA x h0 h1
            exact ⟨b, hb1, but_mono s4 _ _ hb2⟩
        have hk4 : (putK kvs (.inl l.a) (.ref a)).length = N.n.toNat := by
          rw [putK_len (by rw [ha1]; rfl)]
          exact hk
        have s34 : Same H (but (upd H4 o (.dK (putK kvs (.inl l.a) (.ref a)))) o) := by
          rw [but_upd]
          exact s3.trans (but_mono s4)
        have ho4 : upd H4 o (.dK (putK kvs (.inl l.a) (.ref a))) o = some (.dK (putK kvs (.inl l.a) (.ref a))) := upd_same
        generalize upd H4 o (.dK (putK kvs (.inl l.a) (.ref a))) = H5 at hA4 s34 ho4 ⊢
        generalize putK kvs (.inl l.a) (.ref a) = kv5 at hA4 hk4 ho4
        obtain ⟨ab, hb1, hb2⟩ := hA4 l.b (by omega) hbn
        rw [if_neg (show ¬ l.b = l.a by omega)] at hb2
        have hbl := (hA l.b (by omega) hbn).choose_spec.2.2.1
        refine g_dputN (xs := (near l.b ++ [l.a]).map V.int) (vn_catL (vl_dgetI (vl_var rfl) (vl_var rfl) ho4 hb1) (but_same _ _ hb2) (vn_oneI (vl_var rfl)) ?_) (fun _ _ => vl_var rfl) (fun _ _ => vl_var rfl) ho4 ?_ (fun a6 H6 s6 na6 ea6 => ?_)
        · show _ + 1 ≤ 1000000
          omega
        · exact Nat.lt_of_le_of_lt (m := 10000) (by omega) (by decide)
        have oa6 : o ≠ a6 := ne_of_none ho4 na6
        refine ⟨_, _, _, _, _, _, fun x => if x = l.b then near l.b ++ [l.a] else if x = l.a then near l.a ++ [l.b] else near x, rfl, upd_same, ?_, ?_, fun x h0 h1 => ?_⟩
        · rw [but_upd]
          exact s34.trans (but_mono s6)
        · rw [putK_len (by rw [hb1]; rfl)]
          exact hk4
        · rw [valV_put, but_upd]
          show ∃ a, _ ∧ _ = some (HO.lst (((if x = l.b then near l.b ++ [l.a] else if x = l.a then near l.a ++ [l.b] else near x) : List Int).map V.int)) ∧ ((if x = l.b then near l.b ++ [l.a] else if x = l.a then near l.a ++ [l.b] else near x) : List Int).length ≤ i + 1 ∧ ∀ y, y ∈ ((if x = l.b then near l.b ++ [l.a] else if x = l.a then near l.a ++ [l.b] else near x) : List Int) ↔ _
          by_cases e : x = l.b
          · subst e
            rw [if_pos rfl, if_pos rfl]
            obtain ⟨_, _, _, h5, h6⟩ := hA l.b h0 h1
            refine ⟨a6, rfl, by rw [but_ne oa6.symm, ea6], ?_, fun y => ?_⟩
            · rw [List.length_append]
              exact Nat.succ_le_succ h5
            · rw [adj_take hl, List.mem_append, List.mem_singleton, h6 y]
              constructor
              · rintro (h | h)
                · exact .inl h
                · exact .inr (.inr ⟨h.symm, rfl⟩)
              · rintro (h | h | h)
                · exact .inl h
                · omega
                · exact .inr h.1.symm
          · rw [if_neg (fun z => e (Sum.inl.inj z)), if_neg e]
            obtain ⟨b, hb3, hb4⟩ := hA4 x h0 h1
            obtain ⟨_, _, _, h5, h6⟩ := hA x h0 h1
            refine ⟨b, hb3, but_mono s6 _ _ hb4, ?_, fun y => ?_⟩
            · by_cases e2 : x = l.a
              · subst e2
                rw [if_pos rfl, List.length_append]
                exact Nat.succ_le_succ h5
              · rw [if_neg e2]
                omega
            · rw [adj_take hl]
              by_cases e2 : x = l.a
              · subst e2
                rw [if_pos rfl, List.mem_append, List.mem_singleton, h6 y]
                constructor
                · rintro (h | h)
                  · exact .inl h
                  · exact .inr (.inl ⟨rfl, h.symm⟩)
                · rintro (h | h | h)
                  · exact .inl h
                  · exact .inr h.2.symm
                  · omega
              · rw [if_neg e2, h6 y]
                constructor
                · exact .inl
                · rintro (h | h | h)
                  · exact h
                  · exact absurd h.1.symm e2
                  · exact absurd h.2.symm e
      · obtain ⟨y2, y3, y4, y5, y6, kvs, near, rfl, ho, s3, hk, hA⟩ := hP
        rw [List.take_length] at hA
        refine g_ret (vl_var rfl) (q H3 o (s3.trans but_same) ⟨kvs, ho, hk, fun x h0 h1 => ?_⟩)
        obtain ⟨a, h2, h3, h4, h5⟩ := hA x h0 h1
        exact ⟨a, near x, h2, but_same _ _ h3, by omega, h5⟩
end
/-! ### what is reached over lower places -/
structure BfsAt (N : Net) (os : List Int) (u : Int) (inner found : List Int) : Prop where
  i0 : inner[0]? = some u
  ind : inner.Nodup
  iin : ∀ x ∈ inner, 0 ≤ x ∧ x < N.n
  irc : ∀ x ∈ inner, x = u ∨ (posOf x os < posOf u os ∧ Rch (adj0 N.ls) (fun z => posOf z os < posOf u os) u x)
  fnd : found.Nodup
  frc : ∀ v ∈ found, PairP N.ls os u v
def Seen (os : List Int) (u : Int) (inner found : List Int) (o : Int) : Prop := (posOf u os < posOf o os → o ∈ found) ∧ (posOf o os < posOf u os → o ∈ inner)
def BfsDone (N : Net) (os : List Int) (u : Int) (inner found : List Int) (t : Nat) : Prop := ∀ j, j < t → ∀ x, inner[j]? = some x → ∀ o, adj0 N.ls x o = true → Seen os u inner found o
section
variable {N : Net} {os : List Int} {u : Int} {inner found : List Int}
theorem nodup_snoc {xs : List Int} {o : Int} (h : xs.Nodup) (n : o ∉ xs) : (xs ++ [o]).Nodup := List.nodup_append.mpr ⟨h, List.nodup_cons.mpr ⟨List.not_mem_nil, .nil⟩, fun a ha b hb e => n (by
  rw [List.mem_singleton] at hb
  rw [← hb, ← e]
  exact ha)⟩
theorem BfsAt.find (ok : NetOk N) (h : BfsAt N os u inner found) {x o : Int} (hx : x ∈ inner) (a : adj0 N.ls x o = true) (hi : posOf u os < posOf o os) (n : o ∉ found) : BfsAt N os u inner (found ++ [o]) :=
  ⟨h.i0, h.ind, h.iin, h.irc, nodup_snoc h.fnd n, fun v hv => by
    rcases List.mem_append.mp hv with hv | hv
    · exact h.frc v hv
    · rw [List.mem_singleton.mp hv]
      rcases h.irc x hx with e | ⟨l, r⟩
      · subst e
        exact ⟨hi, .one a⟩
      · exact ⟨hi, .step r l a⟩⟩
theorem BfsAt.grow (ok : NetOk N) (h : BfsAt N os u inner found) {x o : Int} (hx : x ∈ inner) (a : adj0 N.ls x o = true) (lo : posOf o os < posOf u os) (n : o ∉ inner) : BfsAt N os u (inner ++ [o]) found :=
  ⟨by
    have := h.i0
    rw [List.getElem?_append_left (List.getElem?_eq_some_iff.mp this).1]
    exact this, nodup_snoc h.ind n, fun z hz => by
    rcases List.mem_append.mp hz with hz | hz
    · exact h.iin z hz
    · rw [List.mem_singleton.mp hz]
      exact (adj0_in ok a).2.1, fun z hz => by
    rcases List.mem_append.mp hz with hz | hz
    · exact h.irc z hz
    · rw [List.mem_singleton.mp hz]
      right
      rcases h.irc x hx with e | ⟨l, r⟩
      · subst e
        exact ⟨lo, .one a⟩
      · exact ⟨lo, .step r l a⟩, h.fnd, h.frc⟩
theorem BfsAt.len (h : BfsAt N os u inner found) : inner.length ≤ N.n.toNat := by
  have := sub_len (ys := rng N.n) h.ind fun x hx => mem_rng.mpr (h.iin x hx)
  rw [len_rng] at this
  exact this
theorem BfsAt.flen (ok : NetOk N) (h : BfsAt N os u inner found) : found.length ≤ N.n.toNat := by
  have := sub_len (ys := rng N.n) h.fnd fun x hx => mem_rng.mpr ((h.frc x hx).ins ok).2
  rw [len_rng] at this
  exact this
theorem bfs_all (ok : NetOk N) (h : BfsAt N os u inner found) (d : BfsDone N os u inner found N.n.toNat) : ∀ v, Rch (adj0 N.ls) (fun z => posOf z os < posOf u os) u v → Seen os u inner found v := by
  have all : ∀ x ∈ inner, ∀ o, adj0 N.ls x o = true → Seen os u inner found o := fun x hx o a => by
    obtain ⟨j, hj, e⟩ := List.getElem_of_mem hx
    have hl := h.len
    exact d j (by omega) x (by rw [List.getElem?_eq_getElem hj, e]) o a
  intro v hv
  induction hv with
  | one a => exact all u (List.mem_of_getElem? h.i0) _ a
  | step _ l a ih => exact all _ (ih.2 l) _ a
theorem bfs_iff (ok : NetOk N) (h : BfsAt N os u inner found) (d : BfsDone N os u inner found N.n.toNat) (v : Int) : v ∈ found ↔ PairP N.ls os u v :=
  ⟨h.frc v, fun p => (bfs_all ok h d v p.2).1 p.1⟩
end
abbrev sReached : Stmt := topS 25
theorem scReached : FnScope ["linked", "rank", "u", "inner", "found", "turn", "other"] ["linked", "rank", "u"] (defScope sReached) := ⟨rfl, rfl, rfl, by decide +kernel, rfl, by decide +kernel, by decide +kernel⟩
def spReached (K : PySem.W.Frag) : Sp := fun vs H Q _ => ∃ (lk rd : Addr) (u : Int) (N : Net) (os : List Int), vs = [.ref lk, .ref rd, .int u] ∧ LinkAt H lk N ∧ RankAt H rd os ∧ NetOk N ∧ OrdOk N.n os ∧ 0 ≤ u ∧ u < N.n ∧
  ∀ H' p fs, Same H H' → H' p = some (.lst ((fs : List Int).map V.int)) → (∀ v, v ∈ fs ↔ PairP N.ls os u v) → fs.length ≤ 40 → Q (.ref p) H'
section
variable {P : Program} {w : World} {K : PySem.W.Frag} {mg : Str → Option Value} {base : Heap}
theorem ok_reached {f : Addr} {fd : FuncData} {k : Nat} (F : Fun K "_law_reached" "_law_reached" sReached f fd) (ml : mg "len" = none) (mr : mg "range" = none) : FnOk P w K mg base CX0 (k + 1) f fd ["linked", "rank", "u"] (spReached K) := by
  refine F.ok scReached (fun vs H Q E h => ?_) (fun cdv A outer s H vs Q E hr h => ?_)
  · obtain ⟨lk, rd, u, N, os, rfl, _⟩ := h
    rfl
  · obtain ⟨lk, rd, u, N, os, rfl, hL, hR, ok, oo, u0, u1, q⟩ := h
    have hu := hu_of hr
    refine ⟨_, pss_cons (ps_set (i := 3) scReached.nd rfl (.inl rfl) (pe_lst (pa_cons (pv 2) pa_nil)))
      (pss_cons (ps_set (i := 4) scReached.nd rfl (.inl rfl) (pe_lst pa_nil))
      (pss_cons (ps_for PassesOwn.never rfl (pi_range1 (by rfl) mr (pa_cons (pe_callB call_lenD (by rfl) ml PySem.boot_len (pa_cons (pv 0) pa_nil)) pa_nil)) (pg_name (i := 5) scReached.nd rfl (.inl rfl))
      (pss_one (ps_if (pt_cmpR op_lt (pv 5) (pe_callB call_len_seq (by rfl) ml PySem.boot_len (pa_cons (pv 3) pa_nil)) (nomark _))
        (pss_one (ps_for PassesOwn.never rfl (pi_list (pe_dget hu (pv 0) (pe_ix ix_list (pv 3) (pv 5) (fun _ _ => rfl)) (fun _ _ => rfl))) (pg_name (i := 6) scReached.nd rfl (.inl rfl))
          (Evl.pss_cut (ps_if (PW.pt (pw_and (pt_cmpR op_gt (pe_dget hu (pv 1) (pv 6) (fun _ _ => rfl)) (pe_dget hu (pv 1) (pv 2) (fun _ _ => rfl)) (nomark _)) (pw_and1 (pt_cmpR op_notIn_seq (pv 6) (pv 4) (by rfl)))))
            (pss_one (ps_set (i := 4) scReached.nd rfl (.inl rfl) (pe_op op_cat (pv 4) (pe_lst (pa_cons (pv 6) pa_nil)))))
            pss_nil)
            (pss_one (ps_if (PW.pt (pw_and (pt_cmpR op_lt (pe_dget hu (pv 1) (pv 6) (fun _ _ => rfl)) (pe_dget hu (pv 1) (pv 2) (fun _ _ => rfl)) (nomark _)) (pw_and1 (pt_cmpR op_notIn_seq (pv 6) (pv 3) (by rfl)))))
            (pss_one (ps_set (i := 3) scReached.nd rfl (.inl rfl) (pe_op op_cat (pv 3) (pe_lst (pa_cons (pv 6) pa_nil)))))
            pss_nil)))))
        pss_nil)))
      (pss_one (ps_ret (pv 4))))), ?_⟩
    have n40 := ok.n40
    have uo := oo.mem.mpr ⟨u0, u1⟩
    obtain ⟨kl, hl1, hl2, hl3⟩ := hL.ex
    obtain ⟨kr, hr1, hr2⟩ := hR.ex
    refine q_asgN (vn_oneI (vl_var rfl)) fun pi H1 s1 n1 e1 => ?_
    refine q_lnew fun pf nf => ?_
    have s2 : Same H1 (upd H1 pf (.lst [])) := same_upd nf
    refine q_forR (n := (kl.length : Int)) (va_cons (vl_cb (va_cons (vl_var rfl) va_nil) fun _ k => ⟨lk, kl, rfl, (s1.trans s2) _ _ hl1, k⟩) va_nil) ⟨by omega, by omega⟩
      (fun i σ H3 => ∃ y5 y6 pi pf inner found, σ = [some (.ref lk), some (.ref rd), some (.int u), some (.ref pi), some (.ref pf), y5, y6] ∧ Same H H3 ∧ H3 pi = some (.lst ((inner : List Int).map V.int)) ∧ H3 pf = some (.lst ((found : List Int).map V.int)) ∧ BfsAt N os u inner found ∧ BfsDone N os u inner found i)
      ⟨none, none, pi, pf, [u], [], rfl, s1.trans s2, s2 _ _ e1, upd_same, ⟨rfl, List.nodup_cons.mpr ⟨List.not_mem_nil, .nil⟩, fun x hx => by
        rw [List.mem_singleton.mp hx]
        exact ⟨u0, u1⟩, fun x hx => .inl (List.mem_singleton.mp hx), .nil, fun v hv => (nomatch hv)⟩, fun j hj => absurd hj (Nat.not_lt_zero _)⟩ (fun i σ H3 hi hP => ?_) (fun σ H3 hP => ?_)
    · obtain ⟨y5, y6, pi, pf, inner, found, rfl, s3, hpi, hpf, hB, hD⟩ := hP
      refine g_when (b := decide ((i : Int) < (inner.length : Int))) (an_test (vl_I0 (vl_var rfl) (vl_lenI (vl_var rfl) (.of hpi)))) (fun hb => ?_) (fun hb => ?_)
      · have hb := of_decide_eq_true hb
        have hg : inner[i]? = some inner[i] := List.getElem?_eq_getElem (by omega)
        generalize inner[i] = x at hg
        have hxi := List.mem_of_getElem? hg
        have hxr := hB.iin x hxi
        obtain ⟨a, ns, h4, h5, h6, h7⟩ := hl3 x hxr.1 hxr.2
        have vk : ∀ (σ' : L2.St) (i : Nat) (z : Int) (H' : Hp), Same H H' → σ'[1]? = some (some (.ref rd)) → σ'[i]? = some (some (.int z)) → z ∈ os → Vl (tDGet (tVar 1) (tVar i)) σ' H' (.int (posOf z os : Nat)) := fun σ' i z H' s' e1 e2 hz => vl_dgetI (vl_var e1) (vl_var e2) (s' _ _ hr1) (hr2 z hz)
        refine g_forL (xs := ns.map V.int) (vl_dgetI (vl_var rfl) (vl_ixI (vl_var rfl) (vl_var rfl) (.of hpi) hg) (s3 _ _ hl1) h4) (.of (s3 _ _ h5))
          (fun j σ' H' => ∃ y6 pi pf inner found, σ' = [some (.ref lk), some (.ref rd), some (.int u), some (.ref pi), some (.ref pf), some (.int i), y6] ∧ Same H H' ∧ H' pi = some (.lst ((inner : List Int).map V.int)) ∧ H' pf = some (.lst ((found : List Int).map V.int)) ∧ BfsAt N os u inner found ∧ BfsDone N os u inner found i ∧ inner[i]? = some x ∧ ∀ o ∈ ns.take j, Seen os u inner found o)
          ⟨_, pi, pf, inner, found, rfl, s3, hpi, hpf, hB, hD, hg, fun o ho => by
            rw [List.take_zero] at ho
            cases ho⟩ (fun j σ' H' hP => ?_) (fun j y σ' H' hy hP => ?_) (fun σ' H' hP => ?_)
        · obtain ⟨_, _, _, _, _, _, s', _⟩ := hP
          exact .of (s' _ _ h5)
        · obtain ⟨y6, pi, pf, inner, found, rfl, s', hpi, hpf, hB, hD, hg, hS⟩ := hP
          rw [List.getElem?_map] at hy
          cases hgo : ns[j]? with
          | none =>
            rw [hgo] at hy
            cases hy
          | some o =>
            rw [hgo] at hy
            cases hy
            have hadj := (h7 o).mp (List.mem_of_getElem? hgo)
            have hor := (adj0_in ok hadj).2.1
            have hoo := oo.mem.mpr hor
            have hxi := List.mem_of_getElem? hg
            have hfl := hB.flen ok
            have hil := hB.len
            -- found
            refine q_cut (M := fun σ2 H2 => ∃ pf found, σ2 = [some (.ref lk), some (.ref rd), some (.int u), some (.ref pi), some (.ref pf), some (.int i), some (.int o)] ∧ Same H H2 ∧ H2 pi = some (.lst (inner.map V.int)) ∧ H2 pf = some (.lst ((found : List Int).map V.int)) ∧ BfsAt N os u inner found ∧ BfsDone N os u inner found i ∧ (∀ z ∈ ns.take j, Seen os u inner found z) ∧ (posOf u os < posOf o os → o ∈ found)) ?_ ?_
            · refine g_when (b := decide (((posOf u os : Nat) : Int) < (posOf o os : Nat)) && !decide (o ∈ found)) ?_ (fun hb => ?_) (fun hb => ?_)
              · exact an_and (an_test (vl_I0 (vk _ 6 o H' s' rfl rfl hoo) (vk _ 2 u H' s' rfl rfl uo))) fun _ => an_test (vl_notInI (vl_var rfl) (vl_var rfl) (.of hpf))
              · rw [Bool.and_eq_true, decide_eq_true_eq, Bool.not_eq_true', decide_eq_false_iff_not] at hb
                have hlt : posOf u os < posOf o os := by omega
                refine g_asgN (vn_catL (vl_var rfl) hpf (vn_oneI (vl_var rfl)) ?_) fun p2 H2 s2 n2 e2 => ?_
                · show _ + 1 ≤ 1000000
                  omega
                · refine ⟨p2, found ++ [o], rfl, s'.trans s2, s2 _ _ hpi, e2, hB.find ok hxi hadj hlt hb.2, fun j' hj' z hz w hw => ?_, fun z hz => ?_, fun _ => List.mem_append.mpr (.inr (List.mem_singleton.mpr rfl))⟩
                  · have := hD j' hj' z hz w hw
                    exact ⟨fun h => List.mem_append.mpr (.inl (this.1 h)), this.2⟩
                  · have := hS z hz
                    exact ⟨fun h => List.mem_append.mpr (.inl (this.1 h)), this.2⟩
              · refine ⟨pf, found, rfl, s', hpi, hpf, hB, hD, hS, fun h => ?_⟩
                rw [Bool.and_eq_false_iff, decide_eq_false_iff_not, Bool.not_eq_false', decide_eq_true_eq] at hb
                rcases hb with hb | hb
                · omega
                · exact hb
            · rintro σ2 H2 ⟨pf, found, rfl, s2, hpi, hpf, hB, hD, hS, hF⟩
              refine g_when (b := decide (((posOf o os : Nat) : Int) < (posOf u os : Nat)) && !decide (o ∈ inner)) ?_ (fun hb => ?_) (fun hb => ?_)
              · exact an_and (an_test (vl_I0 (vk _ 6 o H2 s2 rfl rfl hoo) (vk _ 2 u H2 s2 rfl rfl uo))) fun _ => an_test (vl_notInI (vl_var rfl) (vl_var rfl) (.of hpi))
              · rw [Bool.and_eq_true, decide_eq_true_eq, Bool.not_eq_true', decide_eq_false_iff_not] at hb
                have hlt : posOf o os < posOf u os := by omega
                refine g_asgN (vn_catL (vl_var rfl) hpi (vn_oneI (vl_var rfl)) ?_) fun p2 H4 s4 n2 e2 => ?_
                · show _ + 1 ≤ 1000000
                  omega
                · have keep : ∀ {j' : Nat} {z : Int}, j' < inner.length → (inner ++ [o])[j']? = some z → inner[j']? = some z := fun hj h => by
                    rw [List.getElem?_append_left hj] at h
                    exact h
                  have hil2 := (List.getElem?_eq_some_iff.mp hg).1
                  refine ⟨_, p2, pf, inner ++ [o], found, rfl, s2.trans s4, e2, s4 _ _ hpf, hB.grow ok hxi hadj hlt hb.2, fun j' hj' z hz w hw => ?_, ?_, fun z hz => ?_⟩
                  · have := hD j' hj' z (keep (by omega) hz) w hw
                    exact ⟨this.1, fun h => List.mem_append.mpr (.inl (this.2 h))⟩
                  · rw [List.getElem?_append_left hil2]
                    exact hg
                  · rw [take_snoc hgo] at hz
                    rcases List.mem_append.mp hz with hz | hz
                    · have := hS z hz
                      exact ⟨this.1, fun h => List.mem_append.mpr (.inl (this.2 h))⟩
                    · rw [List.mem_singleton.mp hz]
                      exact ⟨hF, fun _ => List.mem_append.mpr (.inr (List.mem_singleton.mpr rfl))⟩
              · refine ⟨_, pi, pf, inner, found, rfl, s2, hpi, hpf, hB, hD, hg, fun z hz => ?_⟩
                rw [take_snoc hgo] at hz
                rcases List.mem_append.mp hz with hz | hz
                · exact hS z hz
                · rw [List.mem_singleton.mp hz]
                  refine ⟨hF, fun h => ?_⟩
                  rw [Bool.and_eq_false_iff, decide_eq_false_iff_not, Bool.not_eq_false', decide_eq_true_eq] at hb
                  rcases hb with hb | hb
                  · omega
                  · exact hb
        · obtain ⟨y6, pi, pf, inner, found, rfl, s', hpi, hpf, hB, hD, hg, hS⟩ := hP
          rw [List.length_map, List.take_length] at hS
          refine ⟨_, _, pi, pf, inner, found, rfl, s', hpi, hpf, hB, fun j hj z hz w hw => ?_⟩
          by_cases e : j = i
          · subst e
            cases hg.symm.trans hz
            exact hS w ((h7 w).mpr hw)
          · exact hD j (by omega) z hz w hw
      · have hb := of_decide_eq_false hb
        refine ⟨_, _, pi, pf, inner, found, rfl, s3, hpi, hpf, hB, fun j hj z hz w hw => ?_⟩
        have := (List.getElem?_eq_some_iff.mp hz).1
        exact hD j (by omega) z hz w hw
    · obtain ⟨y5, y6, pi, pf, inner, found, rfl, s3, hpi, hpf, hB, hD⟩ := hP
      rw [Int.toNat_natCast, hl2] at hD
      have := hB.flen ok
      exact g_ret (vl_var rfl) (q H3 pf found s3 hpf (bfs_iff ok hB hD) (by omega))
end
/-! ### the law's upper neighbours -/
structure UpAt (H : Hp) (o : Addr) (ls : List Lnk) (os : List Int) : Prop where
  ex : ∃ kvs, H o = some (.dK kvs) ∧ kvs.map (·.1) = os.map Sum.inl ∧ ∀ x ∈ os, ∃ a, valV kvs (.inl x) = some (.ref a) ∧ H a = some (.lst ((upP ls os x).map V.int))
theorem UpAt.to {H H' : Hp} {o : Addr} {ls : List Lnk} {os : List Int} (h : UpAt H o ls os) (s : Same H H') : UpAt H' o ls os := by
  obtain ⟨kvs, h1, h2, h3⟩ := h.ex
  exact ⟨kvs, s _ _ h1, h2, fun x hx => let ⟨a, h4, h5⟩ := h3 x hx; ⟨a, h4, s _ _ h5⟩⟩
abbrev sUpperL : Stmt := topS 27
theorem scUpperL : FnScope ["net", "order", "rank", "linked", "upper_v", "u", "found", "other"] ["net", "order"] (defScope sUpperL) := ⟨rfl, rfl, rfl, by decide +kernel, rfl, by decide +kernel, by decide +kernel⟩
def spUpperL (K : PySem.W.Frag) : Sp := fun vs H Q _ => ∃ (v : V) (N : Net) (p : Addr) (os : List Int), vs = [v, .ref p] ∧ Dp K H v (netD N) ∧ NetOk N ∧ SqL K H p (os.map V.int) ∧ OrdOk N.n os ∧ ∀ H' o, Same H H' → UpAt H' o N.ls os → Q (.ref o) H'
section
variable {P : Program} {w : World} {K : PySem.W.Frag} {mg : Str → Option Value} {base : Heap}
theorem ok_upperL {f : Addr} {fd : FuncData} (F : Fun K "_law_upper" "_law_upper" sUpperL f fd) (c_law_rank : Kal P w K mg base 1 "_law_rank" ["order"] (spRank K)) (c_law_linked : Kal P w K mg base 1 "_law_linked" ["net"] (spLinked K)) (c_law_reached : Kal P w K mg base 1 "_law_reached" ["linked", "rank", "u"] (spReached K)) : FnOk P w K mg base CX0 2 f fd ["net", "order"] (spUpperL K) := by
  refine F.ok scUpperL (fun vs H Q E h => ?_) (fun cdv A outer s H vs Q E hr h => ?_)
  · obtain ⟨v, N, p, os, rfl, _⟩ := h
    rfl
  · obtain ⟨v, N, p, os, rfl, hN, ok, hS, oo, q⟩ := h
    have hu := hu_of hr
    refine ⟨_, pss_cons (ps_set (i := 2) scUpperL.nd rfl (.inl rfl) (pe_k c_law_rank hr (by first | decide | omega) (by rfl) (pa_cons (pv 1) pa_nil)))
      (pss_cons (ps_set (i := 3) scUpperL.nd rfl (.inl rfl) (pe_k c_law_linked hr (by first | decide | omega) (by rfl) (pa_cons (pv 0) pa_nil)))
      (pss_cons (ps_set (i := 4) scUpperL.nd rfl (.inl rfl) pe_dnewK)
      (pss_cons (ps_for PassesOwn.never rfl (pi_list (pv 1)) (pg_name (i := 5) scUpperL.nd rfl (.inl rfl))
      (pss_cons (ps_set (i := 6) scUpperL.nd rfl (.inr rfl) (pe_k c_law_reached hr (by first | decide | omega) (by rfl) (pa_cons (pv 3) (pa_cons (pv 2) (pa_cons (pv 5) pa_nil)))))
        (pss_one (ps_dput hu (pv 4) (pv 5) (pe_lc (own := [("other", 7)]) (g := gName 7) (tt := (tTest (tOp (rIn K false) (tVar 7) (tVar 6)))) (te := (tVar 7)) (by rfl) scUpperL.nd (pi_list (pv 1)) (blkOk_by (own := [("other", 7)]) (N := ["net", "order", "rank", "linked", "upper_v", "u", "found", "other"]) (sc := defScope sUpperL) (by decide +kernel)) (fun _ _ _ _ _ => pg_name (i := 7) scUpperL.nd rfl (Or.inl rfl)) (fun _ _ _ _ _ => by exact (pts_one (pt_cmpR op_in_seq (pv 7) (pv 6) (by rfl)))) (fun _ _ _ _ _ => by exact (pv 7))) rfl))))
      (pss_one (ps_ret (pv 4)))))), ?_⟩
    have n40 := ok.n40
    have ol := oo.len
    refine q_asgE ⟨.ref p, rfl, p, os, rfl, hS, oo.nodup, by omega, fun H1 rd s1 hR => ?_⟩
    refine q_asgE ⟨v, rfl, v, N, rfl, Dp.to hN s1, ok, fun H2 lk s2 hL => ?_⟩
    have hR2 := hR.to s2
    have s12 := s1.trans s2
    refine q_dnewK fun o no => ?_
    have so : Same H2 (upd H2 o (.dK [])) := same_upd no
    refine q_forL (xs := os.map V.int) (vl_var rfl) (((s12.trans so).seq hS))
      (fun i σ H3 => ∃ y5 y6, ∃ kvs, σ = [some v, some (.ref p), some (.ref rd), some (.ref lk), some (.ref o), y5, y6, none] ∧ H3 o = some (.dK kvs) ∧ Same H2 (but H3 o) ∧ kvs.map (·.1) = (os.take i).map Sum.inl ∧ ∀ x ∈ os.take i, ∃ a, valV kvs (.inl x) = some (.ref a) ∧ but H3 o a = some (.lst ((upP N.ls os x).map V.int)))
      ⟨_, _, [], rfl, upd_same, same_but so no, rfl, fun x hx => by
        rw [List.take_zero] at hx
        cases hx⟩ (fun i σ H3 hP => ?_) (fun i y σ H3 hy hP => ?_) (fun σ H3 hP => ?_)
    · obtain ⟨_, _, _, _, _, s3, _⟩ := hP
      exact (s12.trans (s3.trans but_same)).seq hS
    · obtain ⟨y5, y6, kvs, rfl, ho, s3, hk, hA⟩ := hP
      rw [List.getElem?_map] at hy
      cases hg : os[i]? with
      | none =>
        rw [hg] at hy
        cases hy
      | some x =>
        rw [hg] at hy
        cases hy
        have hx := oo.mem.mp (List.mem_of_getElem? hg)
        have hi := (List.getElem?_eq_some_iff.mp hg).1
        have sH := s3.trans but_same
        refine q_asgE ⟨.ref lk, rfl, .ref rd, rfl, .int x, rfl, lk, rd, x, N, os, rfl, hL.to sH, hR2.to sH, ok, oo, hx.1, hx.2, fun H4 pf fs s4 hpf hfs hfl => ?_⟩
        have ho4 := s4 _ _ ho
        have hS4 := ((s12.trans sH).trans s4).seq hS
        refine g_dputN (xs := (upP N.ls os x).map V.int) (by
          rw [← up_eq oo fun v _ => hfs v]
          exact vn_lcI (ns := os) (pb := fun v => decide (v ∈ fs)) (f := V.int) (vx_list (vl_var rfl) hS4) (by omega) (fun z hz H' s' => an_test (vl_inI (vl_var rfl) (vl_var rfl) (.of (s' _ _ hpf)))) (fun z hz H' s' => vl_var rfl)) (fun _ _ => vl_var rfl) (fun _ _ => vl_var rfl) ho4 ?_ (fun a H5 s5 na ea => ?_)
        · have := congrArg List.length hk
          rw [List.length_map, List.length_map, List.length_take] at this
          exact Nat.lt_of_le_of_lt (m := 10000) (by omega) (by decide)
        · have oa : o ≠ a := ne_of_none ho4 na
          have hnx : x ∉ os.take i := fun h => by
            have hn := oo.nodup
            rw [split_at hg] at hn
            exact (List.nodup_append.mp hn).2.2 x h x List.mem_cons_self rfl
          have hnone : valV kvs (.inl x) = none := by
            cases e : valV kvs (.inl x) with
            | none => rfl
            | some v =>
              have := valV_in e
              rw [hk] at this
              obtain ⟨z, hz, e2⟩ := List.mem_map.mp this
              rw [Sum.inl.inj e2] at hz
              exact absurd hz hnx
          refine ⟨_, _, _, rfl, upd_same, ?_, ?_, fun z hz => ?_⟩
          · rw [but_upd]
            exact s3.trans (but_mono (s4.trans s5))
          · rw [putK_new _ hnone, List.map_append, hk, take_snoc hg, List.map_append]
            rfl
          · rw [valV_put, but_upd]
            by_cases e : z = x
            · subst e
              rw [if_pos rfl]
              exact ⟨a, rfl, by rw [but_ne oa.symm, ea]⟩
            · rw [if_neg (fun h => e (Sum.inl.inj h))]
              rw [take_snoc hg] at hz
              rcases List.mem_append.mp hz with hz | hz
              · obtain ⟨b, hb1, hb2⟩ := hA z hz
                exact ⟨b, hb1, but_mono (s4.trans s5) _ _ hb2⟩
              · exact absurd (List.mem_singleton.mp hz) e
    · obtain ⟨y5, y6, kvs, rfl, ho, s3, hk, hA⟩ := hP
      rw [List.length_map, List.take_length] at hk hA
      exact g_ret (vl_var rfl) (q H3 o (s12.trans (s3.trans but_same)) ⟨kvs, ho, hk, fun x hx => let ⟨a, h1, h2⟩ := hA x hx; ⟨a, h1, but_same _ _ h2⟩⟩)
end
/-! ### chains -/
def chainF (up : Int → List Int) : Nat → Int → List Int
  | 0, p => [p]
  | k + 1, p => p :: (match up p with
    | [] => []
    | s :: _ => chainF up k s)
def chainE (up : Int → List Int) : Nat → Int → Int
  | 0, p => p
  | k + 1, p => match up p with
    | [] => p
    | s :: _ => chainE up k s
theorem chain_snoc {up : Int → List Int} : ∀ (k : Nat) (p : Int), chainF up (k + 1) p = chainF up k p ++ (match up (chainE up k p) with
    | [] => []
    | s :: _ => [s]) ∧ chainE up (k + 1) p = (match up (chainE up k p) with
    | [] => chainE up k p
    | s :: _ => s)
  | 0, p => by
    constructor
    · show p :: (match up p with
        | [] => []
        | s :: _ => chainF up 0 s) = [p] ++ (match up p with
        | [] => []
        | s :: _ => [s])
      cases up p <;> rfl
    · show (match up p with
        | [] => p
        | s :: _ => chainE up 0 s) = (match up p with
        | [] => p
        | s :: _ => s)
      cases up p <;> rfl
  | k + 1, p => by
    cases e : up p with
    | nil =>
      have e1 : chainF up (k + 1) p = [p] := by
        show p :: (match up p with
          | [] => []
          | s :: _ => chainF up k s) = [p]
        rw [e]
      have e2 : chainE up (k + 1) p = p := by
        show (match up p with
          | [] => p
          | s :: _ => chainE up k s) = p
        rw [e]
      have e3 : chainF up (k + 1 + 1) p = [p] := by
        show p :: (match up p with
          | [] => []
          | s :: _ => chainF up (k + 1) s) = [p]
        rw [e]
      have e4 : chainE up (k + 1 + 1) p = p := by
        show (match up p with
          | [] => p
          | s :: _ => chainE up (k + 1) s) = p
        rw [e]
      rw [e1, e2, e3, e4, e]
      exact ⟨rfl, rfl⟩
    | cons s r =>
      have ih := chain_snoc (up := up) k s
      have e1 : chainF up (k + 1) p = p :: chainF up k s := by
        show p :: (match up p with
          | [] => []
          | s :: _ => chainF up k s) = _
        rw [e]
      have e2 : chainE up (k + 1) p = chainE up k s := by
        show (match up p with
          | [] => p
          | s :: _ => chainE up k s) = _
        rw [e]
      have e3 : chainF up (k + 1 + 1) p = p :: chainF up (k + 1) s := by
        show p :: (match up p with
          | [] => []
          | s :: _ => chainF up (k + 1) s) = _
        rw [e]
      have e4 : chainE up (k + 1 + 1) p = chainE up (k + 1) s := by
        show (match up p with
          | [] => p
          | s :: _ => chainE up (k + 1) s) = _
        rw [e]
      rw [e1, e2, e3, e4, ih.1, ih.2]
      exact ⟨rfl, rfl⟩
theorem chain_get {up : Int → List Int} : ∀ (k : Nat) (p : Int), (chainF up k p)[(chainF up k p).length - 1]? = some (chainE up k p) ∧ 1 ≤ (chainF up k p).length ∧ (chainF up k p).length ≤ k + 1
  | 0, p => ⟨rfl, Nat.le_refl _, Nat.le_refl _⟩
  | k + 1, p => by
    obtain ⟨h1, h2⟩ := chain_snoc (up := up) k p
    obtain ⟨i1, i2, i3⟩ := chain_get (up := up) k p
    rw [h1, h2]
    cases up (chainE up k p) with
    | nil =>
      show (chainF up k p ++ [])[_]? = some (chainE up k p) ∧ _
      rw [List.append_nil]
      exact ⟨i1, i2, by omega⟩
    | cons s r =>
      show (chainF up k p ++ [s])[(chainF up k p ++ [s]).length - 1]? = some s ∧ 1 ≤ (chainF up k p ++ [s]).length ∧ (chainF up k p ++ [s]).length ≤ k + 1 + 1
      rw [List.length_append]
      have e1 : [s].length = 1 := rfl
      rw [e1, Nat.add_sub_cancel, List.getElem?_append_right (Nat.le_refl _), Nat.sub_self]
      exact ⟨rfl, by omega, by omega⟩
theorem chain_head {up : Int → List Int} (k : Nat) (p : Int) : p ∈ chainF up k p := by
  cases k with
  | zero => exact List.mem_singleton.mpr rfl
  | succ k => exact List.mem_cons_self
section
variable {N : Net} {os : List Int}
theorem chain_all (ok : NetOk N) (oo : OrdOk N.n os) : ∀ (k : Nat) (p v : Int), os.length ≤ posOf p os + k + 1 → v ∈ upP N.ls os p → v ∈ chainF (upP N.ls os) k p
  | 0, p, v, hk, hv => by
    have h := (mem_up.mp hv)
    have := pos_len h.1
    have := h.2.1
    omega
  | k + 1, p, v, hk, hv => by
    have hs := up_sorted (N := N) (u := p) oo
    have hm : ∀ s ∈ upP N.ls os p, PairP N.ls os p s := fun s h => (mem_up.mp h).2
    show v ∈ p :: (match upP N.ls os p with
      | [] => []
      | s :: _ => chainF (upP N.ls os) k s)
    cases e : upP N.ls os p with
    | nil =>
      rw [e] at hv
      cases hv
    | cons s r =>
      rw [e] at hv hs hm
      refine List.mem_cons_of_mem _ ?_
      show v ∈ chainF (upP N.ls os) k s
      rcases List.mem_cons.mp hv with h | h
      · rw [h]
        exact chain_head k s
      · have hps := hm s List.mem_cons_self
        have hpv := hm v (List.mem_cons_of_mem _ h)
        have hsv := (List.pairwise_cons.mp hs).1 v h
        have := hps.1
        exact chain_all ok oo k s v (by omega) ((mem_upP ok oo).mpr (pair_clique ok hps hpv hsv))
theorem chain_in (ok : NetOk N) (oo : OrdOk N.n os) : ∀ (k : Nat) (p : Int), p ∈ os → (∀ x ∈ chainF (upP N.ls os) k p, x ∈ os) ∧ chainE (upP N.ls os) k p ∈ os
  | 0, p, hp => ⟨fun x hx => by
    rw [List.mem_singleton.mp hx]
    exact hp, hp⟩
  | k + 1, p, hp => by
    obtain ⟨h1, h2⟩ := chain_snoc (up := upP N.ls os) k p
    obtain ⟨i1, i2⟩ := chain_in ok oo k p hp
    have hm : ∀ s ∈ upP N.ls os (chainE (upP N.ls os) k p), s ∈ os := fun s h => (mem_up.mp h).1
    rw [h1, h2]
    cases e : upP N.ls os (chainE (upP N.ls os) k p) with
    | nil =>
      refine ⟨fun x hx => ?_, i2⟩
      rw [show (chainF (upP N.ls os) k p ++ []) = chainF (upP N.ls os) k p from List.append_nil _] at hx
      exact i1 x hx
    | cons s r =>
      have hs := hm s (by rw [e]; exact List.mem_cons_self)
      refine ⟨fun x hx => ?_, hs⟩
      rcases List.mem_append.mp hx with hx | hx
      · exact i1 x hx
      · rw [List.mem_singleton.mp hx]
        exact hs
end
noncomputable def chainOf (N : Net) (os : List Int) (p : Int) : List Int := chainF (upP N.ls os) N.n.toNat p
def spChain (K : PySem.W.Frag) (CN : Addr) : Sp := fun vs H Q E => ∃ (v : V) (N : Net) (p : Addr) (os : List Int) (x : Int), vs = [v, .ref p, .int x] ∧ Dp K H v (netD N) ∧ NetOk N ∧ SqL K H p (os.map V.int) ∧ OrdOk N.n os ∧
  (0 ≤ x ∧ x < N.n → ∀ H' q, Same H H' → H q = none → H' q = some (.lst ((chainOf N os x).map V.int)) → Q (.ref q) H') ∧ (¬ (0 ≤ x ∧ x < N.n) → RaiseTo E H CN x)
def spLChain (K : PySem.W.Frag) : Sp := fun vs H Q _ => ∃ (v : V) (N : Net) (p : Addr) (os : List Int) (x : Int), vs = [v, .ref p, .int x] ∧ Dp K H v (netD N) ∧ NetOk N ∧ SqL K H p (os.map V.int) ∧ OrdOk N.n os ∧
  (0 ≤ x ∧ x < N.n → ∀ H' q, Same H H' → H q = none → H' q = some (.lst ((chainOf N os x).map V.int)) → Q (.ref q) H') ∧ (¬ (0 ≤ x ∧ x < N.n) → ∀ H', Same H H' → Q (.int x) H')
section
variable {P : Program} {w : World} {K : PySem.W.Frag} {mg : Str → Option Value} {base : Heap} {CN fI : Addr}
end
/-! ### any two upper neighbours are a pair -/
noncomputable def pairsL (ls : List Lnk) (os : List Int) : List (Int × Int) := os.flatMap fun u => (upP ls os u).map fun v => (u, v)
theorem mem_pairsL {N : Net} {os : List Int} (ok : NetOk N) (oo : OrdOk N.n os) {u v : Int} : (u, v) ∈ pairsL N.ls os ↔ PairP N.ls os u v := by
  unfold pairsL
  rw [List.mem_flatMap]
  constructor
  · rintro ⟨x, hx, h⟩
    obtain ⟨y, hy, e⟩ := List.mem_map.mp h
    cases e
    exact (mem_up.mp hy).2
  · intro h
    exact ⟨u, oo.mem.mpr (h.ins ok).1, List.mem_map.mpr ⟨v, (mem_upP ok oo).mpr h, rfl⟩⟩
/-- a list of new tuples of two ints -/
structure TupsAt (H : Hp) (ts : List V) (L : List (Int × Int)) : Prop where
  len : ts.length = L.length
  at_ : ∀ (i : Nat) (u v : Int), L[i]? = some (u, v) → ∃ t, ts[i]? = some (.ref t) ∧ H t = some (.tup [.int u, .int v])
theorem TupsAt.to {H H' : Hp} {ts : List V} {L : List (Int × Int)} (h : TupsAt H ts L) (s : Same H H') : TupsAt H' ts L := ⟨h.len, fun i u v e => let ⟨t, h1, h2⟩ := h.at_ i u v e; ⟨t, h1, s _ _ h2⟩⟩
def pairD2 (x : Int × Int) : PyData := .tuple [.int x.1, .int x.2]
theorem TupsAt.dp {K : PySem.W.Frag} {H : Hp} : ∀ {ts : List V} {L : List (Int × Int)}, TupsAt H ts L → DpAll K H ts (L.map pairD2)
  | [], [], _ => .nil
  | [], _ :: _, h => absurd h.len (by simp)
  | _ :: _, [], h => absurd h.len (by simp)
  | x :: ts, (u, v) :: L, h => by
    obtain ⟨t, h1, h2⟩ := h.at_ 0 u v rfl
    cases Option.some.inj h1
    exact .cons (.tup (.of h2) (.cons (.int u) (.cons (.int v) .nil))) (TupsAt.dp ⟨Nat.succ.inj h.len, fun i a b e => h.at_ (i + 1) a b e⟩)
def spClique (K : PySem.W.Frag) : Sp := fun vs H Q _ => ∃ (fp ap : Addr) (ts : List V) (N : Net) (os : List Int), vs = [.ref fp, .ref ap] ∧ H fp = some (.lst ts) ∧ TupsAt H ts (pairsL N.ls os) ∧ UpAt H ap N.ls os ∧ NetOk N ∧ OrdOk N.n os ∧ ∀ H', Same H H' → Q (.bl true) H'
theorem pairsL_len {N : Net} {os : List Int} (ok : NetOk N) (oo : OrdOk N.n os) : (pairsL N.ls os).length ≤ 1600 := by
  unfold pairsL
  have h : ∀ xs : List Int, (xs.flatMap fun u => (upP N.ls os u).map fun v => (u, v)).length ≤ xs.length * 40 := by
    intro xs
    induction xs with
    | nil => exact Nat.zero_le _
    | cons x r ih =>
      rw [List.flatMap_cons, List.length_append, List.length_map, List.length_cons, Nat.succ_mul]
      have := up_len (u := x) ok oo
      omega
  have := h os
  have := oo.len
  have := ok.n40
  omega
section
variable {P : Program} {w : World} {K : PySem.W.Frag} {mg : Str → Option Value} {base : Heap}
end
/-! ### the law of pairs -/
theorem TupsAt.upd {H : Hp} {ts zs : List V} {L : List (Int × Int)} {D : Addr} {u : HO} (h : TupsAt H ts L) (hD : H D = some (.lst zs)) : TupsAt (L2.upd H D u) ts L := ⟨h.len, fun i a b e => by
  obtain ⟨t, h1, h2⟩ := h.at_ i a b e
  refine ⟨t, h1, ?_⟩
  rw [upd_ne (fun z => by
    rw [z, hD] at h2
    cases h2)]
  exact h2⟩
theorem TupsAt.but {H : Hp} {ts zs : List V} {L : List (Int × Int)} {D : Addr} (h : TupsAt H ts L) (hD : H D = some (.lst zs)) : TupsAt (Ovc.but H D) ts L := ⟨h.len, fun i a b e => by
  obtain ⟨t, h1, h2⟩ := h.at_ i a b e
  refine ⟨t, h1, ?_⟩
  rw [but_ne (fun z => by
    rw [z, hD] at h2
    cases h2)]
  exact h2⟩
theorem TupsAt.app {H : Hp} {ts zs : List V} {L M : List (Int × Int)} (h : TupsAt H ts L) (k : TupsAt H zs M) : TupsAt H (ts ++ zs) (L ++ M) := ⟨by
  rw [List.length_append, List.length_append, h.len, k.len], fun i u v e => by
  by_cases hi : i < L.length
  · rw [List.getElem?_append_left hi] at e
    rw [List.getElem?_append_left (by rw [h.len]; exact hi)]
    exact h.at_ i u v e
  · rw [List.getElem?_append_right (by omega)] at e
    rw [List.getElem?_append_right (by rw [h.len]; omega), h.len]
    exact k.at_ _ u v e⟩
theorem TupsAt.nil {H : Hp} : TupsAt H [] [] := ⟨rfl, fun i u v e => by simp at e⟩
theorem TupsAt.one {H : Hp} {t : Addr} {u v : Int} (h : H t = some (.tup [.int u, .int v])) : TupsAt H [.ref t] [(u, v)] := ⟨rfl, fun i a b e => by
  cases i with
  | zero =>
    cases Option.some.inj e
    exact ⟨t, rfl, h⟩
  | succ i => simp at e⟩
section
variable {K : PySem.W.Frag} {σ : L2.St} {H : Hp} {ta tb te tl : TE} {tr : TA} {D : Ends} {tw : TS} {x y : V}
/-- [(u, v) for v in xs] -/
theorem vt_lc {i j : Nat} {u : Int} {ns : List Int} {a : Addr} (hv : ∀ x, ((σ.set j none).set j (some x))[i]? = some (some (V.int u))) (hw : ∀ x, ((σ.set j none).set j (some x))[j]? = some (some x)) (hl : Vl tl σ H (.ref a)) (hx : SqL K H a (ns.map V.int)) (hz : ns.length ≤ 10000) (Q : VK)
    (q : ∀ D H' zs, Same H H' → H D = none → H' D = some (.lst zs) → TupsAt H' zs (ns.map fun v => (u, v)) → Q (.ref D) H') : tLc (iList K tl) (gName j) tYes (tTup (tCons (tVar i) (tCons (tVar j) tNil))) [j] σ H Q := by
  refine hl _ ⟨a, rfl, ⟨_, hx⟩, fun D nD => lc_list (K := K) (a := a) (xs := ns.map V.int) (fun k H' => ∃ zs, H' D = some (.lst zs) ∧ Same H H' ∧ TupsAt H' zs ((ns.take k).map fun v => (u, v))) ⟨[], upd_same, same_upd nD, TupsAt.nil⟩ (fun k H' _ hP => hP.choose_spec.2.1.seq hx) (fun k x H' hk hP => ?_) (fun H' hP => ?_)⟩
  · obtain ⟨zs, hD, s', hT⟩ := hP
    rw [List.getElem?_map] at hk
    cases hg : ns[k]? with
    | none =>
      rw [hg] at hk
      cases hk
    | some v =>
      rw [hg] at hk
      cases hk
      refine ⟨?_, iteT (B := ∃ zs, H' D = some (.lst zs) ∧ Same H H' ∧ TupsAt H' zs ((ns.take (k + 1)).map fun v => (u, v))) ⟨_, hv _, _, hw _, by show 2 ≤ sizeLine; decide, fun T nT => ⟨zs, same_upd nT _ _ hD, ?_, zs ++ [.ref T], upd_same, same_upd' (s'.trans (same_upd nT)) nD, ?_⟩⟩⟩
      · show ((σ.set j none).set j (some (V.int v))).set j none = σ.set j none
        rw [List.set_set, List.set_set]
      · rw [hT.len, List.length_map, List.length_take]
        exact Nat.lt_of_le_of_lt (m := 10000) (by omega) (by decide)
      · rw [take_snoc hg, List.map_append]
        exact ((hT.to (same_upd nT)).app (TupsAt.one upd_same)).upd (same_upd nT _ _ hD)
  · obtain ⟨zs, hD, s', hT⟩ := hP
    rw [List.length_map, List.take_length] at hT
    exact q D H' zs s' nD hD hT
/-- [e for x in range(n)], e told by f -/
theorem vn_lcRV {j : Nat} {n : Int} {f : Int → V} (hl : Va tr σ H [.int n]) (h0 : 0 ≤ n) (hz : n ≤ 1000000) (he : ∀ x : Int, 0 ≤ x → x < n → ∀ H', Same H H' → Ve te ((σ.set j none).set j (some (.int x))) H' (f x)) :
    Vn (tLc (iRng1 tr) (gName j) tYes te [j]) σ H ((rng n).map f) := fun Q q => by
  refine hl _ ⟨n, rfl, by omega, by omega, fun D nD => lc_range (lo := 0) (n := n.toNat) (fun i H' => H' D = some (.lst (((List.range i).map fun (i : Nat) => (i : Int)).map f)) ∧ Same H H') ⟨upd_same, same_upd nD⟩ (fun i H2 hi hP => ?_) (fun H2 hP => ?_)⟩
  · obtain ⟨hD, s2⟩ := hP
    rw [Int.zero_add]
    refine ⟨?_, iteT (B := H2 D = some (.lst (((List.range (i + 1)).map fun (i : Nat) => (i : Int)).map f)) ∧ Same H H2) (he i (by omega) (by omega) H2 s2 _ fun H3 s3 => ⟨_, s3 _ _ hD, ?_, ?_, same_upd' (s2.trans s3) nD⟩)⟩
    · show ((σ.set j none).set j (some (V.int i))).set j none = σ.set j none
      rw [List.set_set, List.set_set]
    · rw [List.length_map, List.length_map, List.length_range]
      exact Nat.lt_of_le_of_lt (m := 1000000) (by omega) (by decide)
    · rw [upd_same, List.range_succ, List.map_append, List.map_append]
      rfl
  · obtain ⟨hD, s2⟩ := hP
    exact q D H2 s2 nD hD
theorem ax_neV2 (ha : Ve ta σ H x) (hb : ∀ H', Same H H' → Vl tb σ H' y) (hs : scal x y = true) : Ax (tTest (tOp rNe ta tb)) σ H (!decide (x = y)) := fun Q k => ha _ fun H' s' => hb H' s' _ ⟨hs, _, rfl, k H' s'⟩
theorem q_appT2 {l : Addr} {xs : List V} {i j : Int} (ho : Vl ta σ H (.ref l)) (hl : H l = some (.lst xs)) (hz : xs.length < sizeLine) (k : ∀ T H', Same H H' → H T = none → tw D σ (L2.upd H' l (.lst (xs ++ [.ref T])))) :
    tSeq (tDrop (tBM K "list" rAppend ta (tCons (tTup (tCons (tC (.int i)) (tCons (tC (.int j)) tNil))) tNil))) tw D σ H := ho _ ⟨.inl ⟨rfl, _, .inl (.inl hl)⟩, by show 2 ≤ sizeLine; decide, fun T nT => ⟨l, xs, .ref T, rfl, rfl, same_upd nT _ _ hl, hz, k T _ (same_upd nT) nT⟩⟩
end
/-! ### how long a text of data is -/
theorem textFrom_le : ∀ (ts : List Str) (k : Nat) (acc : Str), (textFrom k acc ts).length ≤ acc.length + piled ts
  | [], k, acc => Nat.le_add_right _ _
  | t :: r, k, acc => by
    have h := textFrom_le r (k + 1) (acc ++ (if k > 0 then ", " else "" : String) ++ t)
    have e : (acc ++ (if k > 0 then ", " else "" : String) ++ t).length ≤ acc.length + 2 + t.length := by
      rw [strLen_append, strLen_append]
      split
      · have : (Str.ofString ", ").length = 2 := by decide +kernel
        omega
      · have : (Str.ofString "").length = 0 := by decide +kernel
        omega
    show (textFrom (k + 1) _ r).length ≤ acc.length + piled (t :: r)
    rw [piled_cons]
    omega
theorem listText_le (ts : List Str) : (listText ts).length ≤ piled ts + 2 := by
  unfold listText
  rw [strLen_append]
  have h := textFrom_le ts 0 "["
  have e1 : ("[" : Str).length = 1 := by decide +kernel
  have e2 : ("]" : Str).length = 1 := by decide +kernel
  omega
theorem tupleText_le (ts : List Str) : (tupleText ts).length ≤ piled ts + 4 := by
  unfold tupleText
  rw [strLen_append, strLen_append]
  have e1 : ("(" : Str).length = 1 := by decide +kernel
  have e2 : ((if ts.length == 1 then ",)" else ")" : String) : Str).length ≤ 2 := by
    split
    · exact Nat.le_of_eq (by decide +kernel)
    · exact Nat.le_trans (Nat.le_of_eq (by decide +kernel)) (show 1 ≤ 2 by decide)
  by_cases h : ts = []
  · subst h
    have e3 : (Str.join ", " []).length = 0 := by decide +kernel
    omega
  · have := join_length_add ts h
    omega
theorem piled_le {ds : List PyData} {m : Nat} (h : ∀ d ∈ ds, d.shown.length ≤ m) : piled (PyData.shownAll ds) ≤ ds.length * (m + 2) := by
  induction ds with
  | nil => exact Nat.zero_le _
  | cons d r ih =>
    show piled (d.shown :: PyData.shownAll r) ≤ _
    rw [piled_cons, List.length_cons, Nat.succ_mul]
    have h1 := h d List.mem_cons_self
    have h2 := ih fun x hx => h x (List.mem_cons_of_mem _ hx)
    omega
theorem shown_int {i : Int} (h0 : 0 ≤ i) (h1 : i ≤ 10000000) : (PyData.int i).shown.length ≤ 10 := PySem.W.KT.len_num h0 (by omega)
theorem shown_o {o : Option Int} (h : PriceOk o) : (oD o).shown.length ≤ 10 := by
  cases o with
  | none =>
    show ("None" : Str).length ≤ 10
    decide +kernel
  | some x =>
    have := h x rfl
    exact shown_int (by omega) (by omega)
theorem showable_int {i : Int} (h0 : 0 ≤ i) (h1 : i ≤ 10000000) : (PyData.int i).showable = true := by
  refine decide_eq_true ?_
  by_cases hz : i.natAbs = 0
  · rw [hz]
    decide
  · rw [Nat.log2_lt hz]
    have h : i.natAbs < 2 ^ 24 := by omega
    exact Nat.lt_of_lt_of_le h (Nat.pow_le_pow_right (by decide : 2 > 0) (show 24 ≤ 1920 by decide))
theorem showable_o {o : Option Int} (h : PriceOk o) : (oD o).showable = true := by
  cases o with
  | none => rfl
  | some x =>
    have := h x rfl
    exact showable_int (by omega) (by omega)
theorem showable_all {ds : List PyData} (h : ∀ d ∈ ds, d.showable = true) : PyData.showableAll ds = true := by
  induction ds with
  | nil => rfl
  | cons d r ih =>
    show (d.showable && PyData.showableAll r) = true
    rw [h d List.mem_cons_self, ih fun x hx => h x (List.mem_cons_of_mem _ hx)]
    rfl
/-- what repr asks of data -/
structure ShowOk (d : PyData) (m : Nat) : Prop where
  sh : d.showable = true
  nd : d.hasDict = false
  dep : d.depth ≤ 10
  len : d.shown.length ≤ m
theorem showOk_net {N : Net} (ok : NetOk N) : ShowOk (netD N) 200000 := by
  have n1 := ok.n1
  have n40 := ok.n40
  have l16 := ok.len
  have hl : ∀ d ∈ N.ls.map lnkD, d.shown.length ≤ 60 ∧ d.showable = true := fun d hd => by
    obtain ⟨l, hl, rfl⟩ := List.mem_map.mp hd
    have h := ok.ok l hl
    have a0 := h.a0
    have ab := h.ab
    have bn := h.bn
    have s1 := shown_int (i := l.a) (by omega) (by omega)
    have s2 := shown_int (i := l.b) (by omega) (by omega)
    have s3 := shown_o h.t
    have s4 := shown_o h.k
    constructor
    · show (tupleText (PyData.shownAll [.int l.a, .int l.b, oD l.t, oD l.k])).length ≤ 60
      have := tupleText_le (PyData.shownAll [.int l.a, .int l.b, oD l.t, oD l.k])
      have p := piled_le (ds := [.int l.a, .int l.b, oD l.t, oD l.k]) (m := 10) (fun d hd => by
        simp only [List.mem_cons, List.not_mem_nil, or_false] at hd
        rcases hd with rfl | rfl | rfl | rfl <;> assumption)
      have e : ([.int l.a, .int l.b, oD l.t, oD l.k] : List PyData).length = 4 := rfl
      rw [e] at p
      omega
    · show (PyData.showableAll [.int l.a, .int l.b, oD l.t, oD l.k]) = true
      refine showable_all fun d hd => ?_
      simp only [List.mem_cons, List.not_mem_nil, or_false] at hd
      rcases hd with rfl | rfl | rfl | rfl
      · exact showable_int (by omega) (by omega)
      · exact showable_int (by omega) (by omega)
      · exact showable_o h.t
      · exact showable_o h.k
  have p := piled_le (ds := N.ls.map lnkD) (m := 60) fun d hd => (hl d hd).1
  rw [List.length_map] at p
  have q := listText_le (PyData.shownAll (N.ls.map lnkD))
  have s1 := shown_int (i := N.n) (by omega) (by omega)
  refine ⟨?_, PyData.hasDict_of_canLay _ (lay_net N).1, Nat.le_trans (lay_net N).2 (by decide), ?_⟩
  · show (PyData.showableAll [.int N.n, .list (N.ls.map lnkD)]) = true
    refine showable_all fun d hd => ?_
    simp only [List.mem_cons, List.not_mem_nil, or_false] at hd
    rcases hd with rfl | rfl
    · exact showable_int (by omega) (by omega)
    · exact showable_all fun d hd => (hl d hd).2
  · show (tupleText (PyData.shownAll [.int N.n, .list (N.ls.map lnkD)])).length ≤ 200000
    have := tupleText_le (PyData.shownAll [.int N.n, .list (N.ls.map lnkD)])
    have p2 := piled_le (ds := [.int N.n, .list (N.ls.map lnkD)]) (m := 99902) (fun d hd => by
      simp only [List.mem_cons, List.not_mem_nil, or_false] at hd
      rcases hd with rfl | rfl
      · omega
      · show (listText (PyData.shownAll (N.ls.map lnkD))).length ≤ 99902
        omega)
    have e : ([.int N.n, .list (N.ls.map lnkD)] : List PyData).length = 2 := rfl
    rw [e] at p2
    omega
theorem showOk_ints {ns : List Int} (h : ∀ x ∈ ns, 0 ≤ x ∧ x ≤ 10000000) (hl : ns.length ≤ 1000) : ShowOk (.list (ns.map PyData.int)) 20000 := by
  have p := piled_le (ds := ns.map PyData.int) (m := 10) fun d hd => by
    obtain ⟨x, hx, rfl⟩ := List.mem_map.mp hd
    exact shown_int (h x hx).1 (h x hx).2
  rw [List.length_map] at p
  have q := listText_le (PyData.shownAll (ns.map PyData.int))
  refine ⟨?_, PyData.hasDict_of_canLay _ ((lay_ints ns).1), ?_, ?_⟩
  · refine showable_all fun d hd => ?_
    obtain ⟨x, hx, rfl⟩ := List.mem_map.mp hd
    exact showable_int (h x hx).1 (h x hx).2
  · show PyData.depthAll (ns.map PyData.int) + 1 ≤ 10
    rw [(lay_ints ns).2]
    decide
  · show (listText (PyData.shownAll (ns.map PyData.int))).length ≤ 20000
    omega
theorem showOk_pair {a b : PyData} {m : Nat} (ha : ShowOk a m) (hb : ShowOk b m) : (PyData.tuple [a, b]).showable = true ∧ (PyData.tuple [a, b]).hasDict = false ∧ (PyData.tuple [a, b]).depth ≤ 60 ∧ (PyData.tuple [a, b]).shown.length ≤ 2 * (m + 2) + 4 := by
  refine ⟨?_, ?_, ?_, ?_⟩
  · show (PyData.showableAll [a, b]) = true
    exact showable_all fun d hd => by
      simp only [List.mem_cons, List.not_mem_nil, or_false] at hd
      rcases hd with rfl | rfl
      · exact ha.sh
      · exact hb.sh
  · show (a.hasDict || (b.hasDict || false)) = false
    rw [ha.nd, hb.nd]
    rfl
  · show max a.depth (max b.depth 0) + 1 ≤ 60
    have := ha.dep
    have := hb.dep
    omega
  · have := tupleText_le (PyData.shownAll [a, b])
    have p := piled_le (ds := [a, b]) (m := m) (fun d hd => by
      simp only [List.mem_cons, List.not_mem_nil, or_false] at hd
      rcases hd with rfl | rfl
      · exact ha.len
      · exact hb.len)
    have e : ([a, b] : List PyData).length = 2 := rfl
    rw [e] at p
    show (tupleText (PyData.shownAll [a, b])).length ≤ _
    omega
def spPairs (K : PySem.W.Frag) : Sp := fun vs H Q _ => ∃ (v : V) (N : Net) (p : Addr) (os : List Int), vs = [v, .ref p] ∧ Dp K H v (netD N) ∧ NetOk N ∧ SqL K H p (os.map V.int) ∧ OrdOk N.n os ∧ ∀ H' q ts, Same H H' → H q = none → H' q = some (.lst ts) → TupsAt H' ts (pairsL N.ls os) → Q (.ref q) H'
theorem yes_of {σ : L2.St} {H : Hp} {Q : Bool → Hp → Prop} (h : Q true H) : tYes σ H Q := h
abbrev sPairs : Stmt := topS 12
theorem scPairs : FnScope ["net", "order", "above", "low", "high"] ["net", "order"] (defScope sPairs) := ⟨rfl, rfl, rfl, by decide +kernel, rfl, by decide +kernel, by decide +kernel⟩
section
variable {P : Program} {w : World} {K : PySem.W.Frag} {mg : Str → Option Value} {base : Heap} {CN fI : Addr}
theorem ok_pairs {f : Addr} {fd : FuncData} {k : Nat} (F : Fun K "pairs" "pairs" sPairs f fd) (c_upper : Kal P w K mg base k "upper" ["net", "order"] (spUpper K)) : FnOk P w K mg base CX0 (k + 1) f fd ["net", "order"] (spPairs K) := by
  refine F.ok scPairs (fun vs H Q E h => ?_) (fun cdv A outer s H vs Q E hr h => ?_)
  · obtain ⟨v, N, p, os, rfl, _⟩ := h
    rfl
  · obtain ⟨v, N, p, os, rfl, hN, okN, hS, oo, q⟩ := h
    refine ⟨_, pss_cons (ps_set (i := 2) scPairs.nd rfl (.inr rfl) (pe_k c_upper hr (by first | decide | omega) (by rfl) (pa_cons (pv 0) (pa_cons (pv 1) pa_nil))))
      (pss_one (ps_ret (pe_lc2 (own := [("low", 3), ("high", 4)]) (vs1 := [4]) (g := gName 3) (tt := tYes) (wi1 := (iList K (tOp (rIxL K) (tVar 2) (tVar 3)))) (g1 := gName 4) (tt1 := tYes) (te := (tTup (tCons (tVar 3) (tCons (tVar 4) tNil)))) (by rfl) scPairs.nd (pi_list (pv 1)) (blkOk_by (own := [("low", 3), ("high", 4)]) (N := ["net", "order", "above", "low", "high"]) (sc := defScope sPairs) (by decide +kernel)) (by decide) (fun _ _ _ _ _ => pg_name (i := 3) scPairs.nd rfl (Or.inl rfl)) (fun _ _ _ _ _ => by exact pts_nil) (fun _ _ _ _ _ => by exact (pi_list (pe_ix ix_list (pv 2) (pv 3) (fun _ _ => rfl)))) (fun _ _ _ _ _ => pg_name (i := 4) scPairs.nd rfl (Or.inl rfl)) (fun _ _ _ _ _ => by exact pts_nil) (fun _ _ _ _ _ => by exact (pe_tup (pa_cons (pv 3) (pa_cons (pv 4) pa_nil))))))), ?_⟩
    refine q_asgE ⟨v, rfl, .ref p, rfl, v, N, p, os, rfl, hN, okN, hS, oo, fun H1 ap rs s1 nap eap hrow => ?_⟩
    have on := oo.len
    have hS1 := s1.seq hS
    refine ⟨.ref p, rfl, p, rfl, ⟨_, hS1⟩, fun D nD => ?_⟩
    have snD : Same H1 (upd H1 D (.lst [])) := same_upd nD
    -- what stands ahead of turn i
    refine ⟨fun i m H2 => m + i = os.length ∧ Same H1 H2 ∧ ∃ ts, H2 D = some (.lst ts) ∧ TupsAt H2 ts ((os.take i).flatMap fun u => (upP N.ls os u).map fun v => (u, v)), ⟨os.length, rfl, snD, [], upd_same, TupsAt.nil⟩, fun i m H2 hW => ?_⟩
    obtain ⟨em, s2, ts, hD, hT⟩ := hW
    by_cases hi : i < os.length
    · refine .inr ⟨⟨_, _, s2.seq hS1, by rw [List.getElem?_map, List.getElem?_eq_getElem hi] <;> rfl⟩, fun H' => Same H1 H' ∧ ∃ ts, H' D = some (.lst ts) ∧ TupsAt H' ts ((os.take (i + 1)).flatMap fun u => (upP N.ls os u).map fun v => (u, v)), fun H' hx => ⟨m - 1, by omega, by omega, hx.1, hx.2⟩, fun x H' hy => ?_⟩
      obtain ⟨rfl, hy⟩ := hy
      have hy := hy _ (s2.seq hS1)
      have hg : os[i]? = some os[i] := List.getElem?_eq_getElem hi
      rw [List.getElem?_map, hg] at hy
      generalize os[i] = u at hg hy
      cases hy
      have hu := oo.mem.mp (List.mem_of_getElem? hg)
      obtain ⟨a, z1, z2, z3, z4⟩ := hrow.row u hu.1 hu.2
      have e0 : (os.take (i + 1)).flatMap (fun u => (upP N.ls os u).map fun v => (u, v)) = ((os.take i).flatMap fun u => (upP N.ls os u).map fun v => (u, v)) ++ (upP N.ls os u).map fun v => (u, v) := by
        rw [take_snoc hg, List.flatMap_append]
        simp
      have hlen : ((os.take i).flatMap fun u => (upP N.ls os u).map fun v => (u, v)).length + (upP N.ls os u).length ≤ 1600 := by
        have h1 := pairsL_len okN oo
        have h2 : (os.take (i + 1)).flatMap (fun u => (upP N.ls os u).map fun v => (u, v)) <+: pairsL N.ls os := by
          unfold pairsL
          exact ⟨(os.drop (i + 1)).flatMap fun u => (upP N.ls os u).map fun v => (u, v), by rw [← List.flatMap_append, List.take_append_drop]⟩
        have h3 := h2.length_le
        rw [e0, List.length_append, List.length_map] at h3
        omega
      refine ⟨rfl, ?_⟩
      refine yes_of ?_
      dsimp only
      rw [if_pos rfl]
      have za := s2 _ _ z4
      have eap2 := s2 _ _ eap
      refine (vl_ixL (K := K) (σ := [some v, some (.ref p), some (.ref ap), some (.int u), none]) (vl_var rfl) (vl_var rfl) (.of eap2) (by
        have := atI_nat z1
        rw [show ((u.toNat : Nat) : Int) = u by omega] at this
        exact this)) _ ⟨a, rfl, ⟨_, .of za⟩, fun j k H3 => k + j = (upP N.ls os u).length ∧ Same H1 H3 ∧ ∃ ts, H3 D = some (.lst ts) ∧ TupsAt H3 ts (((os.take i).flatMap fun u => (upP N.ls os u).map fun v => (u, v)) ++ ((upP N.ls os u).take j).map fun v => (u, v)), ⟨_, rfl, s2, ts, hD, by
          rw [List.take_zero, List.map_nil, List.append_nil]
          exact hT⟩, fun j k H3 hW => ?_⟩
      obtain ⟨ek, s3, ts3, hD3, hT3⟩ := hW
      have za3 := s3 _ _ z4
      by_cases hj : j < (upP N.ls os u).length
      · refine .inr ⟨⟨_, _, .of za3, by rw [List.getElem?_map, List.getElem?_eq_getElem hj] <;> rfl⟩, fun H' => Same H1 H' ∧ ∃ ts, H' D = some (.lst ts) ∧ TupsAt H' ts (((os.take i).flatMap fun u => (upP N.ls os u).map fun v => (u, v)) ++ ((upP N.ls os u).take (j + 1)).map fun v => (u, v)), fun H' hx => ⟨k - 1, by omega, by omega, hx.1, hx.2⟩, fun x H' hy => ?_⟩
        obtain ⟨rfl, hy⟩ := hy
        have hy := hy _ (.of za3)
        have hg2 : (upP N.ls os u)[j]? = some (upP N.ls os u)[j] := List.getElem?_eq_getElem hj
        rw [List.getElem?_map, hg2] at hy
        generalize (upP N.ls os u)[j] = z at hg2 hy
        cases hy
        refine ⟨rfl, ?_⟩
        refine yes_of ?_
        dsimp only
        rw [if_pos rfl]
        refine ⟨_, rfl, _, rfl, by show 2 ≤ sizeLine; decide, fun T nT => ⟨ts3, same_upd nT _ _ hD3, ?_, same_upd' (s3.trans (same_upd nT)) nD, _, upd_same, ?_⟩⟩
        · rw [hT3.len, List.length_append, List.length_map, List.length_take]
          exact Nat.lt_of_le_of_lt (m := 10000) (by omega) (by decide)
        · rw [take_snoc hg2, List.map_append, ← List.append_assoc]
          exact ((hT3.to (same_upd nT)).app (TupsAt.one upd_same)).upd (same_upd nT _ _ hD3)
      · refine .inl ⟨⟨_, .of za3, by rw [List.length_map]; omega⟩, s3, ts3, hD3, ?_⟩
        rw [e0]
        rw [List.take_of_length_le (l := upP N.ls os u) (i := j) (by omega)] at hT3
        exact hT3
    · refine .inl ⟨⟨_, s2.seq hS1, by rw [List.length_map]; omega⟩, ?_⟩
      rw [List.take_of_length_le (by omega)] at hT
      exact q H2 D ts (s1.trans s2) (Same.free s1 nD) hD hT
end
/-! ### witnesses: ways of links by layers -/
def lastI (w : List Int) : Int := w.getLastD 0
theorem lastI_app (w : List Int) (y : Int) : lastI (w ++ [y]) = y := by
  unfold lastI
  rw [List.getLastD_eq_getLast?, List.getLast?_append]
  rfl
section
variable (nb : Int → List Int) (low : Int → Bool)
def newS (S : List Int) (x : Int) : List Int := (nb x).filter fun y => low y && !decide (y ∈ S)
def layStep (acc : List (List Int) × List Int) (w : List Int) : List (List Int) × List Int := (acc.1 ++ (newS nb low acc.2 (lastI w)).map (fun y => w ++ [y]), acc.2 ++ newS nb low acc.2 (lastI w))
def layN (p : List (List Int) × List Int) : List (List Int) × List Int := p.1.foldl (layStep nb low) ([], p.2)
def lay (u : Int) : Nat → List (List Int) × List Int
  | 0 => ([[u]], [u])
  | t + 1 => layN nb low (lay u t)
/-- the first way of a layer that leads to v -/
def goesTo (v : Int) (W : List (List Int)) : Option (List Int) := (W.find? fun w => decide (v ∈ nb (lastI w))).map fun w => w ++ [v]
/-- the witness: the first in the first layer that has one -/
def witF (u v : Int) (m : Nat) : Option (List Int) := (List.range m).findSome? fun t => goesTo nb v (lay nb low u t).1
end
section
variable {nb : Int → List Int} {low : Int → Bool}
theorem mem_newS {S : List Int} {x y : Int} : y ∈ newS nb low S x ↔ y ∈ nb x ∧ low y = true ∧ y ∉ S := by
  unfold newS
  rw [List.mem_filter, Bool.and_eq_true, Bool.not_eq_true', decide_eq_false_iff_not]
/-- what holds while a layer is told: S0 the places seen before, W the ways done, L the ways found, S the places seen -/
structure LayI (nb : Int → List Int) (low : Int → Bool) (S0 : List Int) (k : Nat) (W L : List (List Int)) (S : List Int) : Prop where
  seen : S = S0 ++ L.map lastI
  len : ∀ w ∈ L, w.length = k + 1
  from_ : ∀ w ∈ L, ∃ z ∈ W, ∃ y, w = z ++ [y] ∧ y ∈ nb (lastI z) ∧ low y = true
  srt : L.Pairwise (· < ·)
  nd : S.Nodup
  clo : ∀ z ∈ W, ∀ y ∈ nb (lastI z), low y = true → y ∈ S
theorem lex_app {a b : List Int} (h : a < b) (e : a.length = b.length) (y z : Int) : a ++ [y] < b ++ [z] := by
  induction a generalizing b with
  | nil =>
    cases b with
    | nil => exact absurd h (List.lt_irrefl _)
    | cons x b => cases e
  | cons x a ih =>
    cases b with
    | nil => cases e
    | cons c b =>
      rw [List.cons_lt_cons_iff] at h
      show x :: (a ++ [y]) < c :: (b ++ [z])
      rw [List.cons_lt_cons_iff]
      rcases h with h | ⟨h1, h2⟩
      · exact .inl h
      · exact .inr ⟨h1, ih h2 (Nat.succ.inj e)⟩
theorem lex_same (a : List Int) {y z : Int} (h : y < z) : a ++ [y] < a ++ [z] := by
  induction a with
  | nil =>
    show [y] < [z]
    rw [List.cons_lt_cons_iff]
    exact .inl h
  | cons x a ih =>
    show x :: (a ++ [y]) < x :: (a ++ [z])
    rw [List.cons_lt_cons_iff]
    exact .inr ⟨rfl, ih⟩
theorem LayI.step (hn : ∀ x, (nb x).Pairwise (· < ·)) {S0 S : List Int} {k : Nat} {W L : List (List Int)} {w : List Int} (h : LayI nb low S0 k W L S) (hw : ∀ z ∈ W, z < w ∧ z.length = k) (hk : w.length = k) :
    LayI nb low S0 k (W ++ [w]) (layStep nb low (L, S) w).1 (layStep nb low (L, S) w).2 := by
  have nd : (newS nb low S (lastI w)).Nodup := List.Pairwise.filter _ ((hn (lastI w)).imp fun h z => by omega)
  have asc : (newS nb low S (lastI w)).Pairwise (· < ·) := List.Pairwise.filter _ (hn (lastI w))
  refine ⟨?_, fun z hz => ?_, fun z hz => ?_, ?_, ?_, fun z hz y hy hl => ?_⟩
  · show S ++ newS nb low S (lastI w) = S0 ++ (L ++ (newS nb low S (lastI w)).map fun y => w ++ [y]).map lastI
    rw [List.map_append, List.map_map, ← List.append_assoc, ← h.seen]
    congr 1
    exact (List.map_id _).symm.trans (List.map_congr_left fun y _ => (lastI_app w y).symm)
  · rcases List.mem_append.mp hz with hz | hz
    · exact h.len z hz
    · obtain ⟨y, _, rfl⟩ := List.mem_map.mp hz
      rw [List.length_append, hk]
      rfl
  · rcases List.mem_append.mp hz with hz | hz
    · obtain ⟨q, hq, r⟩ := h.from_ z hz
      exact ⟨q, List.mem_append.mpr (.inl hq), r⟩
    · obtain ⟨y, hy, rfl⟩ := List.mem_map.mp hz
      have := mem_newS.mp hy
      exact ⟨w, List.mem_append.mpr (.inr List.mem_cons_self), y, rfl, this.1, this.2.1⟩
  · show (L ++ (newS nb low S (lastI w)).map fun y => w ++ [y]).Pairwise (· < ·)
    rw [List.pairwise_append]
    refine ⟨h.srt, List.pairwise_map.mpr (asc.imp fun q => lex_same w q), fun a ha b hb => ?_⟩
    obtain ⟨q, hq, y, rfl, _⟩ := h.from_ a ha
    obtain ⟨z, _, rfl⟩ := List.mem_map.mp hb
    have := hw q hq
    exact lex_app this.1 (this.2.trans hk.symm) y z
  · show (S ++ newS nb low S (lastI w)).Nodup
    rw [List.nodup_append]
    exact ⟨h.nd, nd, fun a ha b hb e => by
      rw [e] at ha
      exact (mem_newS.mp hb).2.2 ha⟩
  · show y ∈ S ++ newS nb low S (lastI w)
    rw [List.mem_append]
    rcases List.mem_append.mp hz with hz | hz
    · exact .inl (h.clo z hz y hy hl)
    · rw [List.mem_singleton.mp hz] at hy
      by_cases c : y ∈ S
      · exact .inl c
      · exact .inr (mem_newS.mpr ⟨hy, hl, c⟩)
theorem LayI.start {S0 : List Int} {k : Nat} (h : S0.Nodup) : LayI nb low S0 k [] [] S0 := ⟨by simp, fun _ h => (nomatch h), fun _ h => (nomatch h), .nil, h, fun _ h => (nomatch h)⟩
theorem LayI.fold (hn : ∀ x, (nb x).Pairwise (· < ·)) {S0 : List Int} {k : Nat} : ∀ (ws V : List (List Int)) (L : List (List Int)) (S : List Int), LayI nb low S0 k V L S → (V ++ ws).Pairwise (· < ·) → (∀ w ∈ V ++ ws, w.length = k) → LayI nb low S0 k (V ++ ws) (ws.foldl (layStep nb low) (L, S)).1 (ws.foldl (layStep nb low) (L, S)).2
  | [], V, L, S, h, _, _ => by rw [List.append_nil]; exact h
  | w :: ws, V, L, S, h, hp, hl => by
    have hs := h.step hn (w := w) (fun z hz => ⟨(List.pairwise_append.mp hp).2.2 z hz w List.mem_cons_self, hl z (List.mem_append.mpr (.inl hz))⟩) (hl w (List.mem_append.mpr (.inr List.mem_cons_self)))
    have e : V ++ w :: ws = (V ++ [w]) ++ ws := by rw [List.append_assoc]; rfl
    rw [e] at hp hl ⊢
    exact LayI.fold hn ws (V ++ [w]) _ _ hs hp hl
/-- what holds of a layer -/
structure LayOk (nb : Int → List Int) (low : Int → Bool) (u : Int) (t : Nat) (W : List (List Int)) (S : List Int) : Prop where
  len : ∀ w ∈ W, w.length = t + 1
  srt : W.Pairwise (· < ·)
  nd : S.Nodup
  ends : ∀ w ∈ W, lastI w ∈ S
  inj : ∀ w ∈ W, ∀ z ∈ W, lastI w = lastI z → w = z
  us : u ∈ S
  size : W ≠ [] → t + 1 ≤ S.length
  seen : ∀ x ∈ S, x = u ∨ low x = true
theorem lay_ok (hn : ∀ x, (nb x).Pairwise (· < ·)) (u : Int) : ∀ t, LayOk nb low u t (lay nb low u t).1 (lay nb low u t).2 ∧ LayI nb low (lay nb low u t).2 (t + 1) (lay nb low u t).1 (lay nb low u (t + 1)).1 (lay nb low u (t + 1)).2 := by
  have nx : ∀ t W S, LayOk nb low u t W S → LayI nb low S (t + 1) W (layN nb low (W, S)).1 (layN nb low (W, S)).2 := fun t W S h => by
    have := LayI.fold (low := low) hn W [] [] S (LayI.start (k := t + 1) h.nd) (by rw [List.nil_append]; exact h.srt) (by rw [List.nil_append]; exact h.len)
    rw [List.nil_append] at this
    exact this
  intro t
  induction t with
  | zero =>
    have h0 : LayOk nb low u 0 [[u]] [u] := ⟨fun w hw => by rw [List.mem_singleton.mp hw]; rfl, List.pairwise_singleton _ _, List.nodup_cons.mpr ⟨List.not_mem_nil, List.nodup_nil⟩, fun w hw => by rw [List.mem_singleton.mp hw]; exact List.mem_cons_self, fun w hw z hz _ => by rw [List.mem_singleton.mp hw, List.mem_singleton.mp hz], List.mem_cons_self, fun _ => Nat.le_refl _, fun x hx => .inl (List.mem_singleton.mp hx)⟩
    exact ⟨h0, nx 0 _ _ h0⟩
  | succ t ih =>
    obtain ⟨h, hi⟩ := ih
    generalize hW' : (lay nb low u (t + 1)).1 = W' at hi ⊢
    generalize hS' : (lay nb low u (t + 1)).2 = S' at hi ⊢
    have e2 : lay nb low u (t + 1 + 1) = layN nb low (W', S') := by
      rw [← hW', ← hS']
      rfl
    have h1 : LayOk nb low u (t + 1) W' S' := by
      refine ⟨hi.len, hi.srt, hi.nd, fun w hw => ?_, fun w hw z hz e => ?_, ?_, fun hne => ?_, fun x hx => ?_⟩
      · rw [hi.seen]
        exact List.mem_append.mpr (.inr (List.mem_map.mpr ⟨w, hw, rfl⟩))
      · have nd := hi.nd
        rw [hi.seen] at nd
        have nd2 := (List.nodup_append.mp nd).2.1
        obtain ⟨i, hi1⟩ := List.mem_iff_getElem?.mp hw
        obtain ⟨j, hj1⟩ := List.mem_iff_getElem?.mp hz
        have il := (List.getElem?_eq_some_iff.mp hi1).1
        have : i = j := (List.getElem?_inj (by rw [List.length_map]; exact il) nd2).mp (by rw [List.getElem?_map, List.getElem?_map, hi1, hj1]; exact congrArg some e)
        rw [this, hj1] at hi1
        exact (Option.some.inj hi1).symm
      · rw [hi.seen]
        exact List.mem_append.mpr (.inl h.us)
      · obtain ⟨w, hw⟩ := List.exists_mem_of_ne_nil _ hne
        obtain ⟨z, hz, _⟩ := hi.from_ w hw
        have := h.size (fun e => by rw [e] at hz; cases hz)
        rw [hi.seen, List.length_append, List.length_map]
        have : 0 < W'.length := List.length_pos_iff.mpr hne
        omega
      · rw [hi.seen] at hx
        rcases List.mem_append.mp hx with hx | hx
        · exact h.seen x hx
        · obtain ⟨w, hw, rfl⟩ := List.mem_map.mp hx
          obtain ⟨z, _, y, rfl, _, hl⟩ := hi.from_ w hw
          rw [lastI_app]
          exact .inr hl
    rw [e2]
    exact ⟨h1, nx _ _ _ h1⟩
end
/-! ### a pair has a witness, and only a pair -/
def nbN (N : Net) : Int → List Int := fun x => nearOf x N.ls
def lowU (os : List Int) (u : Int) : Int → Bool := fun y => decide (posOf y os < posOf u os)
section
variable {N : Net} {os : List Int} {u v : Int}
theorem nbN_lt (ok : NetOk N) : ∀ x, (nbN N x).Pairwise (· < ·) := near_lt ok
abbrev layW (N : Net) (os : List Int) (u : Int) (t : Nat) := lay (nbN N) (lowU os u) u t
theorem lay_seen (ok : NetOk N) (hu : 0 ≤ u ∧ u < N.n) : ∀ t, ∀ x ∈ (layW N os u t).2, (0 ≤ x ∧ x < N.n) ∧ (x = u ∨ (posOf x os < posOf u os ∧ Rch (adj0 N.ls) (fun z => posOf z os < posOf u os) u x)) ∧ ∃ s, s ≤ t ∧ ∃ w ∈ (layW N os u s).1, lastI w = x := by
  intro t
  induction t with
  | zero =>
    intro x hx
    rw [List.mem_singleton.mp hx]
    exact ⟨hu, .inl rfl, 0, Nat.le_refl _, [u], List.mem_cons_self, rfl⟩
  | succ t ih =>
    intro x hx
    obtain ⟨h, hi⟩ := lay_ok (low := lowU os u) (nbN_lt ok) u t
    rw [hi.seen] at hx
    rcases List.mem_append.mp hx with hx | hx
    · obtain ⟨a, b, s, hs, w, hw, e⟩ := ih x hx
      exact ⟨a, b, s, by omega, w, hw, e⟩
    · obtain ⟨w, hw, rfl⟩ := List.mem_map.mp hx
      obtain ⟨z, hz, y, rfl, hy, hl⟩ := hi.from_ w hw
      have hl : posOf y os < posOf u os := of_decide_eq_true hl
      have ha : adj0 N.ls (lastI z) y = true := (near_mem ok).mp hy
      obtain ⟨_, b, _⟩ := ih (lastI z) (h.ends z hz)
      refine ⟨?_, ?_, t + 1, Nat.le_refl _, _, hw, rfl⟩
      · rw [lastI_app]
        exact (adj0_in ok ha).2.1
      · rw [lastI_app]
        rcases b with e | ⟨c, r⟩
        · rw [e] at ha
          exact .inr ⟨hl, .one ha⟩
        · exact .inr ⟨hl, .step r c ha⟩
theorem lay_n (ok : NetOk N) (hu : 0 ≤ u ∧ u < N.n) {t : Nat} (h : (layW N os u t).1 ≠ []) : t + 1 ≤ N.n.toNat := by
  obtain ⟨h1, _⟩ := lay_ok (low := lowU os u) (nbN_lt ok) u t
  have := sub_len (ys := rng N.n) h1.nd fun x hx => mem_rng.mpr (lay_seen ok hu t x hx).1
  rw [len_rng] at this
  have := h1.size h
  omega
theorem goes_some {nb : Int → List Int} {W : List (List Int)} {r : List Int} (h : goesTo nb v W = some r) : ∃ w ∈ W, v ∈ nb (lastI w) ∧ r = w ++ [v] := by
  unfold goesTo at h
  obtain ⟨w, hw, e⟩ := Option.map_eq_some_iff.mp h
  exact ⟨w, List.mem_of_find?_eq_some hw, by simpa using List.find?_some hw, e.symm⟩
theorem goes_none {nb : Int → List Int} {W : List (List Int)} (h : goesTo nb v W = none) : ∀ w ∈ W, v ∉ nb (lastI w) := fun w hw hv => by
  unfold goesTo at h
  rw [Option.map_eq_none_iff, List.find?_eq_none] at h
  exact h w hw (decide_eq_true hv)
theorem goes_pair (ok : NetOk N) (hu : 0 ≤ u ∧ u < N.n) (huv : posOf u os < posOf v os) {t : Nat} {r : List Int} (h : goesTo (nbN N) v (layW N os u t).1 = some r) : PairP N.ls os u v := by
  obtain ⟨w, hw, hv, _⟩ := goes_some h
  obtain ⟨h1, _⟩ := lay_ok (low := lowU os u) (nbN_lt ok) u t
  have ha : adj0 N.ls (lastI w) v = true := (near_mem ok).mp hv
  obtain ⟨_, b, _⟩ := lay_seen ok hu t (lastI w) (h1.ends w hw)
  refine ⟨huv, ?_⟩
  rcases b with e | ⟨c, r⟩
  · rw [e] at ha
    exact .one ha
  · exact .step r c ha
theorem pair_goes (ok : NetOk N) (hp : PairP N.ls os u v) : ∃ t, t < N.n.toNat ∧ (goesTo (nbN N) v (layW N os u t).1).isSome = true := by
  have hu := (hp.ins ok).1
  refine Classical.byContradiction fun hno => ?_
  have none_ : ∀ t, goesTo (nbN N) v (layW N os u t).1 = none := fun t => by
    by_cases c : (layW N os u t).1 = []
    · rw [c]
      rfl
    · cases e : goesTo (nbN N) v (layW N os u t).1 with
      | none => rfl
      | some r =>
        have := lay_n ok hu c
        exact absurd ⟨t, by omega, by rw [e]; rfl⟩ hno
  -- all that is seen at last
  have emp : ∀ t, N.n.toNat ≤ t → (layW N os u t).1 = [] := fun t ht => Classical.byContradiction fun c => by
    have := lay_n ok hu c
    omega
  have keep : ∀ s d, ∀ x ∈ (layW N os u s).2, x ∈ (layW N os u (s + d)).2 := fun s d => by
    induction d with
    | zero => exact fun x hx => hx
    | succ d ih =>
      intro x hx
      obtain ⟨_, hi⟩ := lay_ok (low := lowU os u) (nbN_lt ok) u (s + d)
      show x ∈ (layW N os u (s + d + 1)).2
      rw [hi.seen]
      exact List.mem_append.mpr (.inl (ih x hx))
  have clo : ∀ x ∈ (layW N os u N.n.toNat).2, ∀ y, adj0 N.ls x y = true → posOf y os < posOf u os → y ∈ (layW N os u N.n.toNat).2 := fun x hx y ha hl => by
    obtain ⟨_, _, s, hs, w, hw, e⟩ := lay_seen ok hu _ x hx
    obtain ⟨_, hi⟩ := lay_ok (low := lowU os u) (nbN_lt ok) u s
    have h1 := hi.clo w hw y (by rw [e]; exact (near_mem ok).mpr ha) (decide_eq_true hl)
    have sl : s + 1 ≤ N.n.toNat := lay_n ok hu fun c => by
      rw [c] at hw
      cases hw
    have := keep (s + 1) (N.n.toNat - (s + 1)) y h1
    rw [show s + 1 + (N.n.toNat - (s + 1)) = N.n.toNat by omega] at this
    exact this
  have nov : ∀ x ∈ (layW N os u N.n.toNat).2, adj0 N.ls x v = true → False := fun x hx ha => by
    obtain ⟨_, _, s, _, w, hw, e⟩ := lay_seen ok hu _ x hx
    exact goes_none (none_ s) w hw (by rw [e]; exact (near_mem ok).mpr ha)
  have u0 : u ∈ (layW N os u N.n.toNat).2 := by
    have := keep 0 N.n.toNat u List.mem_cons_self
    rw [Nat.zero_add] at this
    exact this
  have all : ∀ z, Rch (adj0 N.ls) (fun z => posOf z os < posOf u os) u z → (posOf z os < posOf u os → z ∈ (layW N os u N.n.toNat).2) ∧ (z = v → False) := fun z hz => by
    induction hz with
    | one a => exact ⟨fun hl => clo _ u0 _ a hl, fun e => nov _ u0 (by rw [← e]; exact a)⟩
    | step _ l a ih => exact ⟨fun hl => clo _ (ih.1 l) _ a hl, fun e => nov _ (ih.1 l) (by rw [← e]; exact a)⟩
  exact (all v hp.2).2 rfl
/-- the witness as it is found: in the first layer that has one -/
theorem wit_at {nb : Int → List Int} {low : Int → Bool} : ∀ (m t : Nat) {r : List Int}, t < m → goesTo nb v (lay nb low u t).1 = some r → (∀ s, s < t → goesTo nb v (lay nb low u s).1 = none) → witF nb low u v m = some r := by
  intro m t r htm h hb
  unfold witF
  have e : List.range m = List.range t ++ (t :: (List.range (m - t - 1)).map fun i => t + 1 + i) := by
    have h1 := List.range_add (n := t) (m := m - t)
    rw [show t + (m - t) = m by omega] at h1
    rw [h1]
    congr 1
    obtain ⟨k, hk⟩ : ∃ k, m - t = k + 1 := ⟨m - t - 1, by omega⟩
    rw [hk, List.range_succ_eq_map, List.map_cons, List.map_map, show k + 1 - 1 = k by omega]
    congr 1
    exact List.map_congr_left fun i _ => by
      show t + (i + 1) = t + 1 + i
      omega
  rw [e, List.findSome?_append]
  have n1 : (List.range t).findSome? (fun t => goesTo nb v (lay nb low u t).1) = none := List.findSome?_eq_none_iff.mpr fun s hs => hb s (List.mem_range.mp hs)
  rw [n1, Option.none_or, List.findSome?_cons, h]
end
/-! ### a way of a layer is a way; the witness is one -/
structure WayW (N : Net) (os : List Int) (u : Int) (S : List Int) (w : List Int) : Prop where
  hd : w[0]? = some u
  nd : w.Nodup
  sub : ∀ x ∈ w, x ∈ S
  adj : ∀ (i : Nat) (a b : Int), w[i]? = some a → w[i + 1]? = some b → adj0 N.ls a b = true
  low : ∀ x ∈ w, x = u ∨ posOf x os < posOf u os
section
variable {N : Net} {os : List Int} {u v : Int}
theorem last_at7 {w : List Int} (h : w ≠ []) : w[w.length - 1]? = some (lastI w) := by
  unfold lastI
  rw [← List.getLast?_eq_getElem?, List.getLastD_eq_getLast?]
  cases e : w.getLast? with
  | none => exact absurd (List.getLast?_eq_none_iff.mp e) h
  | some x => rfl
theorem adj_app {w : List Int} {y : Int} (h : ∀ (i : Nat) (a b : Int), w[i]? = some a → w[i + 1]? = some b → adj0 N.ls a b = true) (hw : w ≠ []) (hy : adj0 N.ls (lastI w) y = true) :
    ∀ (i : Nat) (a b : Int), (w ++ [y])[i]? = some a → (w ++ [y])[i + 1]? = some b → adj0 N.ls a b = true := by
  intro i a b ha hb
  have hl : i + 1 < (w ++ [y]).length := (List.getElem?_eq_some_iff.mp hb).1
  rw [List.length_append] at hl
  have hl : i + 1 < w.length + 1 := hl
  rw [List.getElem?_append_left (by omega)] at ha
  by_cases c : i + 1 < w.length
  · rw [List.getElem?_append_left c] at hb
    exact h i a b ha hb
  · have e : i + 1 = w.length := by omega
    rw [List.getElem?_append_right (by omega), show i + 1 - w.length = 0 by omega] at hb
    cases Option.some.inj hb
    have := last_at7 hw
    rw [show w.length - 1 = i by omega, ha] at this
    cases Option.some.inj this
    exact hy
theorem way_ok (ok : NetOk N) : ∀ t, ∀ w ∈ (layW N os u t).1, WayW N os u (layW N os u t).2 w ∧ w ≠ [] := by
  intro t
  induction t with
  | zero =>
    intro w hw
    rw [List.mem_singleton.mp hw]
    exact ⟨⟨rfl, List.nodup_cons.mpr ⟨List.not_mem_nil, List.nodup_nil⟩, fun x hx => hx, fun i a b _ hb => by simp at hb, fun x hx => .inl (List.mem_singleton.mp hx)⟩, by simp⟩
  | succ t ih =>
    intro w hw
    obtain ⟨_, hi⟩ := lay_ok (low := lowU os u) (nbN_lt ok) u t
    obtain ⟨z, hz, y, rfl, hy, hl⟩ := hi.from_ w hw
    obtain ⟨hW, hne⟩ := ih z hz
    have hl : posOf y os < posOf u os := of_decide_eq_true hl
    have hs := hi.seen
    have hnd := hi.nd
    rw [hs] at hnd
    have hyS : y ∉ (layW N os u t).2 := fun h => (List.nodup_append.mp hnd).2.2 y h y (List.mem_map.mpr ⟨_, hw, lastI_app z y⟩) rfl
    have hyz : y ∉ z := fun h => hyS (hW.sub y h)
    refine ⟨⟨?_, ?_, fun x hx => ?_, ?_, fun x hx => ?_⟩, by simp⟩
    · rw [List.getElem?_append_left (by cases z with | nil => exact absurd rfl hne | cons a r => exact Nat.succ_pos _)]
      exact hW.hd
    · refine List.nodup_append.mpr ⟨hW.nd, List.nodup_cons.mpr ⟨List.not_mem_nil, List.nodup_nil⟩, fun a ha b hb e => ?_⟩
      rw [List.mem_singleton.mp hb] at e
      exact hyz (e ▸ ha)
    · show x ∈ (lay (nbN N) (lowU os u) u (t + 1)).2
      rw [hs]
      rcases List.mem_append.mp hx with h | h
      · exact List.mem_append.mpr (.inl (hW.sub x h))
      · rw [List.mem_singleton.mp h]
        exact List.mem_append.mpr (.inr (List.mem_map.mpr ⟨_, hw, lastI_app z y⟩))
    · exact adj_app hW.adj hne ((near_mem ok).mp hy)
    · rcases List.mem_append.mp hx with h | h
      · exact hW.low x h
      · rw [List.mem_singleton.mp h]
        exact .inr hl
/-- the witness: its length, where it begins and ends, what is between -/
structure WitP (N : Net) (os : List Int) (u v : Int) (r : List Int) (m : Nat) : Prop where
  len : r.length = m + 1
  m1 : 1 ≤ m
  hd : r[0]? = some u
  end_ : r[m]? = some v
  nd : r.Nodup
  adj : ∀ (i : Nat) (a b : Int), r[i]? = some a → r[i + 1]? = some b → adj0 N.ls a b = true
  mem : ∀ x ∈ r, x = u ∨ x = v ∨ posOf x os < posOf u os
theorem wit_path (ok : NetOk N) (hp : PairP N.ls os u v) {t : Nat} {r : List Int} (h : goesTo (nbN N) v (layW N os u t).1 = some r) : WitP N os u v r (t + 1) := by
  obtain ⟨w, hw, hv, rfl⟩ := goes_some h
  obtain ⟨hW, hne⟩ := way_ok ok t w hw
  have hl := (lay_ok (low := lowU os u) (nbN_lt ok) u t).1.len w hw
  have hvw : v ∉ w := fun h => by
    have := hp.1
    rcases hW.low v h with e | e
    · rw [e] at this
      omega
    · omega
  refine ⟨by rw [List.length_append, hl]; rfl, by omega, ?_, ?_, ?_, adj_app hW.adj hne ((near_mem ok).mp hv), fun x hx => ?_⟩
  · rw [List.getElem?_append_left (by omega)]
    exact hW.hd
  · rw [List.getElem?_append_right (by omega), show t + 1 - w.length = 0 by omega]
    rfl
  · refine List.nodup_append.mpr ⟨hW.nd, List.nodup_cons.mpr ⟨List.not_mem_nil, List.nodup_nil⟩, fun a ha b hb e => ?_⟩
    rw [List.mem_singleton.mp hb] at e
    exact hvw (e ▸ ha)
  · rcases List.mem_append.mp hx with h | h
    · rcases hW.low x h with e | e
      · exact .inl e
      · exact .inr (.inr e)
    · exact .inr (.inl (List.mem_singleton.mp h))
theorem wit_path' (ok : NetOk N) (hp : PairP N.ls os u v) {k : Nat} {r : List Int} (h : witF (nbN N) (lowU os u) u v k = some r) : ∃ m, WitP N os u v r m := by
  unfold witF at h
  obtain ⟨t, _, ht⟩ := List.exists_of_findSome?_eq_some h
  exact ⟨_, wit_path ok hp ht⟩
/-- the law's layers: the places in them -/
structure LayS (N : Net) (os : List Int) (u v : Int) (t : Nat) (near seen : List Int) : Prop where
  near : ∀ x, x ∈ near ↔ ∃ w ∈ (layW N os u t).1, lastI w = x
  seen : ∀ x, x ∈ seen ↔ x ∈ (layW N os u t).2
  no : ∀ s, s < t → goesTo (nbN N) v (layW N os u s).1 = none
theorem LayS.zero : LayS N os u v 0 [u] [u] := ⟨fun x => ⟨fun h => ⟨[u], List.mem_cons_self, (List.mem_singleton.mp h).symm⟩, fun ⟨w, hw, e⟩ => by
    rw [List.mem_singleton.mp hw] at e
    exact List.mem_singleton.mpr e.symm⟩, fun x => Iff.rfl, fun s h => absurd h (Nat.not_lt_zero s)⟩
theorem LayS.hit (ok : NetOk N) {t : Nat} {near seen : List Int} {x : Int} {k : Nat} (h : LayS N os u v t near seen) (hx : x ∈ near) (ha : adj0 N.ls x v = true) (hk : t < k) : ∃ r, witF (nbN N) (lowU os u) u v k = some r ∧ goesTo (nbN N) v (layW N os u t).1 = some r := by
  obtain ⟨w, hw, rfl⟩ := (h.near x).mp hx
  cases e : goesTo (nbN N) v (layW N os u t).1 with
  | none => exact absurd ((near_mem ok).mpr ha) (goes_none e w hw)
  | some r => exact ⟨r, wit_at k t hk e h.no, rfl⟩
theorem LayS.next (ok : NetOk N) {t : Nat} {near seen further seen' : List Int} (h : LayS N os u v t near seen) (hno : ∀ x ∈ near, adj0 N.ls x v = false) (hs : ∀ y, y ∈ seen' ↔ y ∈ seen ∨ y ∈ further)
    (hf : ∀ y, y ∈ further ↔ y ∉ seen ∧ posOf y os < posOf u os ∧ ∃ x ∈ near, adj0 N.ls x y = true) : LayS N os u v (t + 1) further seen' := by
  obtain ⟨h1, hi⟩ := lay_ok (low := lowU os u) (nbN_lt ok) u t
  have hseen : (layW N os u (t + 1)).2 = (layW N os u t).2 ++ (layW N os u (t + 1)).1.map lastI := hi.seen
  have hnd := hi.nd
  rw [hi.seen] at hnd
  have hF : ∀ x, x ∈ further ↔ ∃ w ∈ (layW N os u (t + 1)).1, lastI w = x := by
    intro y
    rw [hf]
    constructor
    · rintro ⟨h2, h3, x, hx, ha⟩
      obtain ⟨z, hz, rfl⟩ := (h.near x).mp hx
      have hy : y ∈ (layW N os u (t + 1)).2 := hi.clo z hz y ((near_mem ok).mpr ha) (decide_eq_true h3)
      rw [hseen] at hy
      rcases List.mem_append.mp hy with hy | hy
      · exact absurd ((h.seen y).mpr hy) h2
      · obtain ⟨w, hw, e⟩ := List.mem_map.mp hy
        exact ⟨w, hw, e⟩
    · rintro ⟨w, hw, rfl⟩
      obtain ⟨z, hz, y, rfl, hy, hl⟩ := hi.from_ w hw
      rw [lastI_app]
      refine ⟨fun hy' => ?_, of_decide_eq_true hl, lastI z, (h.near _).mpr ⟨z, hz, rfl⟩, (near_mem ok).mp hy⟩
      exact (List.nodup_append.mp hnd).2.2 y ((h.seen y).mp hy') y (List.mem_map.mpr ⟨_, hw, lastI_app z y⟩) rfl
  refine ⟨hF, fun x => ?_, fun s hs' => ?_⟩
  · rw [hs, hseen, List.mem_append, List.mem_map, h.seen, hF]
  · by_cases c : s < t
    · exact h.no s c
    · have : s = t := by omega
      subst this
      cases e : goesTo (nbN N) v (layW N os u s).1 with
      | none => rfl
      | some r =>
        obtain ⟨w, hw, hv, _⟩ := goes_some e
        have := hno (lastI w) ((h.near _).mpr ⟨w, hw, rfl⟩)
        rw [(near_mem ok).mp hv] at this
        cases this
theorem LayS.some_ (ok : NetOk N) (hp : PairP N.ls os u v) {near seen : List Int} (h : LayS N os u v N.n.toNat near seen) : False := by
  obtain ⟨t, ht, e⟩ := pair_goes ok hp
  rw [h.no t ht] at e
  cases e
end
/-! ### sums over open ways, bettered in turns -/
abbrev St7 := (Int → Option Int) × Option Int
def better (o : Option Int) (t : Int) : Bool := match o with
  | none => true
  | some e => decide (t < e)
def setF (f : Int → Option Int) (x : Int) (d : Int) : Int → Option Int := fun p => if p = x then some d else f p
def rel1 (rk : Int → Nat) (bound : Nat) (x y : Int) (st : St7) (w : Int × Int × Int) : St7 :=
  match st.1 w.1 with
  | none => st
  | some d => if w.1 = x ∨ rk w.1 < bound then
      (if rk w.2.1 < bound ∧ better (st.1 w.2.1) (d + w.2.2) = true then setF st.1 w.2.1 (d + w.2.2) else st.1,
       if w.2.1 = y ∧ better st.2 (d + w.2.2) = true then some (d + w.2.2) else st.2)
    else st
def turnF (rk : Int → Nat) (bound : Nat) (x y : Int) (ws : List (Int × Int × Int)) (st : St7) : St7 := ws.foldl (rel1 rk bound x y) st
def stK (rk : Int → Nat) (bound : Nat) (x y : Int) (ws : List (Int × Int × Int)) : Nat → St7
  | 0 => (setF (fun _ => none) x 0, none)
  | k + 1 => turnF rk bound x y ws (stK rk bound x y ws k)
/-- what the law's filling of a way tells -/
def FillR (rk : Int → Nat) (bound : Nat) (x y : Int) (ws : List (Int × Int × Int)) (n : Nat) (o : Option Int) : Prop :=
  (∃ k, k < n ∧ (stK rk bound x y ws (k + 1)).1 = (stK rk bound x y ws k).1 ∧ o = (stK rk bound x y ws (k + 1)).2) ∨ o = (stK rk bound x y ws n).2
theorem foldl_ind {α β : Type} {f : β → α → β} {C : β → Prop} : ∀ (ws : List α) (st : β), C st → (∀ st, ∀ w ∈ ws, C st → C (f st w)) → C (ws.foldl f st)
  | [], _, h, _ => h
  | w :: ws, st, h, hs => foldl_ind ws _ (hs st w List.mem_cons_self h) fun st w hw => hs st w (List.mem_cons_of_mem _ hw)
theorem stK_ind {rk : Int → Nat} {bound : Nat} {x y : Int} {ws : List (Int × Int × Int)} {C : St7 → Prop} (h0 : C (setF (fun _ => none) x 0, none)) (hs : ∀ st, ∀ w ∈ ws, C st → C (rel1 rk bound x y st w)) : ∀ k, C (stK rk bound x y ws k)
  | 0 => h0
  | k + 1 => foldl_ind ws _ (stK_ind h0 hs k) hs
/-- a number is told only between two places of the way -/
theorem fill_mem {rk : Int → Nat} {bound : Nat} {x y : Int} {ws : List (Int × Int × Int)} {n : Nat} {o : Option Int} {r : List Int} (hw : ∀ w ∈ ws, w.1 ∈ r ∧ w.2.1 ∈ r) (h : FillR rk bound x y ws n o) {d : Int} (ho : o = some d) : x ∈ r ∧ y ∈ r := by
  have key : ∀ k, (∀ p e, (stK rk bound x y ws k).1 p = some e → p = x ∨ x ∈ r) ∧ ∀ b, (stK rk bound x y ws k).2 = some b → x ∈ r ∧ y ∈ r := by
    refine stK_ind (C := fun st => (∀ p e, st.1 p = some e → p = x ∨ x ∈ r) ∧ ∀ b, st.2 = some b → x ∈ r ∧ y ∈ r) ⟨fun p e h => ?_, fun b h => (nomatch h)⟩ (fun st w hm ⟨h1, h2⟩ => ?_)
    · by_cases c : p = x
      · exact .inl c
      · have h : (if p = x then some (0 : Int) else none) = some e := h
        rw [if_neg c] at h
        cases h
    · obtain ⟨w1, w2⟩ := hw w hm
      unfold rel1
      cases e : st.1 w.1 with
      | none => exact ⟨h1, h2⟩
      | some d' =>
        have hx : x ∈ r := (h1 _ _ e).elim (fun e => e ▸ w1) id
        dsimp only
        split
        · refine ⟨fun p e' h => .inr hx, fun b hb => ?_⟩
          dsimp only at hb
          split at hb
          · rename_i c
            exact ⟨hx, c.1 ▸ w2⟩
          · exact h2 b hb
        · exact ⟨h1, h2⟩
  rcases h with ⟨k, _, _, e⟩ | e
  · exact (key (k + 1)).2 d (by rw [← e, ho])
  · exact (key n).2 d (by rw [← e, ho])
/-- the numbers of the first c places of a way -/
def fC (q : List Int) (c : Nat) : Int → Option Int := fun p => if p ∈ q.take c then some (q.idxOf p : Nat) else none
structure PathQ (rk : Int → Nat) (bound : Nat) (x y : Int) (ws : List (Int × Int × Int)) (q : List Int) (m : Nat) : Prop where
  len : q.length = m + 1
  m1 : 1 ≤ m
  hd : q[0]? = some x
  end_ : q[m]? = some y
  nd : q.Nodup
  low : ∀ (i : Nat) (p : Int), 0 < i → i < m → q[i]? = some p → rk p < bound
  hx : ¬ rk x < bound
  hy : ¬ rk y < bound
  one : ∀ w ∈ ws, w.2.2 = 1
  step : ∀ w ∈ ws, ∃ i : Nat, (q[i]? = some w.1 ∧ q[i + 1]? = some w.2.1) ∨ (q[i]? = some w.2.1 ∧ q[i + 1]? = some w.1)
  all : ∀ (i : Nat) (a b : Int), q[i]? = some a → q[i + 1]? = some b → (a, b, 1) ∈ ws
section
variable {rk : Int → Nat} {bound : Nat} {x y : Int} {ws : List (Int × Int × Int)} {q : List Int} {m : Nat}
theorem idx_at (nd : q.Nodup) {i : Nat} {p : Int} (h : q[i]? = some p) : q.idxOf p = i := by
  obtain ⟨hl, e⟩ := List.getElem?_eq_some_iff.mp h
  rw [← e]
  exact nd.idxOf_getElem i hl
theorem get_inj (nd : q.Nodup) {i j : Nat} {p : Int} (h : q[i]? = some p) (h' : q[j]? = some p) : i = j := by
  rw [← idx_at nd h, ← idx_at nd h']
theorem mem_take_at (nd : q.Nodup) {i c : Nat} {p : Int} (h : q[i]? = some p) : p ∈ q.take c ↔ i < c := by
  constructor
  · intro hm
    obtain ⟨j, hj⟩ := List.mem_iff_getElem?.mp hm
    have hjl := (List.getElem?_eq_some_iff.mp hj).1
    rw [List.length_take] at hjl
    rw [List.getElem?_take_of_lt (by omega)] at hj
    have := get_inj nd h hj
    omega
  · intro hi
    exact List.mem_of_getElem? (i := i) (by rw [List.getElem?_take_of_lt hi]; exact h)
theorem fC_at (nd : q.Nodup) {i c : Nat} {p : Int} (h : q[i]? = some p) : fC q c p = if i < c then some (i : Int) else none := by
  unfold fC
  by_cases hc : i < c
  · rw [if_pos ((mem_take_at nd h).mpr hc), if_pos hc, idx_at nd h]
  · rw [if_neg (fun z => hc ((mem_take_at nd h).mp z)), if_neg hc]
theorem fC_some {c : Nat} {p d : Int} (nd : q.Nodup) (h : fC q c p = some d) : ∃ i : Nat, i < c ∧ q[i]? = some p ∧ d = i := by
  unfold fC at h
  split at h
  · rename_i hm
    obtain ⟨j, hj⟩ := List.mem_iff_getElem?.mp hm
    have hjl := (List.getElem?_eq_some_iff.mp hj).1
    rw [List.length_take] at hjl
    rw [List.getElem?_take_of_lt (by omega)] at hj
    exact ⟨j, by omega, hj, by rw [← Option.some.inj h, idx_at nd hj]⟩
  · cases h
theorem fC_succ {c : Nat} {p : Int} (nd : q.Nodup) (h : q[c]? = some p) : setF (fC q c) p (c : Int) = fC q (c + 1) := by
  funext z
  unfold setF
  by_cases e : z = p
  · rw [if_pos e, e, fC_at nd h, if_pos (Nat.lt_succ_self c)]
  · rw [if_neg e]
    unfold fC
    rw [take_snoc h]
    by_cases c1 : z ∈ q.take c
    · rw [if_pos c1, if_pos (List.mem_append.mpr (.inl c1))]
    · rw [if_neg c1, if_neg (fun hm => (List.mem_append.mp hm).elim c1 fun hm => e (List.mem_singleton.mp hm))]
/-- where the sums stand -/
structure RC (q : List Int) (m : Nat) (st : St7) (c : Nat) : Prop where
  c1 : 1 ≤ c
  cm : c ≤ m
  f : st.1 = fC q c
  b : st.2 = none ∨ st.2 = some (m : Int)
theorem rc_step (Q : PathQ rk bound x y ws q m) {st : St7} {c : Nat} (h : RC q m st c) {w : Int × Int × Int} (hw : w ∈ ws) :
    ∃ c', RC q m (rel1 rk bound x y st w) c' ∧ c ≤ c' ∧ (st.2 = some (m : Int) → (rel1 rk bound x y st w).2 = some (m : Int)) ∧
      ∀ i, i < c → q[i]? = some w.1 → q[i + 1]? = some w.2.1 → (i + 1 < m → i + 2 ≤ c') ∧ (i + 1 = m → (rel1 rk bound x y st w).2 = some (m : Int)) := by
  obtain ⟨s, t, pr⟩ := w
  have one : pr = 1 := Q.one _ hw
  subst one
  have hcm := h.cm
  cases e : st.1 s with
  | none =>
    have er : rel1 rk bound x y st (s, t, 1) = st := by
      unfold rel1
      dsimp only
      rw [e]
    rw [er]
    refine ⟨c, h, Nat.le_refl _, fun z => z, fun i hi hs _ => ?_⟩
    rw [h.f, fC_at Q.nd hs, if_pos hi] at e
    cases e
  | some d =>
    have e' := e
    rw [h.f] at e'
    obtain ⟨i, hi, hs, rfl⟩ := fC_some Q.nd e'
    have hok : s = x ∨ rk s < bound := by
      by_cases i0 : i = 0
      · subst i0
        exact .inl (Option.some.inj (hs.symm.trans Q.hd))
      · exact .inr (Q.low i s (by omega) (by omega) hs)
    have er : rel1 rk bound x y st (s, t, 1) = (if rk t < bound ∧ better (st.1 t) ((i : Int) + 1) = true then setF st.1 t ((i : Int) + 1) else st.1, if t = y ∧ better st.2 ((i : Int) + 1) = true then some ((i : Int) + 1) else st.2) := by
      unfold rel1
      dsimp only
      rw [e]
      dsimp only
      rw [if_pos hok]
    rw [er]
    have uniq : ∀ j, q[j]? = some s → j = i := fun j hj => get_inj Q.nd hj hs
    rcases Q.step _ hw with ⟨j, ⟨h1, h2⟩ | ⟨h1, h2⟩⟩
    · -- forward
      cases uniq j h1
      have h2 : q[i + 1]? = some t := h2
      by_cases c2 : i + 1 = m
      · have ty : t = y := Option.some.inj (h2.symm.trans (c2 ▸ Q.end_))
        subst ty
        have n1 : ¬ (rk t < bound ∧ better (st.1 t) ((i : Int) + 1) = true) := fun z => Q.hy z.1
        have em : (i : Int) + 1 = (m : Int) := by omega
        rw [if_neg n1, em]
        have eb : (if t = t ∧ better st.2 (m : Int) = true then some (m : Int) else st.2) = some (m : Int) := by
          rcases h.b with b | b
          · rw [b, if_pos ⟨rfl, rfl⟩]
          · rw [b]
            split <;> rfl
        rw [eb]
        exact ⟨c, ⟨h.c1, hcm, h.f, .inr rfl⟩, Nat.le_refl _, fun _ => rfl, fun j hj hj1 hj2 => by
          cases uniq j hj1
          exact ⟨fun z => by omega, fun _ => rfl⟩⟩
      · have ty : t ≠ y := fun z => c2 (get_inj Q.nd (z ▸ h2) Q.end_)
        rw [if_neg (show ¬ (t = y ∧ better st.2 ((i : Int) + 1) = true) from fun z => ty z.1)]
        have hlt := (List.getElem?_eq_some_iff.mp h2).1
        rw [Q.len] at hlt
        have lowt : rk t < bound := Q.low (i + 1) t (by omega) (by omega) h2
        by_cases c3 : i + 1 < c
        · have nb : ¬ (rk t < bound ∧ better (st.1 t) ((i : Int) + 1) = true) := fun z => by
            have := z.2
            rw [h.f, fC_at Q.nd h2, if_pos c3] at this
            have : ((i : Int) + 1 : Int) < ((i + 1 : Nat) : Int) := of_decide_eq_true this
            omega
          rw [if_neg nb]
          exact ⟨c, ⟨h.c1, hcm, h.f, h.b⟩, Nat.le_refl _, fun z => z, fun j hj hj1 hj2 => by
            cases uniq j hj1
            exact ⟨fun z => by omega, fun z => absurd z c2⟩⟩
        · have ec : c = i + 1 := by omega
          have yb : rk t < bound ∧ better (st.1 t) ((i : Int) + 1) = true := ⟨lowt, by
            rw [h.f, fC_at Q.nd h2, if_neg c3]
            rfl⟩
          rw [if_pos yb]
          refine ⟨c + 1, ⟨by omega, by omega, ?_, h.b⟩, Nat.le_succ _, fun z => z, fun j hj hj1 hj2 => by
            cases uniq j hj1
            exact ⟨fun z => by omega, fun z => absurd z c2⟩⟩
          show setF st.1 t ((i : Int) + 1) = fC q (c + 1)
          rw [h.f, show (i : Int) + 1 = ((c : Nat) : Int) by omega]
          exact fC_succ Q.nd (ec ▸ h2)
    · -- back
      have ej := uniq (j + 1) h2
      have ty : t ≠ y := fun z => by
        have := get_inj Q.nd (z ▸ h1) Q.end_
        omega
      have h1 : q[j]? = some t := h1
      have nb : ¬ (rk t < bound ∧ better (st.1 t) ((i : Int) + 1) = true) := fun z => by
        have := z.2
        rw [h.f, fC_at Q.nd h1, if_pos (by omega)] at this
        have : ((i : Int) + 1 : Int) < (j : Int) := of_decide_eq_true this
        omega
      rw [if_neg (show ¬ (t = y ∧ better st.2 ((i : Int) + 1) = true) from fun z => ty z.1), if_neg nb]
      exact ⟨c, ⟨h.c1, hcm, h.f, h.b⟩, Nat.le_refl _, fun z => z, fun k hk hk1 hk2 => by
        have := uniq k hk1
        have := get_inj Q.nd hk2 h1
        omega⟩
theorem rc_fold (Q : PathQ rk bound x y ws q m) {i : Nat} {s t : Int} (hs : q[i]? = some s) (ht : q[i + 1]? = some t) : ∀ (vs : List (Int × Int × Int)), (∀ w ∈ vs, w ∈ ws) → ∀ (st : St7) (c : Nat), RC q m st c → i < c →
    ∃ c', RC q m (vs.foldl (rel1 rk bound x y) st) c' ∧ c ≤ c' ∧ (st.2 = some (m : Int) → (vs.foldl (rel1 rk bound x y) st).2 = some (m : Int)) ∧
      ((s, t, 1) ∈ vs → (i + 1 < m → i + 2 ≤ c') ∧ (i + 1 = m → (vs.foldl (rel1 rk bound x y) st).2 = some (m : Int)))
  | [], _, st, c, h, _ => ⟨c, h, Nat.le_refl _, fun z => z, fun z => (nomatch z)⟩
  | w :: vs, hv, st, c, h, hi => by
    obtain ⟨c1, h1, h2, h3, h4⟩ := rc_step Q h (hv w List.mem_cons_self)
    obtain ⟨c2, g1, g2, g3, g4⟩ := rc_fold Q hs ht vs (fun z hz => hv z (List.mem_cons_of_mem _ hz)) _ c1 h1 (by omega)
    refine ⟨c2, g1, by omega, fun z => g3 (h3 z), fun hm => ?_⟩
    rcases List.mem_cons.mp hm with e | hm
    · subst e
      obtain ⟨k1, k2⟩ := h4 i hi hs ht
      exact ⟨fun z => Nat.le_trans (k1 z) g2, fun z => g3 (k2 z)⟩
    · exact g4 hm
theorem rc_turn (Q : PathQ rk bound x y ws q m) {st : St7} {c : Nat} (h : RC q m st c) :
    ∃ c', RC q m (turnF rk bound x y ws st) c' ∧ c ≤ c' ∧ (c < m → c + 1 ≤ c') ∧ (c = m → (turnF rk bound x y ws st).2 = some (m : Int)) := by
  have hc := h.c1
  have hcm := h.cm
  have hl := Q.len
  have hs : q[c - 1]? = some (q[c - 1]'(by omega)) := List.getElem?_eq_getElem (by omega)
  have ht : q[c - 1 + 1]? = some (q[c - 1 + 1]'(by omega)) := List.getElem?_eq_getElem (by omega)
  obtain ⟨c', h1, h2, _, h4⟩ := rc_fold Q hs ht ws (fun w hw => hw) st c h (by omega)
  obtain ⟨k1, k2⟩ := h4 (Q.all _ _ _ hs ht)
  exact ⟨c', h1, h2, fun z => by
    have := k1 (by omega)
    omega, fun z => k2 (by omega)⟩
theorem rc_k (Q : PathQ rk bound x y ws q m) : ∀ k, ∃ c, RC q m (stK rk bound x y ws k) c ∧ min (k + 1) m ≤ c ∧ (m ≤ k → (stK rk bound x y ws k).2 = some (m : Int))
  | 0 => ⟨1, ⟨Nat.le_refl _, Q.m1, by
      show setF (fun _ => none) x 0 = fC q 1
      have h0 : setF (fC q 0) x ((0 : Nat) : Int) = fC q 1 := fC_succ Q.nd Q.hd
      rw [← h0]
      rfl, .inl rfl⟩, Nat.min_le_left _ _, fun h => by
      have := Q.m1
      omega⟩
  | k + 1 => by
    obtain ⟨c, h, hm, hb⟩ := rc_k Q k
    obtain ⟨c', h1, h2, h3, h4⟩ := rc_turn Q h
    have := h.cm
    refine ⟨c', h1, ?_, fun z => ?_⟩
    · by_cases e : c < m
      · have := h3 e
        omega
      · omega
    · exact h4 (by omega)
/-- from end to end the number is that of the steps -/
theorem fill_path (Q : PathQ rk bound x y ws q m) {n : Nat} (hn : m ≤ n) {o : Option Int} (h : FillR rk bound x y ws n o) : o = some (m : Int) := by
  rcases h with ⟨k, _, e, rfl⟩ | rfl
  · obtain ⟨c, h, _, _⟩ := rc_k Q k
    obtain ⟨c', h1, h2, h3, h4⟩ := rc_turn Q h
    have e : (turnF rk bound x y ws (stK rk bound x y ws k)).1 = (stK rk bound x y ws k).1 := e
    by_cases z : c < m
    · have h3 := h3 z
      have hg : q[c]? = some (q[c]'(by rw [Q.len]; omega)) := List.getElem?_eq_getElem (by rw [Q.len]; omega)
      rw [h1.f, h.f] at e
      have := congrFun e (q[c]'(by rw [Q.len]; omega))
      rw [fC_at Q.nd hg, fC_at Q.nd hg, if_pos (by omega), if_neg (by omega)] at this
      cases this
    · exact h4 (by have := h.cm; omega)
  · exact (rc_k Q n).choose_spec.2.2 hn
end
/-! ### the sums up and down, the answer -/
def sum1 (place : Int) (f : Int → Option Int) (w : Int × Int × Option Int) : Int → Option Int :=
  if w.1 = place then match w.2.2, f place with
    | some p, some d => if better (f w.2.1) (d + p) = true then setF f w.2.1 (d + p) else f
    | _, _ => f
  else f
def sumP (ws : List (Int × Int × Option Int)) (f : Int → Option Int) (place : Int) : Int → Option Int := if (f place).isSome = true then ws.foldl (sum1 place) f else f
def sumsF (ws : List (Int × Int × Option Int)) (start : Int) (order : List Int) : Int → Option Int := order.foldl (sumP ws) (setF (fun _ => none) start 0)
def addO : Option Int → Option Int → Option Int
  | some i, some j => some (i + j)
  | _, _ => none
def totF (a b : Int → Option Int) (order : List Int) : List Int := order.filterMap fun p => addO (a p) (b p)
def trip (F : List (Int × Int)) (g : Int → Int → Option Int) : List (Int × Int × Option Int) := F.map fun p => (p.1, p.2, g p.1 p.2)
section
variable {u v : Int} {F : List (Int × Int)} {g : Int → Int → Option Int} {os : List Int} {m : Int}
abbrev f1 (v : Int) : Int → Option Int := setF (fun _ => none) v 0
abbrev f2 (u v m : Int) : Int → Option Int := setF (f1 u) v m
theorem f1_at {v p : Int} : f1 v p = if p = v then some 0 else none := rfl
/-- nothing is reached from a place whose ways up are shut -/
theorem sums_shut (h : ∀ q, (v, q) ∈ F → g v q = none) : sumsF (trip F g) v os = f1 v := by
  unfold sumsF
  refine foldl_ind (C := fun f => f = f1 v) os _ rfl fun f place _ e => ?_
  subst e
  unfold sumP
  split
  · rename_i hs
    refine foldl_ind (C := fun f => f = f1 v) _ _ rfl fun f w hw e => ?_
    subst e
    obtain ⟨⟨a, b⟩, hab, rfl⟩ := List.mem_map.mp hw
    unfold sum1
    dsimp only
    split
    · rename_i ea
      rw [f1_at] at hs
      have pv : place = v := by
        by_cases c : place = v
        · exact c
        · rw [if_neg c] at hs
          cases hs
      have ev : a = v := ea.trans pv
      rw [ev] at hab ⊢
      rw [h b hab]
    · rfl
  · rfl
open Classical in
theorem sum_u (huv : u ≠ v) (h : ∀ q, (u, q) ∈ F → q ≠ v → g u q = none) (hg : g u v = some m) (hm : 0 ≤ m) : ∀ (G : List (Int × Int)), (∀ p ∈ G, p ∈ F) → ∀ f, f = f1 u ∨ f = f2 u v m → (trip G g).foldl (sum1 u) f = if (u, v) ∈ G ∨ f = f2 u v m then f2 u v m else f1 u
  | [], _, f, hf => by
    show f = _
    rcases hf with e | e
    · by_cases c : f = f2 u v m
      · rw [if_pos (Or.inr c)]
        exact c
      · rw [if_neg (show ¬ ((u, v) ∈ ([] : List (Int × Int)) ∨ f = f2 u v m) from fun z => z.elim (fun z => (nomatch z)) c)]
        exact e
    · rw [if_pos (Or.inr e)]
      exact e
  | (a, b) :: G, hG, f, hf => by
    have hab := hG _ List.mem_cons_self
    show (trip G g).foldl (sum1 u) (sum1 u f (a, b, g a b)) = _
    have fu : f u = some 0 := by
      rcases hf with e | e
      · rw [e]
        exact if_pos rfl
      · rw [e]
        show (if u = v then some m else f1 u u) = _
        rw [if_neg huv]
        exact if_pos rfl
    have e1 : sum1 u f (a, b, g a b) = if a = u ∧ b = v then f2 u v m else f := by
      unfold sum1
      dsimp only
      by_cases ea : a = u
      · rw [if_pos ea]
        subst ea
        by_cases eb : b = v
        · subst eb
          rw [if_pos ⟨rfl, rfl⟩, hg, fu]
          dsimp only
          rw [Int.zero_add]
          rcases hf with e | e
          · subst e
            have n1 : f1 a b = none := by
              rw [f1_at, if_neg (fun z => huv z.symm)]
            rw [n1, if_pos (show better none m = true from rfl)]
          · subst e
            have n1 : f2 a b m b = some m := if_pos rfl
            rw [n1, if_neg (show ¬ better (some m) m = true from fun z => by
              have : m < m := of_decide_eq_true z
              omega)]
        · rw [if_neg (fun z => eb z.2), h b hab eb]
      · rw [if_neg ea, if_neg (fun z => ea z.1)]
    rw [e1, sum_u huv h hg hm G (fun p hp => hG p (List.mem_cons_of_mem _ hp)) _ (by
      split
      · exact .inr rfl
      · exact hf)]
    by_cases c : a = u ∧ b = v
    · rw [if_pos c, if_pos (Or.inr rfl), if_pos (Or.inl (by rw [c.1, c.2]; exact List.mem_cons_self))]
    · rw [if_neg c]
      by_cases c2 : (u, v) ∈ G ∨ f = f2 u v m
      · rw [if_pos c2, if_pos (c2.imp (List.mem_cons_of_mem _) id)]
      · rw [if_neg c2, if_neg (fun z => c2 (z.imp (fun z => by
          rcases List.mem_cons.mp z with z | z
          · cases z
            exact absurd ⟨rfl, rfl⟩ c
          · exact z) id))]
open Classical in
theorem sums_to (huv : u ≠ v) (hu : u ∈ os) (h : ∀ q, (u, q) ∈ F → q ≠ v → g u q = none) (hv : ∀ q, (v, q) ∈ F → g v q = none) (hg : g u v = some m) (hm : 0 ≤ m) (hF : (u, v) ∈ F) : sumsF (trip F g) u os = f2 u v m := by
  have key : ∀ (ps : List Int) f, f = f1 u ∨ f = f2 u v m → ps.foldl (sumP (trip F g)) f = if u ∈ ps ∨ f = f2 u v m then f2 u v m else f1 u := by
    intro ps
    induction ps with
    | nil =>
      intro f hf
      show f = _
      rcases hf with e | e
      · by_cases c : f = f2 u v m
        · rw [if_pos (Or.inr c)]
          exact c
        · rw [if_neg (show ¬ (u ∈ ([] : List Int) ∨ f = f2 u v m) from fun z => z.elim (fun z => (nomatch z)) c)]
          exact e
      · rw [if_pos (Or.inr e)]
        exact e
    | cons p ps ih =>
      intro f hf
      show ps.foldl (sumP (trip F g)) (sumP (trip F g) f p) = _
      have e1 : sumP (trip F g) f p = if p = u then f2 u v m else f := by
        by_cases ep : p = u
        · subst ep
          have fu : f p = some 0 := by
            rcases hf with e | e
            · rw [e]
              exact if_pos rfl
            · rw [e]
              show (if p = v then some m else f1 p p) = _
              rw [if_neg huv]
              exact if_pos rfl
          unfold sumP
          rw [fu, if_pos (show (some (0 : Int)).isSome = true from rfl), if_pos rfl, sum_u huv h hg hm F (fun _ z => z) f hf, if_pos (Or.inl hF)]
        · rw [if_neg ep]
          unfold sumP
          split
          · rename_i hs
            by_cases epv : p = v
            · subst epv
              refine foldl_ind (C := fun f' => f' = f) _ _ rfl fun f' w hw e => ?_
              subst e
              obtain ⟨⟨a, b⟩, hab, rfl⟩ := List.mem_map.mp hw
              unfold sum1
              dsimp only
              split
              · rename_i ea
                rw [ea] at hab ⊢
                rw [hv b hab]
              · rfl
            · exfalso
              rcases hf with e | e
              · rw [e, f1_at, if_neg ep] at hs
                cases hs
              · rw [e] at hs
                have : f2 u v m p = none := by
                  show (if p = v then some m else f1 u p) = none
                  rw [if_neg epv, f1_at, if_neg ep]
                rw [this] at hs
                cases hs
          · rfl
      have hn : (if p = u then f2 u v m else f) = f1 u ∨ (if p = u then f2 u v m else f) = f2 u v m := by
        split
        · exact .inr rfl
        · exact hf
      rw [e1, ih _ hn]
      by_cases c : p = u
      · rw [if_pos c, if_pos (Or.inr rfl), if_pos (Or.inl (by rw [c]; exact List.mem_cons_self))]
      · rw [if_neg c]
        by_cases c2 : u ∈ ps ∨ f = f2 u v m
        · rw [if_pos c2, if_pos (c2.imp (List.mem_cons_of_mem _) id)]
        · rw [if_neg c2, if_neg (fun z => c2 (z.imp (fun z => by
            rcases List.mem_cons.mp z with z | z
            · exact absurd z.symm c
            · exact z) id))]
  unfold sumsF
  rw [key os _ (.inl rfl), if_pos (Or.inl hu)]
theorem tot_none (huv : u ≠ v) : totF (f1 u) (f1 v) os = [] := by
  unfold totF
  rw [List.filterMap_eq_nil_iff]
  intro p _
  rw [f1_at, f1_at]
  by_cases c : p = u
  · rw [if_pos c, if_neg (fun z => huv (c.symm.trans z))]
    rfl
  · rw [if_neg c]
    rfl
theorem tot_one {a b : Int → Option Int} {s : Int} (hv : v ∈ os) (nd : os.Nodup) (h1 : ∀ p, p ≠ v → addO (a p) (b p) = none) (h2 : addO (a v) (b v) = some s) : totF a b os = [s] := by
  obtain ⟨l, r, rfl⟩ := List.append_of_mem hv
  obtain ⟨n1, n2, n3⟩ := List.nodup_append.mp nd
  have e : ∀ zs : List Int, (∀ z ∈ zs, z ≠ v) → totF a b zs = [] := fun zs hz => by
    unfold totF
    rw [List.filterMap_eq_nil_iff]
    exact fun p hp => h1 p (hz p hp)
  have el := e l fun z hz ez => n3 z hz v List.mem_cons_self ez
  have er := e r fun z hz ez => (List.nodup_cons.mp n2).1 (ez ▸ hz)
  unfold totF at el er ⊢
  rw [List.filterMap_append, el, List.nil_append, List.filterMap_cons, h2, er]
theorem tot_up (huv : u ≠ v) (hv : v ∈ os) (nd : os.Nodup) : totF (f2 u v m) (f1 v) os = [m] := by
  refine tot_one hv nd (fun p hp => ?_) ?_
  · rw [f1_at, if_neg hp]
    cases f2 u v m p <;> rfl
  · have e1 : f2 u v m v = some m := if_pos rfl
    have e2 : f1 v v = some 0 := if_pos rfl
    rw [e1, e2]
    show some (m + 0) = _
    rw [Int.add_zero]
theorem tot_down (huv : u ≠ v) (hv : v ∈ os) (nd : os.Nodup) : totF (f1 v) (f2 u v m) os = [m] := by
  refine tot_one hv nd (fun p hp => ?_) ?_
  · rw [f1_at, if_neg hp]
    rfl
  · have e1 : f2 u v m v = some m := if_pos rfl
    have e2 : f1 v v = some 0 := if_pos rfl
    rw [e1, e2]
    show some (0 + m) = _
    rw [Int.zero_add]
end
/-! ### witness of the program -/
/-! ### the dict of ways -/
structure WaysAt (G H : Hp) (d ro : Addr) (g : Int → Option (List Int)) (c : Nat) : Prop where
  ex : ∃ kvs : List (L2.Key × V), H d = some (.dK kvs) ∧ kvs.length ≤ c ∧ (∀ x r, g x = some r → ∃ a, valV kvs (.inl x) = some (.ref a) ∧ H a = some (.lst ((r : List Int).map V.int)) ∧ a ≠ ro ∧ G a = none) ∧ ∀ x, g x = none → valV kvs (.inl x) = none
theorem WaysAt.to {G H H' : Hp} {d ro : Addr} {g : Int → Option (List Int)} {c : Nat} (h : WaysAt G H d ro g c) (s : Same H H') : WaysAt G H' d ro g c := by
  obtain ⟨kvs, h1, h2, h3, h4⟩ := h.ex
  exact ⟨kvs, s _ _ h1, h2, fun x r e => let ⟨a, e1, e2, e3⟩ := h3 x r e; ⟨a, e1, s _ _ e2, e3⟩, h4⟩
theorem WaysAt.updR {G H : Hp} {d ro : Addr} {g : Int → Option (List Int)} {c : Nat} {x : HO} (h : WaysAt G H d ro g c) (hd : d ≠ ro) : WaysAt G (upd H ro x) d ro g c := by
  obtain ⟨kvs, h1, h2, h3, h4⟩ := h.ex
  exact ⟨kvs, by rw [upd_ne hd]; exact h1, h2, fun x r e => let ⟨a, e1, e2, e3⟩ := h3 x r e; ⟨a, e1, by rw [upd_ne e3.1]; exact e2, e3⟩, h4⟩
theorem WaysAt.fresh {G H : Hp} {d ro ro' : Addr} {g : Int → Option (List Int)} {c : Nat} (h : WaysAt G H d ro g c) (n : H ro' = none) : WaysAt G H d ro' g c := by
  obtain ⟨kvs, h1, h2, h3, h4⟩ := h.ex
  exact ⟨kvs, h1, h2, fun x r e => let ⟨a, e1, e2, e3⟩ := h3 x r e; ⟨a, e1, e2, (fun z => by rw [z, n] at e2; cases e2), e3.2⟩, h4⟩
theorem WaysAt.fresh' {G H : Hp} {d ro : Addr} {g : Int → Option (List Int)} {c : Nat} (h : WaysAt G H d ro g c) (n : ∃ kv, H d = some (.dK kv)) : WaysAt G H d d g c := by
  obtain ⟨kvs, h1, h2, h3, h4⟩ := h.ex
  exact ⟨kvs, h1, h2, fun x r e => let ⟨a, e1, e2, e3⟩ := h3 x r e; ⟨a, e1, e2, (fun z => by rw [z, h1] at e2; cases e2), e3.2⟩, h4⟩
theorem WaysAt.grow {G H : Hp} {d ro : Addr} {g : Int → Option (List Int)} {c c' : Nat} (h : WaysAt G H d ro g c) (l : c ≤ c') : WaysAt G H d ro g c' := by
  obtain ⟨kvs, h1, h2, h3⟩ := h.ex
  exact ⟨kvs, h1, Nat.le_trans h2 l, h3⟩
theorem WaysAt.congr {G H : Hp} {d ro : Addr} {g g' : Int → Option (List Int)} {c : Nat} (h : WaysAt G H d ro g c) (e : ∀ x, g x = g' x) : WaysAt G H d ro g' c := by
  have : g = g' := funext e
  rw [← this]
  exact h
theorem vl_dnI {K : PySem.W.Frag} {σ : L2.St} {H : Hp} {ta td : TE} {o : Addr} {x : Int} {kvs : List (L2.Key × V)} (h1 : Vl ta σ H (.int x)) (h2 : Vl td σ H (.ref o)) (hd : H o = some (.dK kvs)) : An (tB (tDNotIn ta td)) σ H (!(valV kvs (.inl x)).isSome) := fun Q k => h1 _ (h2 _ ⟨o, _, rfl, DGet.k (k := .inl x) hd, _, rfl, k⟩)
def gS (S : List Int) (pf : Int → List Int) (v : Int) (vf : Option (List Int)) : Int → Option (List Int) := fun x => if x = v then vf else if x ∈ S then some (pf x) else none
theorem WaysAt.notIn {K : PySem.W.Frag} {σ : L2.St} {G H : Hp} {ta td : TE} {d ro : Addr} {g : Int → Option (List Int)} {c : Nat} {x : Int} (h : WaysAt G H d ro g c) (h1 : Vl ta σ H (.int x)) (h2 : Vl td σ H (.ref d)) : An (tB (tDNotIn ta td)) σ H (g x).isNone := by
  obtain ⟨kvs, e1, _, e3, e4⟩ := h.ex
  refine (vl_dnI (K := K) h1 h2 e1).is ?_
  cases e : g x with
  | none =>
    rw [e4 x e]
    rfl
  | some r =>
    obtain ⟨a, ea, _⟩ := e3 x r e
    rw [ea]
    rfl
section
variable {K : PySem.W.Frag} {σ : L2.St} {H : Hp} {D : Ends} {tw tb : TS} {td tx ty : TE}
/-- ways[y] = ways[x] + [y] -/
theorem q_wput {G : Hp} {d ro : Addr} {g : Int → Option (List Int)} {c : Nat} {x y : Int} {w : List Int} (hd : ∀ H', Vl td σ H' (.ref d)) (hx : ∀ H', Vl tx σ H' (.int x)) (hy : ∀ H', Vl ty σ H' (.int y)) (h : WaysAt G H d ro g c) (sG : Same G H) (hr : (H ro).isSome = true) (hg : g x = some w) (hw : w.length ≤ 100000) (hc : c ≤ 100000)
    (k : ∀ H', Same (but H d) (but H' d) → WaysAt G H' d ro (fun z => if z = y then some (w ++ [y]) else g z) (c + 1) → tw D σ H') : tSeq (sDPut td ty (tOp rCat (tDGet td tx) (tLst (tCons ty tNil)))) tw D σ H := by
  obtain ⟨kvs, e1, e2, e3, e4⟩ := h.ex
  obtain ⟨a, ea, el, _⟩ := e3 x w hg
  refine q_dputN (xs := (w ++ [y]).map V.int) (vn_catL (vl_dgetI (hd H) (hx H) e1 ea) el (vn_oneI (hy H)) (by show w.length + 1 ≤ 1000000; omega)) (fun H' _ => hd H') (fun H' _ => hy H') e1 (Nat.lt_of_le_of_lt (m := 100000) (by omega) (by decide)) fun b H4 s4 nb eb => ?_
  have bd : b ≠ d := (ne_of_none e1 nb).symm
  have br : b ≠ ro := fun z => by
    rw [← z, nb] at hr
    cases hr
  refine k _ (by rw [but_upd]; exact but_mono s4) ⟨_, upd_same, Nat.le_trans (length_putK _ _ _) (by omega), fun z r hz => ?_, fun z hz => ?_⟩
  · rw [valV_put]
    by_cases c1 : z = y
    · subst c1
      rw [if_pos rfl]
      rw [if_pos rfl] at hz
      cases hz
      exact ⟨b, rfl, by rw [upd_ne bd]; exact eb, br, Same.free sG nb⟩
    · rw [if_neg fun q => c1 (Sum.inl.inj q)]
      rw [if_neg c1] at hz
      obtain ⟨a', f1, f2, f3⟩ := e3 z r hz
      have ad : a' ≠ d := fun q => by
        rw [q, e1] at f2
        cases f2
      exact ⟨a', f1, by rw [upd_ne ad]; exact s4 _ _ f2, f3⟩
  · rw [valV_put]
    by_cases c1 : z = y
    · rw [if_pos c1] at hz
      cases hz
    · rw [if_neg fun q => c1 (Sum.inl.inj q)]
      rw [if_neg c1] at hz
      exact e4 z hz
theorem q_whileM {c : TT} (Pv : Nat → L2.St → Hp → Prop) (m0 : Nat) (h0 : Pv m0 σ H) (hs : ∀ m σ H, Pv m σ H → ∃ b, An c σ H b ∧ (b = true → tb { D with nx := fun σ' H' => ∃ m', m' < m ∧ Pv m' σ' H', ct := fun σ' H' => ∃ m', m' < m ∧ Pv m' σ' H', bk := tw D } σ H) ∧ (b = false → tw D σ H)) : tSeq (tWhile c tb) tw D σ H :=
  ⟨Pv, ⟨m0, h0⟩, fun m σ H p => by
    obtain ⟨b, hb, h1, h2⟩ := hs m σ H p
    refine hb _ ?_
    cases b with
    | true => exact ⟨_, fun _ _ q => q, h1 rfl⟩
    | false => exact h2 rfl⟩
end
section
variable {K : PySem.W.Frag} {σ : L2.St} {H : Hp} {tr : TA} {te : TE}
theorem lc_rows5 {j : Nat} {n : Int} {f : Int → List V} {Q : VK} (hl : Va tr σ H [.int n]) (h0 : 0 ≤ n) (hz : n ≤ 1000)
    (he : ∀ x : Int, 0 ≤ x → x < n → ∀ H', Same H H' → Vn te ((σ.set j none).set j (some (.int x))) H' (f x))
    (q : ∀ D H' (rw : List Addr), Same H H' → H D = none → H' D = some (.lst (rw.map V.ref)) → rw.length = n.toNat → D ∉ rw → (∀ (i : Nat) a, rw[i]? = some a → H a = none ∧ H' a = some (.lst (f (i : Nat)))) → Q (.ref D) H') : tLc (iRng1 tr) (gName j) tYes te [j] σ H Q := by
  refine hl _ ⟨n, rfl, by omega, by omega, fun D nD => lc_range (lo := 0) (n := n.toNat) (fun i H' => ∃ rw : List Addr, H' D = some (.lst (rw.map V.ref)) ∧ Same H H' ∧ rw.length = i ∧ D ∉ rw ∧ ∀ (i : Nat) a, rw[i]? = some a → H a = none ∧ H' a = some (.lst (f (i : Nat))))
    ⟨[], upd_same, same_upd nD, rfl, List.not_mem_nil, fun _ _ h => by simp at h⟩ (fun i H2 hi hP => ?_) (fun H2 hP => ?_)⟩
  · obtain ⟨rw_, hD, s2, hlen, hDn, hr⟩ := hP
    rw [Int.zero_add]
    refine ⟨?_, ?_⟩
    · show ((σ.set j none).set j (some (V.int i))).set j none = σ.set j none
      rw [List.set_set, List.set_set]
    · refine iteT (B := ∃ rw : List Addr, H2 D = some (.lst (rw.map V.ref)) ∧ Same H H2 ∧ rw.length = i + 1 ∧ D ∉ rw ∧ ∀ (i : Nat) a, rw[i]? = some a → H a = none ∧ H2 a = some (.lst (f (i : Nat)))) (he i (by omega) (by omega) H2 s2 _ fun p H3 s3 np hp => ⟨_, s3 _ _ hD, ?_, rw_ ++ [p], ?_, ?_, ?_, ?_, fun b a hb => ?_⟩)
      · rw [List.length_map]
        exact Nat.lt_of_le_of_lt (m := 1000000) (by omega) (by decide)
      · rw [upd_same, List.map_append]
        rfl
      · exact same_upd' (s2.trans s3) nD
      · rw [List.length_append, hlen]
        rfl
      · intro h
        rcases List.mem_append.mp h with h | h
        · exact hDn h
        · have e := List.mem_singleton.mp h
          rw [e, np] at hD
          cases hD
      · by_cases hbi : b < rw_.length
        · rw [List.getElem?_append_left hbi] at hb
          have := hr b a hb
          exact ⟨this.1, by
            rw [upd_ne (fun e => hDn (by rw [← e]; exact List.mem_of_getElem? hb))]
            exact s3 _ _ this.2⟩
        · rw [List.getElem?_append_right (by omega)] at hb
          have e0 : b - rw_.length = 0 := by
            have := (List.getElem?_eq_some_iff.mp hb).1
            simp at this
            exact this
          rw [e0] at hb
          cases hb
          have eb : b = i := by omega
          refine ⟨Same.free s2 np, ?_⟩
          rw [upd_ne (fun z => by rw [← z, np] at hD; cases hD), eb]
          exact hp
  · obtain ⟨rw_, hD, s2, hlen, hDn, hr⟩ := hP
    exact q D H2 rw_ s2 nD hD hlen hDn hr

end
theorem rngG5 {n : Int} {i : Nat} (h : i < n.toNat) : (rng n)[i]? = some (i : Int) := by
  unfold rng
  rw [List.getElem?_map, List.getElem?_range h]
  rfl
theorem layStep_len {nb : Int → List Int} {low : Int → Bool} {acc : List (List Int) × List Int} {w : List Int} : acc.2.length ≤ (layStep nb low acc w).2.length := by
  show acc.2.length ≤ (acc.2 ++ _).length
  rw [List.length_append]
  omega
theorem layFold_len {nb : Int → List Int} {low : Int → Bool} : ∀ (ws : List (List Int)) (acc : List (List Int) × List Int), acc.2.length ≤ (ws.foldl (layStep nb low) acc).2.length
  | [], _ => Nat.le_refl _
  | w :: ws, acc => Nat.le_trans layStep_len (layFold_len ws _)
theorem goes_snoc {nb : Int → List Int} {v : Int} {W : List (List Int)} {w : List Int} : goesTo nb v (W ++ [w]) = (goesTo nb v W).or (if v ∈ nb (lastI w) then some (w ++ [v]) else none) := by
  unfold goesTo
  rw [List.find?_append]
  cases e : W.find? fun w => decide (v ∈ nb (lastI w)) with
  | some r => rfl
  | none =>
    rw [Option.none_or]
    by_cases c : v ∈ nb (lastI w)
    · rw [List.find?_cons_of_pos (by exact decide_eq_true c), if_pos c]
      rfl
    · rw [List.find?_cons_of_neg (by exact fun z => c (of_decide_eq_true z)), if_neg c]
      rfl
abbrev sWitness : Stmt := topS 14
theorem scWitness : FnScope ["net", "order", "u", "v", "n", "rank", "place", "near", "ways", "layer", "reached", "other"] ["net", "order", "u", "v"] (defScope sWitness) := ⟨rfl, rfl, rfl, by decide +kernel, rfl, by decide +kernel, by decide +kernel⟩
def spWit (K : PySem.W.Frag) (CP : Addr) : Sp := fun vs H Q E => ∃ (v : V) (N : Net) (p : Addr) (os : List Int) (a b : Int), vs = [v, .ref p, .int a, .int b] ∧ Dp K H v (netD N) ∧ NetOk N ∧ SqL K H p (os.map V.int) ∧ OrdOk N.n os ∧
  (¬ PairP N.ls os a b → RaiseTo E H CP 0) ∧ (PairP N.ls os a b → ∀ H' q r, Same H H' → H q = none → witF (nbN N) (lowU os a) a b (N.n.toNat + 1) = some r → H' q = some (.lst (r.map V.int)) → Q (.ref q) H')
section
variable {P : Program} {w : World} {K : PySem.W.Frag} {mg : Str → Option Value} {base : Heap} {CN CP CW fI : Addr}
theorem ok_witness {f : Addr} {fd : FuncData} {k k1 k2 : Nat} (l1 : k1 ≤ k) (l2 : k2 ≤ k) (F : Fun K "witness" "witness" sWitness f fd) (hN : PySem.LowX.LowTxt K mg "NoPair" CW fI) (c_ranks : KalX P w K mg base k1 "ranks" ["order"] (spRk K CN)) (c_neighbours : KalX P w K mg base k2 "neighbours" ["net", "a"] (spNb K CP)) (mr : mg "range" = none) : FnOk P w K mg base (L2.CX P w) (k + 1) f fd ["net", "order", "u", "v"] (spWit K CW) := by
  refine F.okX scWitness (fun vs H Q E h => ?_) (fun cdv A outer s H vs Q E hr h => ?_)
  · obtain ⟨v, N, p, os, a, b, rfl, _⟩ := h
    rfl
  · obtain ⟨v, N, p, os, a, b, rfl, hNt, ok, hS, oo, q1, q2⟩ := h
    have hu := hu_of hr
    refine ⟨_, pss_cons (ps_set (i := 4) scWitness.nd rfl (.inl rfl) (pe_ix ix_tup (pv 0) pe_int (fun _ _ => rfl)))
      (pss_cons (ps_if (PW.pt (pw_or (pt_not (pt_chain op_le op_lt pe_int (pv 2) (pv 4))) (pw_or1 (pt_not (pt_chain op_le op_lt pe_int (pv 3) (pv 4))))))
      (pss_one (ps_raiseLow rfl hN hr (takes_of rfl rfl rfl rfl) (by exact (pa_cons pe_int pa_nil))))
      pss_nil)
      (pss_cons (ps_set (i := 5) scWitness.nd rfl (.inl rfl) (pe_kx (E := E) c_ranks hr (by first | decide | omega) (by rfl) (takes_of rfl rfl rfl rfl) (pa_cons (pv 1) pa_nil)))
      (pss_cons (ps_if (pt_cmpR op_ge (pe_ix ix_list (pv 5) (pv 2) (fun _ _ => rfl)) (pe_ix ix_list (pv 5) (pv 3) (fun _ _ => rfl)) (nomark _))
      (pss_one (ps_raiseLow rfl hN hr (takes_of rfl rfl rfl rfl) (by exact (pa_cons pe_int pa_nil))))
      pss_nil)
      (pss_cons (ps_setLc (i := 7) (own := [("place", 6)]) (g := gName 6) (tt := tYes) (te := (tCall (spNb K CP) [] (fun _ _ _ => False) (tCons (tVar 0) (tCons (tVar 6) tNil)))) (by rfl) scWitness.nd rfl rfl (sw_true rfl rfl rfl (by decide +kernel)) (pi_range1 (by rfl) mr (pa_cons (pv 4) pa_nil)) (blkOk_by (own := [("place", 6)]) (N := ["net", "order", "u", "v", "n", "rank", "place", "near", "ways", "layer", "reached", "other"]) (sc := defScope sWitness) (by decide +kernel)) (fun _ _ _ _ _ => pg_name (i := 6) scWitness.nd rfl (Or.inl rfl)) (fun _ _ _ _ _ => by exact pts_nil) (fun _ _ _ _ _ => by exact (pe_kx (E := fun _ _ _ => False) c_neighbours hr (by first | decide | omega) (by rfl) takes0 (pa_cons (pv 0) (pa_cons (pv 6) pa_nil)))))
      (pss_cons (ps_set (i := 8) scWitness.nd rfl (.inl rfl) (pe_disp (pps_cons (pv 2) (pe_lst (pa_cons (pv 2) pa_nil)) pps_nil) (by rfl) (by rfl) (by simp) (by decide)))
      (pss_cons (ps_set (i := 9) scWitness.nd rfl (.inl rfl) (pe_lst (pa_cons (pv 2) pa_nil)))
      (pss_cons (ps_while (passes_of rfl) (PW.pt (pw_and (pt_truth (pv 9) (by intro _; rfl)) (pw_and1 (pt_cmp (pc_dnotin hu (pv 3) (pv 8))))))
      (pss_cons (ps_set (i := 10) scWitness.nd rfl (.inl rfl) (pe_lst pa_nil))
        (pss_cons (ps_for (passes_of rfl) rfl (pi_list (pv 9)) (pg_name (i := 6) scWitness.nd rfl (.inl rfl))
        (pss_one (ps_for (passes_of rfl) rfl (pi_list (pe_ix ix_list (pv 7) (pv 6) (fun _ _ => rfl))) (pg_name (i := 11) scWitness.nd rfl (.inl rfl))
          (pss_one (ps_if (PW.pt (pw_and (pt_cmp (pc_dnotin hu (pv 11) (pv 8))) (pw_and1 (PW.pt (pw_or (pt_cmpR op_eq (pv 11) (pv 3) (nomark _)) (pw_or1 (pt_cmpR op_lt (pe_ix ix_list (pv 5) (pv 11) (fun _ _ => rfl)) (pe_ix ix_list (pv 5) (pv 2) (fun _ _ => rfl)) (nomark _))))))))
            (pss_cons (ps_dput hu (pv 8) (pv 11) (pe_op op_cat (pe_dget hu (pv 8) (pv 6) (fun _ _ => rfl)) (pe_lst (pa_cons (pv 11) pa_nil))) rfl)
              (pss_one (ps_expr (pe_bm PySem.F.plainAttrs_list PySem.F.slot_list_append PySem.F.type_list_append mt_append (pv 10) (pa_cons (pv 11) pa_nil)))))
            pss_nil)))))
        (pss_one (ps_set (i := 9) scWitness.nd rfl (.inl rfl) (pv 10))))))
      (pss_cons (ps_if (pt_cmp (pc_dnotin hu (pv 3) (pv 8)))
      (pss_one (ps_raiseLow rfl hN hr (takes_of rfl rfl rfl rfl) (by exact (pa_cons pe_int pa_nil))))
      pss_nil)
      (pss_one (ps_ret (pe_dget hu (pv 8) (pv 3) (fun _ _ => rfl)))))))))))), ?_⟩
    obtain ⟨p0, c, xs, rfl, hp0, hc, hx⟩ := Dp.net_inv hNt
    have on := oo.len
    have n40 := ok.n40
    have n1 := ok.n1
    have l16 := ok.len
    have hbad : badAt os = none := bad_iff.mpr (by
      rw [show (os.length : Int) = N.n by omega]
      exact oo)
    refine q_asg (vl_ixT (K := K) (vl_var rfl) vl_c hp0 (atI_nat (j := 0) rfl)) ?_
    refine q_when (b := (!(decide (0 ≤ a) && decide (a < N.n))) || !(decide (0 ≤ b) && decide (b < N.n))) (an_or (k := !(decide (0 ≤ a) && decide (a < N.n))) (m := !(decide (0 ≤ b) && decide (b < N.n))) (an_not (an_test (vl_chainI vl_c (vl_var rfl) (vl_var rfl)))) fun _ => an_not (an_test (vl_chainI vl_c (vl_var rfl) (vl_var rfl)))) (fun hb => ?_) (fun hb => ?_)
    · exact raise_now (va_cons vl_c va_nil) (q1 fun hp => by
        have := hp.ins ok
        rw [decide_eq_true this.1.1, decide_eq_true this.1.2, decide_eq_true this.2.1, decide_eq_true this.2.2] at hb
        cases hb)
    have hin : (0 ≤ a ∧ a < N.n) ∧ 0 ≤ b ∧ b < N.n := by
      rw [Bool.or_eq_false_iff, Bool.not_eq_false', Bool.not_eq_false', Bool.and_eq_true, Bool.and_eq_true, decide_eq_true_eq, decide_eq_true_eq, decide_eq_true_eq, decide_eq_true_eq] at hb
      exact hb
    clear hb
    refine q_asgE ⟨.ref p, rfl, p, os, rfl, hS, by omega, ?_⟩
    rw [hbad]
    intro G rk_ sG nrk erk
    have gr : ∀ x, (0 ≤ x ∧ x < N.n) → atI ((rk os).map V.int) x = some (.int (posOf x os : Nat)) := fun x hx => by
      obtain ⟨i, rfl⟩ := Int.eq_ofNat_of_zero_le hx.1
      refine atI_nat ?_
      unfold rk
      rw [List.getElem?_map, List.getElem?_map, rngG5 (by omega)]
      rfl
    refine q_when (b := decide ((posOf b os : Int) ≤ (posOf a os : Int))) (an_test (vl_I0 (g := fun i j => .bl (decide (j ≤ i))) (vl_ixL (vl_var rfl) (vl_var rfl) (.of erk) (gr a hin.1)) (vl_ixL (vl_var rfl) (vl_var rfl) (.of erk) (gr b hin.2)))) (fun hb => ?_) (fun hb => ?_)
    · refine raise_now (va_cons vl_c va_nil) (RaiseTo.to (q1 fun hp => ?_) sG)
      have := hp.1
      have := of_decide_eq_true hb
      omega
    have hab : posOf a os < posOf b os := by
      have := of_decide_eq_false hb
      omega
    clear hb
    have hne : a ≠ b := fun e => by
      rw [e] at hab
      exact Nat.lt_irrefl _ hab
    have hNg := Dp.to hNt sG
    -- near
    refine q_asgE (lc_rows5 (n := N.n) (f := fun x => (nearOf x N.ls).map V.int) (va_cons (vl_var rfl) va_nil) (by omega) (by omega) (fun x h0 h1 H' s' Q q => ⟨_, rfl, .int x, rfl, _, x, N, rfl, Dp.to hNg s', by omega, fun h => absurd ⟨h0, h1⟩ h, fun _ H2 p s2 np ep => q p H2 s2 np ep⟩) fun nl H1 rw_ s1 nnl enl rl rnn rr => ?_)
    have erk1 := s1 _ _ erk
    -- ways
    refine q_asgE fun dp ndp => ⟨.int a, rfl, (vn_oneI (n := a) (vl_var rfl)) _ fun L H2 s2 nL eL => ⟨s2 _ _ upd_same, [(.inl a, .ref L)], rfl, by show 1 ≤ 15; decide, ?_⟩⟩
    have Ld : L ≠ dp := (ne_of_none upd_same nL).symm
    have s12 : Same H1 (upd H2 dp (.dK [(.inl a, .ref L)])) := same_upd' ((same_upd ndp).trans s2) ndp
    have hW0 : WaysAt H1 (upd H2 dp (.dK [(.inl a, .ref L)])) dp dp (gS [a] (fun _ => [a]) b none) 1 := by
      refine ⟨_, upd_same, Nat.le_refl _, fun x r hx => ?_, fun x hx => ?_⟩
      · unfold gS at hx
        by_cases c1 : x = b
        · rw [if_pos c1] at hx
          cases hx
        · rw [if_neg c1] at hx
          by_cases c2 : x ∈ [a]
          · rw [if_pos c2] at hx
            cases hx
            rw [List.mem_singleton.mp c2]
            exact ⟨L, by
              unfold valV
              rw [List.find?_cons_of_pos (by exact decide_eq_true rfl)]
              rfl, by rw [upd_ne Ld]; exact eL, Ld, Same.free ((same_upd ndp).trans (Same.refl _)) nL⟩
          · rw [if_neg c2] at hx
            cases hx
      · have : x ≠ a := fun e => by
          rw [e] at hx
          unfold gS at hx
          rw [if_neg hne, if_pos List.mem_cons_self] at hx
          cases hx
        unfold valV
        rw [List.find?_cons_of_neg (by exact fun z => this (Sum.inl.inj (of_decide_eq_true z)).symm)]
        rfl
    change tSeq _ _ _ _ (upd H2 dp (.dK [(.inl a, .ref L)]))
    generalize upd H2 dp (.dK [(.inl a, .ref L)]) = H3 at s12 hW0 ⊢
    -- layer
    refine q_asgN (vn_oneI (n := a) (vl_var rfl)) fun ly0 H4 s4 nly0 ely0 => ?_
    have lowb : lowU os a b = false := decide_eq_false (by omega)
    refine q_whileM (fun m σ H5 => ∃ y6 y10 y11 ly, σ = [some (.ref p0), some (.ref p), some (.int a), some (.int b), some (.int N.n), some (.ref rk_), y6, some (.ref nl), some (.ref dp), some (.ref ly), y10, y11] ∧ Same H1 H5 ∧
      ((∃ t pf, m = N.n.toNat + 1 - t ∧ t ≤ N.n.toNat ∧ (∀ s, s < t → goesTo (nbN N) b (layW N os a s).1 = none) ∧ WaysAt H1 H5 dp dp (gS (layW N os a t).2 pf b none) (1 + 2000 * t) ∧ H5 ly = some (.lst (((layW N os a t).1.map lastI).map V.int)) ∧ ∀ z ∈ (layW N os a t).1, pf (lastI z) = z) ∨
        ∃ rr S pf R, WaysAt H1 H5 dp dp (gS S pf b (some rr)) 100000 ∧ H5 ly = some (.lst R) ∧ ∃ t, t < N.n.toNat ∧ goesTo (nbN N) b (layW N os a t).1 = some rr ∧ ∀ s, s < t → goesTo (nbN N) b (layW N os a s).1 = none))
      (N.n.toNat + 1) ⟨_, _, _, _, rfl, s12.trans s4, .inl ⟨0, fun _ => [a], rfl, Nat.zero_le _, fun s h => absurd h (Nat.not_lt_zero _), hW0.to s4, ely0, fun z hz => by rw [List.mem_singleton.mp hz]⟩⟩ (fun m σ H5 hP => ?_)
    obtain ⟨y6, y10, y11, ly, rfl, s5, hA | hB⟩ := hP
    · obtain ⟨t, pf, rfl, ht, hno, hW, ely, hpf⟩ := hA
      refine ⟨(!((layW N os a t).1.map lastI).isEmpty) && (gS (layW N os a t).2 pf b none b).isNone, an_and (k := !((layW N os a t).1.map lastI).isEmpty) (m := (gS (layW N os a t).2 pf b none b).isNone) (fun Q k => ⟨_, rfl, _, .inl ⟨_, .of ely, rfl⟩, by
        rw [List.isEmpty_map]
        exact k⟩) fun _ => hW.notIn (K := K) (vl_var rfl) (vl_var rfl), fun hb => ?_, fun hb => ?_⟩
      · -- a layer
        have hWne : (layW N os a t).1 ≠ [] := fun e => by
          rw [e] at hb
          cases hb
        have htn := lay_n ok hin.1 hWne
        obtain ⟨hL, hI⟩ := lay_ok (low := lowU os a) (nbN_lt ok) a t
        have hS40 : (layW N os a (t + 1)).2.length ≤ N.n.toNat := by
          obtain ⟨hL1, _⟩ := lay_ok (low := lowU os a) (nbN_lt ok) a (t + 1)
          have := sub_len (ys := rng N.n) hL1.nd fun x hx => mem_rng.mpr (lay_seen ok hin.1 (t + 1) x hx).1
          rw [len_rng] at this
          exact this
        have eN : layW N os a (t + 1) = (layW N os a t).1.foldl (layStep (nbN N) (lowU os a)) ([], (layW N os a t).2) := rfl
        have ends_in : ∀ w ∈ (layW N os a t).1, 0 ≤ lastI w ∧ lastI w < N.n := fun w hw => (lay_seen ok hin.1 t _ (hL.ends w hw)).1
        have bS : ∀ x ∈ (layW N os a t).2, x ≠ b := fun x hx e => by
          rcases hL.seen x hx with z | z
          · exact hne (z.symm.trans e)
          · rw [e, lowb] at z
            cases z
        rw [eN] at hS40
        generalize hW' : (layW N os a t).1 = W at *
        generalize hS' : (layW N os a t).2 = S at *
        have lenW : W.length ≤ N.n.toNat := by
          have nd : (W.map lastI).Nodup := List.pairwise_map.mpr (hL.srt.imp_of_mem fun ha hb hlt e => by
            rw [hL.inj _ ha _ hb e] at hlt
            exact List.lt_irrefl _ hlt)
          have := sub_len (ys := rng N.n) nd fun x hx => by
            obtain ⟨w, hw, rfl⟩ := List.mem_map.mp hx
            exact mem_rng.mpr (ends_in w hw)
          rw [len_rng, List.length_map] at this
          exact this
        refine q_lnew fun ro nro => ?_
        have s6 : Same H5 (upd H5 ro (.lst [])) := same_upd nro
        have lyro : ly ≠ ro := ne_of_none ely nro
        obtain ⟨kv0, ekv0, _⟩ := hW.ex
        have dpro : dp ≠ ro := ne_of_none ekv0 nro
        have nro1 : H1 ro = none := Same.free s5 nro
        refine q_forL (K := K) (j := 6) (xs := (W.map lastI).map V.int) (vl_var rfl) (.of (s6 _ _ ely))
          (fun i σ H6 => ∃ y6 y11 R pf, σ = [some (.ref p0), some (.ref p), some (.int a), some (.int b), some (.int N.n), some (.ref rk_), y6, some (.ref nl), some (.ref dp), some (.ref ly), some (.ref ro), y11] ∧ Same H1 H6 ∧ H6 ly = some (.lst ((W.map lastI).map V.int)) ∧
            WaysAt H1 H6 dp ro (gS ((W.take i).foldl (layStep (nbN N) (lowU os a)) ([], S)).2 pf b (goesTo (nbN N) b (W.take i))) (1 + 2000 * t + 41 * i) ∧ H6 ro = some (.lst ((R : List Int).map V.int)) ∧ (goesTo (nbN N) b (W.take i) = none → R = ((W.take i).foldl (layStep (nbN N) (lowU os a)) ([], S)).1.map lastI) ∧ R.length ≤ 41 * i ∧
            (∀ z ∈ W, pf (lastI z) = z) ∧ ∀ z ∈ ((W.take i).foldl (layStep (nbN N) (lowU os a)) ([], S)).1, pf (lastI z) = z)
          ⟨_, _, [], pf, rfl, s5.trans s6, s6 _ _ ely, ((hW.fresh nro).to s6).grow (by omega), upd_same, fun _ => rfl, by simp, hpf, fun _ h => (nomatch h)⟩ (fun i σ H6 hP => ?_) (fun i x0 σ H6 hi hP => ?_) (fun σ H6 hP => ?_)
        · obtain ⟨_, _, _, _, _, _, e, _⟩ := hP
          exact .of e
        · obtain ⟨y6, y11, R, pf', rfl, s7, ely6, hW6, ero, hR, hRl, hp1, hp2⟩ := hP
          rw [List.getElem?_map, List.getElem?_map] at hi
          cases hg : W[i]? with
          | none =>
            rw [hg] at hi
            cases hi
          | some w =>
            rw [hg] at hi
            cases hi
            have hwm := List.mem_of_getElem? hg
            have hil := (List.getElem?_eq_some_iff.mp hg).1
            have hx := ends_in w hwm
            have hIi := LayI.fold (low := lowU os a) (nbN_lt ok) (W.take i) [] [] S (LayI.start (k := t + 1) hL.nd) (by rw [List.nil_append]; exact List.Pairwise.sublist (List.take_sublist i W) hL.srt) (by rw [List.nil_append]; exact fun z hz => hL.len z (List.mem_of_mem_take hz))
            have estep : (W.take (i + 1)).foldl (layStep (nbN N) (lowU os a)) ([], S) = layStep (nbN N) (lowU os a) ((W.take i).foldl (layStep (nbN N) (lowU os a)) ([], S)) w := by
              rw [take_snoc hg, List.foldl_append]
              rfl
            have egoes : goesTo (nbN N) b (W.take (i + 1)) = (goesTo (nbN N) b (W.take i)).or (if b ∈ nbN N (lastI w) then some (w ++ [b]) else none) := by rw [take_snoc hg, goes_snoc]
            rw [estep, egoes]
            generalize (W.take i).foldl (layStep (nbN N) (lowU os a)) ([], S) = fi at *
            obtain ⟨L0, S0⟩ := fi
            generalize goesTo (nbN N) b (W.take i) = vf0 at *
            have hS0 : S0 = S ++ L0.map lastI := hIi.seen
            have inS0 : ∀ z ∈ W, lastI z ∈ S0 := fun z hz => by
              rw [hS0]
              exact List.mem_append.mpr (.inl (hL.ends z hz))
            have inL0 : ∀ z ∈ L0, lastI z ∈ S0 := fun z hz => by
              rw [hS0]
              exact List.mem_append.mpr (.inr (List.mem_map.mpr ⟨z, hz, rfl⟩))
            have wb : lastI w ≠ b := bS _ (hL.ends w hwm)
            have wlen := hL.len w hwm
            obtain ⟨k', hk⟩ := Int.eq_ofNat_of_zero_le hx.1
            have hkn : k' < rw_.length := by
              rw [rl]
              omega
            have han := List.getElem?_eq_getElem hkn
            generalize rw_[k'] = an at han
            have ean : H1 an = some (.lst ((nbN N (lastI w)).map V.int)) := by
              rw [hk]
              exact (rr k' an han).2
            have nd := near_nodup ok (lastI w)
            have nl40 : (nbN N (lastI w)).length ≤ N.n.toNat := by
              have := sub_len (ys := rng N.n) nd fun x hx => mem_rng.mpr (adj0_in ok ((near_mem ok).mp hx)).2.1
              rw [len_rng] at this
              exact this
            obtain ⟨T, hT⟩ : ∃ T : Nat → List Int, ∀ j, T j = ((nbN N (lastI w)).take j).filter fun y => lowU os a y && !decide (y ∈ S0) := ⟨_, fun _ => rfl⟩
            obtain ⟨V_, hV⟩ : ∃ V_ : Nat → Option (List Int), ∀ j, V_ j = vf0.or (if b ∈ (nbN N (lastI w)).take j then some (w ++ [b]) else none) := ⟨_, fun _ => rfl⟩
            have Tend : newS (nbN N) (lowU os a) S0 (lastI w) = T (nbN N (lastI w)).length := by
              rw [hT, List.take_length]
              rfl
            have Vend : vf0.or (if b ∈ nbN N (lastI w) then some (w ++ [b]) else none) = V_ (nbN N (lastI w)).length := by
              rw [hV, List.take_length]
            have Tsub : ∀ j y, y ∈ T j → y ∈ (nbN N (lastI w)).take j ∧ lowU os a y = true ∧ y ∉ S0 := fun j y hy => by
              rw [hT, List.mem_filter, Bool.and_eq_true, Bool.not_eq_true', decide_eq_false_iff_not] at hy
              exact hy
            refine g_forL (K := K) (j := 11) (xs := (nbN N (lastI w)).map V.int) (vl_ixL (vl_var rfl) (vl_var rfl) (.of (s7 _ _ enl)) (by
              rw [hk]
              exact atI_nat (by
                rw [List.getElem?_map, han]
                rfl))) (.of (s7 _ _ ean))
              (fun j σ H7 => ∃ y11 R pf, σ = [some (.ref p0), some (.ref p), some (.int a), some (.int b), some (.int N.n), some (.ref rk_), some (.int (lastI w)), some (.ref nl), some (.ref dp), some (.ref ly), some (.ref ro), y11] ∧ Same H1 H7 ∧ H7 ly = some (.lst ((W.map lastI).map V.int)) ∧
                WaysAt H1 H7 dp ro (gS (S0 ++ T j) pf b (V_ j)) (1 + 2000 * t + 41 * i + j) ∧ H7 ro = some (.lst ((R : List Int).map V.int)) ∧ (V_ j = none → R = (L0 ++ (T j).map fun y => w ++ [y]).map lastI) ∧ R.length ≤ 41 * i + j ∧
                (∀ z ∈ W, pf (lastI z) = z) ∧ ∀ z ∈ L0 ++ (T j).map (fun y => w ++ [y]), pf (lastI z) = z)
              ⟨_, R, pf', rfl, s7, ely6, ?_, ero, ?_, hRl, hp1, ?_⟩ (fun j σ H7 hP => ?_) (fun j x1 σ H7 hj hP => ?_) (fun σ H7 hP => ?_)
            · have e1 : T 0 = [] := by rw [hT]; rfl
              have e2 : V_ 0 = vf0 := by
                rw [hV, List.take_zero, if_neg List.not_mem_nil, Option.or_none]
              rw [e1, e2, List.append_nil]
              exact hW6
            · have e1 : T 0 = [] := by rw [hT]; rfl
              have e2 : V_ 0 = vf0 := by
                rw [hV, List.take_zero, if_neg List.not_mem_nil, Option.or_none]
              rw [e1, e2, List.map_nil, List.append_nil]
              exact hR
            · have e1 : T 0 = [] := by rw [hT]; rfl
              rw [e1, List.map_nil, List.append_nil]
              exact hp2
            · obtain ⟨_, _, _, _, e, _⟩ := hP
              exact .of (e _ _ ean)
            · obtain ⟨y11, R, pf, rfl, s8, ely8, hW8, ero8, hR8, hRl8, hp8, hp9⟩ := hP
              rw [List.getElem?_map] at hj
              cases hgj : (nbN N (lastI w))[j]? with
              | none =>
                rw [hgj] at hj
                cases hj
              | some y0 =>
                rw [hgj] at hj
                cases hj
                have hjl := (List.getElem?_eq_some_iff.mp hgj).1
                have hy0 := (adj0_in ok ((near_mem ok).mp (List.mem_of_getElem? hgj))).2.1
                have ntk : y0 ∉ (nbN N (lastI w)).take j := fun hm => by
                  have := List.Nodup.sublist (List.take_sublist (j + 1) (nbN N (lastI w))) nd
                  rw [take_snoc hgj] at this
                  exact (List.nodup_append.mp this).2.2 y0 hm y0 List.mem_cons_self rfl
                have nT : y0 ∉ T j := fun hm => ntk (Tsub j y0 hm).1
                have Tnext : T (j + 1) = if lowU os a y0 = true ∧ y0 ∉ S0 then T j ++ [y0] else T j := by
                  rw [hT, hT, take_snoc hgj, List.filter_append]
                  by_cases c1 : lowU os a y0 = true ∧ y0 ∉ S0
                  · rw [if_pos c1, List.filter_cons_of_pos (by rw [c1.1, decide_eq_false c1.2]; rfl), List.filter_nil]
                  · rw [if_neg c1, List.filter_cons_of_neg (by
                      rw [Bool.and_eq_true, Bool.not_eq_true', decide_eq_false_iff_not]
                      exact c1), List.filter_nil, List.append_nil]
                have Vnext : y0 ≠ b → V_ (j + 1) = V_ j := fun hne => by
                  rw [hV, hV, take_snoc hgj]
                  by_cases c1 : b ∈ (nbN N (lastI w)).take j
                  · rw [if_pos (List.mem_append.mpr (.inl c1)), if_pos c1]
                  · rw [if_neg (fun h => (List.mem_append.mp h).elim c1 fun h => hne (List.mem_singleton.mp h).symm), if_neg c1]
                have erk8 := s8 _ _ erk1
                refine g_when (b := (gS (S0 ++ T j) pf b (V_ j) y0).isNone && (decide (y0 = b) || decide (posOf y0 os < posOf a os))) (an_and (k := (gS (S0 ++ T j) pf b (V_ j) y0).isNone) (m := decide (y0 = b) || decide (posOf y0 os < posOf a os)) (hW8.notIn (K := K) (vl_var rfl) (vl_var rfl)) fun _ => an_or (k := decide (y0 = b)) (m := decide (posOf y0 os < posOf a os)) (an_test ((vl_eq (vl_var rfl) (vl_var rfl) rfl).is (congrArg V.bl dI))) fun _ => an_test ((vl_I0 (g := fun i j => .bl (decide (i < j))) (vl_ixL (vl_var rfl) (vl_var rfl) (.of erk8) (gr y0 hy0)) (vl_ixL (vl_var rfl) (vl_var rfl) (.of erk8) (gr a hin.1))).is (congrArg V.bl (by
                  rw [decide_eq_decide]
                  exact Int.ofNat_lt)))) (fun hc => ?_) (fun hc => ?_)
                · rw [Bool.and_eq_true, Option.isNone_iff_eq_none, Bool.or_eq_true, decide_eq_true_eq, decide_eq_true_eq] at hc
                  obtain ⟨hc1, hc2⟩ := hc
                  have egw : gS (S0 ++ T j) pf b (V_ j) (lastI w) = some w := by
                    unfold gS
                    rw [if_neg wb, if_pos (List.mem_append.mpr (.inl (inS0 w hwm))), hp8 w hwm]
                  refine q_wput (x := lastI w) (y := y0) (w := w) (fun _ => vl_var rfl) (fun _ => vl_var rfl) (fun _ => vl_var rfl) hW8 s8 (by rw [ero8]; rfl) egw (by omega) (by omega) fun H8 s9 hW9 => ?_
                  have keep : ∀ x y, H7 x = some y → x ≠ dp → H8 x = some y := fun x y e hne => but_same _ _ (s9 _ _ (by rw [but_ne hne]; exact e))
                  have s18 : Same H1 H8 := fun x y e => keep x y (s8 _ _ e) fun q => by
                    rw [q, ndp] at e
                    cases e
                  have lydp : ly ≠ dp := fun q => by
                    obtain ⟨kv, e, _⟩ := hW8.ex
                    rw [q, e] at ely8
                    cases ely8
                  have ero9 := keep ro _ ero8 (fun q => dpro q.symm)
                  refine g_app (v := .int y0) (vl_var rfl) ero9 (vl_var rfl) (Nat.lt_of_le_of_lt (m := 100000) (by rw [List.length_map]; omega) (by decide)) ?_
                  by_cases c1 : y0 = b
                  · subst c1
                    have hTn : T (j + 1) = T j := by
                      rw [Tnext, if_neg (fun h => by rw [lowb] at h; cases h.1)]
                    have hVj : V_ j = none := by
                      have : gS (S0 ++ T j) pf y0 (V_ j) y0 = V_ j := if_pos rfl
                      rw [← this]
                      exact hc1
                    have hVn : V_ (j + 1) = some (w ++ [y0]) := by
                      have h0 : vf0 = none := by
                        rw [hV] at hVj
                        cases e : vf0 with
                        | none => rfl
                        | some r =>
                          rw [e] at hVj
                          cases hVj
                      rw [hV, h0, Option.none_or, take_snoc hgj, if_pos (List.mem_append.mpr (.inr List.mem_cons_self))]
                    refine ⟨_, R ++ [y0], pf, rfl, same_upd' s18 nro1, by rw [upd_ne lyro]; exact keep ly _ ely8 lydp, (WaysAt.congr (hW9.grow (by omega)) fun x => ?_).updR dpro, by rw [upd_same, List.map_append]; rfl, fun h => ?_, ?_, hp8, ?_⟩
                    · rw [hTn, hVn]
                      unfold gS
                      by_cases c2 : x = y0
                      · rw [if_pos c2, if_pos c2]
                      · rw [if_neg c2, if_neg c2, if_neg c2]
                    · rw [hVn] at h
                      cases h
                    · rw [List.length_append]
                      show R.length + 1 ≤ _
                      omega
                    · rw [hTn]
                      exact hp9
                  · have hlow : lowU os a y0 = true := decide_eq_true (hc2.resolve_left c1)
                    have nS : y0 ∉ S0 ++ T j := fun hm => by
                      have : gS (S0 ++ T j) pf b (V_ j) y0 = some (pf y0) := by
                        unfold gS
                        rw [if_neg c1, if_pos hm]
                      rw [this] at hc1
                      cases hc1
                    have nS0 : y0 ∉ S0 := fun h => nS (List.mem_append.mpr (.inl h))
                    have hTn : T (j + 1) = T j ++ [y0] := by rw [Tnext, if_pos ⟨hlow, nS0⟩]
                    have hVn := Vnext c1
                    refine ⟨_, R ++ [y0], fun z => if z = y0 then w ++ [y0] else pf z, rfl, same_upd' s18 nro1, by rw [upd_ne lyro]; exact keep ly _ ely8 lydp, (WaysAt.congr (hW9.grow (by omega)) fun x => ?_).updR dpro, by rw [upd_same, List.map_append]; rfl, fun h => ?_, ?_, fun z hz => ?_, fun z hz => ?_⟩
                    · rw [hTn, hVn]
                      unfold gS
                      by_cases c2 : x = y0
                      · rw [if_pos c2, if_neg (by rw [c2]; exact c1), if_pos (by rw [c2]; simp)]
                        show some (w ++ [y0]) = some (if x = y0 then w ++ [y0] else pf x)
                        rw [if_pos c2]
                      · rw [if_neg c2]
                        by_cases c3 : x = b
                        · rw [if_pos c3, if_pos c3]
                        · rw [if_neg c3, if_neg c3]
                          by_cases c4 : x ∈ S0 ++ T j
                          · rw [if_pos c4, if_pos (by
                              rw [← List.append_assoc]
                              exact List.mem_append.mpr (.inl c4))]
                            show some (pf x) = some (if x = y0 then w ++ [y0] else pf x)
                            rw [if_neg c2]
                          · rw [if_neg c4, if_neg (fun h => by
                              rw [← List.append_assoc] at h
                              exact (List.mem_append.mp h).elim c4 fun h => c2 (List.mem_singleton.mp h))]
                    · rw [hVn] at h
                      rw [hR8 h, hTn, List.map_append, List.map_append, List.map_append, List.map_append, List.append_assoc]
                      congr 2
                      show [y0] = [lastI (w ++ [y0])]
                      rw [lastI_app]
                    · rw [List.length_append]
                      show R.length + 1 ≤ _
                      omega
                    · show (if lastI z = y0 then w ++ [y0] else pf (lastI z)) = z
                      rw [if_neg (fun e => nS0 (by rw [← e]; exact inS0 z hz)), hp8 z hz]
                    · show (if lastI z = y0 then w ++ [y0] else pf (lastI z)) = z
                      rw [hTn, List.map_append] at hz
                      rcases List.mem_append.mp hz with hz | hz
                      · rw [if_neg (fun e => nS0 (by rw [← e]; exact inL0 z hz)), hp9 z (List.mem_append.mpr (.inl hz))]
                      · rcases List.mem_append.mp hz with hz | hz
                        · have hz9 := hp9 z (List.mem_append.mpr (.inr hz))
                          obtain ⟨y, hy, rfl⟩ := List.mem_map.mp hz
                          rw [lastI_app] at hz9 ⊢
                          rw [if_neg (fun e => nT (by rw [← e]; exact hy)), hz9]
                        · obtain ⟨y, hy, rfl⟩ := List.mem_map.mp hz
                          rw [List.mem_singleton.mp hy, lastI_app, if_pos rfl]
                · have nx : T (j + 1) = T j ∧ V_ (j + 1) = V_ j := by
                    by_cases c1 : y0 = b
                    · subst c1
                      refine ⟨by rw [Tnext, if_neg (fun h => by rw [lowb] at h; cases h.1)], ?_⟩
                      have hg1 : gS (S0 ++ T j) pf y0 (V_ j) y0 = V_ j := if_pos rfl
                      rw [hg1, decide_eq_true (rfl : y0 = y0), Bool.true_or, Bool.and_true] at hc
                      have hvj : V_ j = vf0 := by rw [hV, if_neg ntk, Option.or_none]
                      rw [hvj] at hc ⊢
                      cases e : vf0 with
                      | none =>
                        rw [e] at hc
                        cases hc
                      | some r => rw [hV, e, Option.some_or]
                    · refine ⟨?_, Vnext c1⟩
                      rw [Tnext, if_neg]
                      rintro ⟨h1, h2⟩
                      have : gS (S0 ++ T j) pf b (V_ j) y0 = none := by
                        unfold gS
                        rw [if_neg c1, if_neg (fun h => (List.mem_append.mp h).elim h2 nT)]
                      rw [this, (show decide (posOf y0 os < posOf a os) = true from h1), Bool.or_true] at hc
                      cases hc
                  rw [nx.1, nx.2]
                  exact ⟨_, R, pf, rfl, s8, ely8, hW8.grow (by omega), ero8, hR8, by omega, hp8, hp9⟩
            · obtain ⟨y11, R, pf, rfl, s8, ely8, hW8, ero8, hR8, hRl8, hp8, hp9⟩ := hP
              rw [List.length_map] at hW8 hR8 hRl8 hp9
              rw [← Tend] at hW8 hR8 hp9
              rw [← Vend] at hW8 hR8
              exact ⟨_, _, R, pf, rfl, s8, ely8, hW8.grow (by omega), ero8, hR8, by omega, hp8, hp9⟩
        · obtain ⟨y6, y11, R, pf', rfl, s7, ely6, hW6, ero, hR, hRl, hp1, hp2⟩ := hP
          rw [List.length_map, List.length_map, List.take_length] at hW6 hR hp2
          refine g_asg (v := .ref ro) (vl_var rfl) ?_
          have lW : W.length ≤ N.n.toNat := lenW
          have hW7 : WaysAt H1 H6 dp dp _ (1 + 2000 * t + 41 * W.length) := hW6.fresh' (by
            obtain ⟨kv, e, _⟩ := hW6.ex
            exact ⟨kv, e⟩)
          cases eg : goesTo (nbN N) b W with
          | none =>
            rw [eg] at hW7 hR
            refine ⟨N.n.toNat + 1 - (t + 1), by omega, _, _, _, ro, rfl, s7, .inl ⟨t + 1, pf', rfl, by omega, fun s hs => ?_, ?_, ?_, ?_⟩⟩
            · by_cases c1 : s < t
              · exact hno s c1
              · rw [show s = t by omega, hW']
                exact eg
            · rw [eN]
              exact hW7.grow (by omega)
            · rw [eN, ← hR rfl]
              exact ero
            · rw [eN]
              exact hp2
          | some rr =>
            rw [eg] at hW7
            exact ⟨0, by omega, _, _, _, ro, rfl, s7, .inr ⟨rr, _, pf', _, hW7.grow (by omega), ero, t, by omega, by rw [hW']; exact eg, hno⟩⟩
      · -- no more
        have hWe : (layW N os a t).1 = [] := by
          cases e : (layW N os a t).1 with
          | nil => rfl
          | cons w W =>
            rw [e] at hb
            have : gS (layW N os a t).2 pf b none b = none := if_pos rfl
            rw [this] at hb
            cases hb
        have emp : ∀ d, (layW N os a (t + d)).1 = [] := fun d => by
          induction d with
          | zero => exact hWe
          | succ d ih =>
            obtain ⟨_, hi⟩ := lay_ok (low := lowU os a) (nbN_lt ok) a (t + d)
            rw [ih] at hi
            refine List.eq_nil_iff_forall_not_mem.mpr fun w hw => ?_
            obtain ⟨z, hz, _⟩ := hi.from_ w hw
            cases hz
        have hnp : ¬ PairP N.ls os a b := fun hp => by
          obtain ⟨s, _, hs⟩ := pair_goes ok hp
          by_cases c1 : s < t
          · rw [hno s c1] at hs
            cases hs
          · have := emp (s - t)
            rw [show t + (s - t) = s by omega] at this
            rw [this] at hs
            cases hs
        have eg : gS (layW N os a t).2 pf b none b = none := if_pos rfl
        refine q_when (b := true) ((hW.notIn (K := K) (vl_var rfl) (vl_var rfl)).is (by rw [eg]; rfl)) (fun _ => ?_) (fun h => by cases h)
        exact raise_now (va_cons vl_c va_nil) (RaiseTo.to (q1 hnp) ((sG.trans s1).trans s5))
    · obtain ⟨rr, S, pf, R, hW, ely, t, htn, hg, hno⟩ := hB
      have eg : gS S pf b (some rr) b = some rr := if_pos rfl
      refine ⟨(!R.isEmpty) && (gS S pf b (some rr) b).isNone, an_and (k := !R.isEmpty) (m := (gS S pf b (some rr) b).isNone) (fun Q k => ⟨_, rfl, _, .inl ⟨_, .of ely, rfl⟩, k⟩) fun _ => hW.notIn (K := K) (vl_var rfl) (vl_var rfl), fun hb => ?_, fun hb => ?_⟩
      · rw [eg] at hb
        cases R <;> cases hb
      · refine q_when (b := false) ((hW.notIn (K := K) (vl_var rfl) (vl_var rfl)).is (by rw [eg]; rfl)) (fun h => by cases h) (fun _ => ?_)
        obtain ⟨kvs, e1, _, e3, _⟩ := hW.ex
        obtain ⟨al, ea, el, _, eG⟩ := e3 b rr eg
        have hp : PairP N.ls os a b := goes_pair ok hin.1 hab hg
        refine g_ret (vl_dgetI (vl_var rfl) (vl_var rfl) e1 ea) (q2 hp H5 al rr ((sG.trans s1).trans s5) (Same.free (sG.trans s1) eG) (wit_at _ t (by omega) hg hno) el)
end
/-! ### the prices that need a pair -/
theorem lay_pairs : ∀ L : List (Int × Int), PyData.canLayAll0 (L.map pairD2) = true ∧ PyData.depthAll (L.map pairD2) ≤ 1
  | [] => ⟨rfl, Nat.zero_le _⟩
  | x :: L => by
    have ih := lay_pairs L
    constructor
    · show ((true && (true && true)) && PyData.canLayAll0 (L.map pairD2)) = true
      rw [ih.1]
      rfl
    · show max (max 0 (max 0 0) + 1) (PyData.depthAll (L.map pairD2)) ≤ 1
      have := ih.2
      simp only [Nat.max_self, Nat.zero_add]
      omega
theorem shaped_pairs (L : List (Int × Int)) : SeqAt.shaped (.list (L.map pairD2)) = true := by
  have h := lay_pairs L
  show (PyData.canLayAll0 (L.map pairD2) && decide (PyData.depthAll (L.map pairD2) + 1 ≤ 64)) = true
  rw [h.1, decide_eq_true (show PyData.depthAll (L.map pairD2) + 1 ≤ 64 by
    have := h.2
    omega)]
  rfl
theorem any_pairs (L : List (Int × Int)) (p q : Int) : ((L.map pairD2).any fun z => PyData.eqv z (.tuple [.int p, .int q])) = decide ((p, q) ∈ L) := by
  rw [Bool.eq_iff_iff, List.any_eq_true, decide_eq_true_eq]
  have e : ∀ x : Int × Int, PyData.eqv (pairD2 x) (.tuple [.int p, .int q]) = decide (x = (p, q)) := fun x => by
    obtain ⟨a, b⟩ := x
    show (a == p && (b == q && true)) = _
    rw [Bool.and_true, Bool.eq_iff_iff]
    simp
  constructor
  · rintro ⟨z, hz, hq⟩
    obtain ⟨x, hx, rfl⟩ := List.mem_map.mp hz
    rw [e, decide_eq_true_eq] at hq
    rw [← hq]
    exact hx
  · intro h
    refine ⟨_, List.mem_map_of_mem h, ?_⟩
    rw [e, decide_eq_true rfl]

theorem ve_inP {K : PySem.W.Frag} {σ : L2.St} {H : Hp} {ta tb tf : TE} {p q : Int} {f : V} {L : List (Int × Int)} (ha : Vl ta σ H (.int p)) (hb : Vl tb σ H (.int q)) (hf : ∀ H', Same H H' → Vl tf σ H' f) (hd : Dp K H f (.list (L.map pairD2))) :
    Ve (tOp (rInD K) (tTup (tCons ta (tCons tb tNil))) tf) σ H (.bl (decide ((p, q) ∈ L))) := fun Q k =>
  ha _ (hb _ ⟨by show 2 ≤ sizeLine; decide, fun T nT => by
    have s1 : Same H (upd H T (.tup [.int p, .int q])) := same_upd nT
    refine hf _ s1 _ ⟨.tuple [.int p, .int q], L.map pairD2, .tup (.of upd_same) (.cons (.int _) (.cons (.int _) .nil)), Dp.to hd s1, by rfl, shaped_pairs L, ?_⟩
    rw [any_pairs]
    exact k _ s1⟩)
theorem mk_tup2 {σ : L2.St} {H : Hp} {t1 t2 : TE} {x y : Int} {Q : VK} (h1 : Vl t1 σ H (.int x)) (h2 : Vl t2 σ H (.int y)) (k : ∀ T, H T = none → Q (.ref T) (upd H T (.tup [.int x, .int y]))) : tTup (tCons t1 (tCons t2 tNil)) σ H Q := h1 _ (h2 _ ⟨by show 2 ≤ sizeLine; decide, k⟩)
def mmP (x y : Int) : Int × Int := (if y < x then y else x, if y > x then y else x)
def stepsI (w : List Int) : List (Int × Int) := (w.zip (w.drop 1)).map fun p => mmP p.1 p.2
theorem steps_at {w : List Int} {i : Nat} {x y : Int} (hx : w[i]? = some x) (hy : w[i + 1]? = some y) : (stepsI w)[i]? = some (mmP x y) := by
  unfold stepsI
  rw [List.getElem?_map, (List.getElem?_zip_eq_some (z := (x, y))).mpr ⟨hx, by rw [List.getElem?_drop, Nat.add_comm]; exact hy⟩]
  rfl
theorem steps_len {w : List Int} : (stepsI w).length = w.length - 1 := by
  unfold stepsI
  rw [List.length_map, List.length_zip, List.length_drop]
  omega
def valN (w : List Int) (l : Lnk) : Option Int := if (l.a, l.b) ∈ stepsI w then some 1 else none
/-- the net of the prices that need the pair -/
def needN (N : Net) (w : List Int) : Net := ⟨N.n, N.ls.map fun l => ⟨l.a, l.b, valN w l, valN w l⟩⟩
theorem for_zip5 {K : PySem.W.Frag} {a b : Addr} {xs ys : List V} {g : TG} {tb : TS} {D : Ends} {σ : L2.St} {H : Hp} (Pv : Nat → L2.St → Hp → Prop) (h0 : Pv 0 σ H)
    (hq : ∀ i σ H, Pv i σ H → SqL K H a xs ∧ SqL K H b ys)
    (hs : ∀ (i : Nat) x y T σ H, xs[i]? = some x → ys[i]? = some y → Pv i σ H → H T = none → g (.ref T) σ (upd H T (.tup [x, y])) fun σ2 H2 => tb { D with nx := Pv (i + 1), ct := Pv (i + 1), bk := D.nx } σ2 H2)
    (hd : ∀ σ H, Pv (min xs.length ys.length) σ H → D.nx σ H) :
    ∃ W : Nat → Nat → L2.St → Hp → Prop, (∃ m, W 0 m σ H) ∧ ∀ i m σ H, W i m σ H → ((Itz K a b).stop i H ∧ D.nx σ H) ∨
      ((Itz K a b).go i H ∧ ∃ N : L2.St → Hp → Prop, (∀ σ' H', N σ' H' → ∃ m', m' < m ∧ W (i + 1) m' σ' H') ∧ ∀ v H', (Itz K a b).yld i H v H' → g v σ H' fun σ2 H2 => tb { D with nx := N, ct := N, bk := D.nx } σ2 H2) := by
  refine ⟨fun i m σ H => m + i = min xs.length ys.length ∧ Pv i σ H, ⟨min xs.length ys.length, rfl, h0⟩, fun i m σ H hW => ?_⟩
  obtain ⟨em, p⟩ := hW
  obtain ⟨qx, qy⟩ := hq i σ H p
  by_cases hlt : i < min xs.length ys.length
  · have h1 : i < xs.length := by omega
    have h2 : i < ys.length := by omega
    refine .inr ⟨⟨xs, ys, xs[i], ys[i], qx, qy, List.getElem?_eq_getElem h1, List.getElem?_eq_getElem h2⟩, Pv (i + 1), fun σ' H' p' => ⟨m - 1, by omega, by omega, p'⟩, fun v H' yy => ?_⟩
    obtain ⟨T, x', y', rfl, hT, rfl, f1, f2⟩ := yy
    exact hs i x' y' T σ H (f1 xs qx) (f2 ys qy) p hT
  · have e : i = min xs.length ys.length := by omega
    rw [e] at p
    exact .inl ⟨⟨xs, ys, qx, qy, by omega⟩, hd σ H p⟩
theorem room65 {k : Nat} {A : Around} (r : Room k A) : A.units + 65 < cLine := by
  have := r.un
  omega
/-! ### the price of a link, the places lower than both -/
def K2 (p : Int × Int) : List L2.Key := [Sum.inl p.1, Sum.inl p.2]
theorem K2_inj {p q : Int × Int} (h : K2 p = K2 q) : p = q := by
  unfold K2 at h
  injection h with e1 e2
  injection e2 with e2 _
  exact Prod.ext (Sum.inl.inj e1) (Sum.inl.inj e2)
theorem put_len {kvs : List (List L2.Key × V)} {k : List L2.Key} {v : V} : (putK kvs k v).length ≤ kvs.length + 1 := by
  unfold putK
  split
  · rw [List.length_map]
    omega
  · rw [List.length_append]
    exact Nat.le_refl _
theorem q_dputK {σ : L2.St} {H : Hp} {td ta tb te : TE} {D : Ends} {tw : TS} {v : V} {o : Addr} {kvs : List (List L2.Key × V)} {y1 y2 : Int} (hv : Vl te σ H v) (ho : Vl td σ H (.ref o)) (h1 : Vl ta σ H (.int y1)) (h2 : Vl tb σ H (.int y2)) (hd : H o = some (.dT kvs)) (hl : kvs.length < sizeLine)
    (k : ∀ T, H T = none → o ≠ T → tw D σ (upd (upd H T (.tup [.int y1, .int y2])) o (.dT (putK kvs [.inl y1, .inl y2] v)))) : tSeq (sDPut td (tTup (tCons ta (tCons tb tNil))) te) tw D σ H := q_dput (ty := td) hv ho h1 h2 hd hl k
theorem g_dputK {σ : L2.St} {H : Hp} {td ta tb te : TE} {D : Ends} {v : V} {o : Addr} {kvs : List (List L2.Key × V)} {y1 y2 : Int} (hv : Vl te σ H v) (ho : Vl td σ H (.ref o)) (h1 : Vl ta σ H (.int y1)) (h2 : Vl tb σ H (.int y2)) (hd : H o = some (.dT kvs)) (hl : kvs.length < sizeLine)
    (k : ∀ T, H T = none → o ≠ T → D.nx σ (upd (upd H T (.tup [.int y1, .int y2])) o (.dT (putK kvs [.inl y1, .inl y2] v)))) : sDPut td (tTup (tCons ta (tCons tb tNil))) te D σ H := q_dputK (tw := fun D σ H => D.nx σ H) hv ho h1 h2 hd hl k
theorem cut_1 (w : List Int) (h : 1 ≤ w.length) : cutV (w.map V.int) (some 1) none = (w.drop 1).map V.int := by
  cases w with
  | nil => exact absurd h (by decide)
  | cons x r =>
    unfold cutV
    rw [show HT.sIx ((x :: r).map V.int).length 0 (some 1) = min 1 ((x :: r).map V.int).length from HT.sIx_nat _ 0 1, HT.sIx_none]
    rw [show min 1 ((x :: r).map V.int).length = 1 by
      rw [List.length_map, List.length_cons]
      omega]
    show List.take _ (r.map V.int) = r.map V.int
    rw [List.length_map, List.length_cons, Nat.add_sub_cancel]
    exact List.take_of_length_le (by rw [List.length_map]; exact Nat.le_refl _)
theorem wit_len {N : Net} {os : List Int} {a b : Int} {r : List Int} (ok : NetOk N) (hp : PairP N.ls os a b) (h : witF (nbN N) (lowU os a) a b (N.n.toNat + 1) = some r) : 1 ≤ r.length ∧ r.length ≤ 50 := by
  unfold witF at h
  obtain ⟨t, _, ht⟩ := List.exists_of_findSome?_eq_some h
  obtain ⟨w, hw, _, rfl⟩ := goes_some ht
  obtain ⟨hL, _⟩ := lay_ok (low := lowU os a) (nbN_lt ok) a t
  have := hL.len w hw
  have hn := lay_n ok (hp.ins ok).1 (t := t) (fun e => by
    have hw : w ∈ (layW N os a t).1 := hw
    rw [e] at hw
    cases hw)
  have := ok.n40
  rw [List.length_append]
  show 1 ≤ w.length + 1 ∧ w.length + 1 ≤ 50
  omega
abbrev sNeeding : Stmt := topS 15
theorem scNeeding : FnScope ["net", "order", "u", "v", "way", "opened", "a", "b", "links", "link", "value"] ["net", "order", "u", "v"] (defScope sNeeding) := ⟨rfl, rfl, rfl, by decide +kernel, rfl, by decide +kernel, by decide +kernel⟩
/-- a net whose list of links is new -/
def NetNew (K : PySem.W.Frag) (H H' : Hp) (q : V) (N : Net) : Prop := ∃ (T lo : Addr) (ts : List V), q = .ref T ∧ H' T = some (.tup [.int N.n, .ref lo]) ∧ H' lo = some (.lst ts) ∧ H lo = none ∧ DpAll K (but H' lo) ts (N.ls.map lnkD)
def spNeed (K : PySem.W.Frag) (CP : Addr) : Sp := fun vs H Q E => ∃ (v : V) (N : Net) (p : Addr) (os : List Int) (a b : Int), vs = [v, .ref p, .int a, .int b] ∧ Dp K H v (netD N) ∧ NetOk N ∧ SqL K H p (os.map V.int) ∧ OrdOk N.n os ∧
  (¬ PairP N.ls os a b → RaiseTo E H CP 0) ∧ (PairP N.ls os a b → ∀ H' q r, Same H H' → witF (nbN N) (lowU os a) a b (N.n.toNat + 1) = some r → NetNew K H H' q (needN N r) → Q q H')
section
variable {P : Program} {w : World} {K : PySem.W.Frag} {mg : Str → Option Value} {base : Heap} {CN CP CW fI : Addr}
theorem ok_needing {f : Addr} {fd : FuncData} {k : Nat} (F : Fun K "needing" "needing" sNeeding f fd) (c_witness : KalX P w K mg base k "witness" ["net", "order", "u", "v"] (spWit K CW)) (mz : mg "zip" = none) (mm : mg "min" = none) (mx : mg "max" = none) : FnOk P w K mg base (L2.CX P w) (k + 1) f fd ["net", "order", "u", "v"] (spNeed K CW) := by
  refine F.okX scNeeding (fun vs H Q E h => ?_) (fun cdv A outer s H vs Q E hr h => ?_)
  · obtain ⟨v, N, p, os, a, b, rfl, _⟩ := h
    rfl
  · obtain ⟨v, N, p, os, a, b, rfl, hNt, ok, hS, oo, q1, q2⟩ := h
    have hu := hu_of hr
    refine ⟨_, pss_cons (ps_set (i := 4) scNeeding.nd rfl (.inl rfl) (pe_kx (E := E) c_witness hr (by first | decide | omega) (by rfl) (takes_of rfl rfl rfl rfl) (pa_cons (pv 0) (pa_cons (pv 1) (pa_cons (pv 2) (pa_cons (pv 3) pa_nil))))))
      (pss_cons (ps_set (i := 5) scNeeding.nd rfl (.inl rfl) pe_dnewT)
      (pss_cons (ps_for (passes_of rfl) rfl (pi_zip (by rfl) mz (pa_cons (pv 4) (pa_cons (pe_slice sl_list (pv 4) (po_some pe_int) po_none) pa_nil))) (pg_tup rfl (pgs_cons (pg_name (i := 6) scNeeding.nd rfl (.inl rfl)) (pgs_cons (pg_name (i := 7) scNeeding.nd rfl (.inl rfl)) pgs_nil)))
      (pss_one (ps_dput hu (pv 5) (pe_tup (pa_cons (pe_callB (call_min2 rfl) (by rfl) mm (by decide +kernel) (pa_cons (pv 6) (pa_cons (pv 7) pa_nil))) (pa_cons (pe_callB (call_max2 rfl) (by rfl) mx (by decide +kernel) (pa_cons (pv 6) (pa_cons (pv 7) pa_nil))) pa_nil))) pe_int rfl)))
      (pss_cons (ps_set (i := 8) scNeeding.nd rfl (.inl rfl) (pe_lst pa_nil))
      (pss_cons (ps_for (passes_of rfl) rfl (pi_list (pe_ix ix_tup (pv 0) pe_int (fun _ _ => rfl))) (pg_name (i := 9) scNeeding.nd rfl (.inl rfl))
      (pss_cons (ps_par (i := 6) (j := 7) (by rfl) scNeeding.nd rfl rfl (by decide) rfl rfl (pa_cons (pe_ix ix_tup (pv 9) pe_int (fun _ _ => rfl)) (pa_cons (pe_ix ix_tup (pv 9) pe_int (fun _ _ => rfl)) pa_nil)) (by rfl))
        (pss_cons (ps_set (i := 10) scNeeding.nd rfl (.inl rfl) (pe_dget1 hu (pv 5) (pe_tup (pa_cons (pv 6) (pa_cons (pv 7) pa_nil))) ⟨by rfl, by rfl, by rfl, by rfl⟩))
        (pss_one (ps_expr (pe_bm PySem.F.plainAttrs_list PySem.F.slot_list_append PySem.F.type_list_append mt_append (pv 8) (pa_cons (pe_tup (pa_cons (pv 6) (pa_cons (pv 7) (pa_cons (pv 10) (pa_cons (pv 10) pa_nil))))) pa_nil)))))))
      (pss_one (ps_ret (pe_tup (pa_cons (pe_ix ix_tup (pv 0) pe_int (fun _ _ => rfl)) (pa_cons (pv 8) pa_nil))))))))), ?_⟩
    obtain ⟨p0, c, xs, rfl, hp0, hc, hx⟩ := Dp.net_inv hNt
    have n40 := ok.n40
    have l16 := ok.len
    refine q_asgE ⟨.ref p0, rfl, .ref p, rfl, .int a, rfl, .int b, rfl, .ref p0, N, p, os, a, b, rfl, hNt, ok, hS, oo, q1, fun hp H1 wp w s1 nw hw ew => ?_⟩
    have q := q2 hp
    have wl := wit_len ok hp hw
    refine q_dnewT fun o no => ?_
    have so : Same H1 (upd H1 o (.dT [])) := same_upd no
    have ew2 := so _ _ ew
    -- opened
    refine ⟨.ref wp, rfl, .ref wp, rfl, 1, rfl, wp, _, rfl, .of ew2, fun S nS => ?_⟩
    have sS : Same (upd H1 o (.dT [])) (upd (upd H1 o (.dT [])) S (.lst (cutV (w.map V.int) (some 1) none))) := same_upd nS
    have ecut : cutV (w.map V.int) (some 1) none = (w.drop 1).map V.int := cut_1 w wl.1
    rw [ecut] at sS
    refine ⟨wp, S, _, _, rfl, .of (by rw [ecut]; exact sS _ _ ew2), .inl (.inl upd_same), ?_⟩
    rw [ecut]
    have So : o ≠ S := ne_of_none upd_same nS
    have eo0 := sS _ _ (upd_same (H := H1) (a := o) (o := .dT []))
    have hSS : upd (upd H1 o (.dT [])) S (.lst ((w.drop 1).map V.int)) S = some (.lst ((w.drop 1).map V.int)) := upd_same
    have s1S := so.trans sS
    have nSo : H1 S = none := Same.free so nS
    generalize upd (upd H1 o (.dT [])) S (.lst ((w.drop 1).map V.int)) = H2 at sS eo0 hSS s1S
    refine for_zip5 (xs := w.map V.int) (ys := (w.drop 1).map V.int)
      (fun i σ H4 => ∃ y6 y7 kvs, σ = [some (.ref p0), some (.ref p), some (.int a), some (.int b), some (.ref wp), some (.ref o), y6, y7, none, none, none] ∧ Same (but H2 o) (but H4 o) ∧ H4 o = some (.dT kvs) ∧ kvs.length ≤ i ∧ ∀ x y : Int, valV kvs (K2 (x, y)) = if (x, y) ∈ (stepsI w).take i then some (.int 1) else none)
      ⟨none, none, [], rfl, Same.refl _, eo0, Nat.le_refl _, fun x y => by rw [List.take_zero, if_neg List.not_mem_nil]; rfl⟩ (fun i σ H4 hP => ?_) (fun i u v0 T σ H4 hu1 hv1 hP nT => ?_) (fun σ H4 hP => ?_)
    · obtain ⟨_, _, _, _, s4, _⟩ := hP
      have wo : wp ≠ o := ne_of_none ew no
      exact ⟨.of (but_same _ _ (s4 _ _ (by rw [but_ne wo]; exact s1S _ _ ew))), .inl (.inl (but_same _ _ (s4 _ _ (by rw [but_ne So.symm]; exact hSS))))⟩
    · obtain ⟨y6, y7, kvs, rfl, s4, eo, hk, hv⟩ := hP
      rw [List.getElem?_map] at hu1 hv1
      cases eu : w[i]? with
      | none =>
        rw [eu] at hu1
        cases hu1
      | some u' =>
        cases ev : (w.drop 1)[i]? with
        | none =>
          rw [ev] at hv1
          cases hv1
        | some v' =>
          rw [eu] at hu1
          rw [ev] at hv1
          cases hu1
          cases hv1
          have ev' : w[i + 1]? = some v' := by
            rw [List.getElem?_drop, Nat.add_comm] at ev
            exact ev
          have hil := (List.getElem?_eq_some_iff.mp ev').1
          have hst := steps_at eu ev'
          have sT : Same H4 (upd H4 T (.tup [.int u', .int v'])) := same_upd nT
          refine ⟨T, _, rfl, .of upd_same, rfl, _, _, rfl, _, _, rfl, rfl, ?_⟩
          refine g_dputK (v := .int 1) (y1 := (mmP u' v').1) (y2 := (mmP u' v').2) vl_c (vl_var rfl) (vl_min2 (vl_var rfl) (vl_var rfl)) (vl_max2 (vl_var rfl) (vl_var rfl)) (sT _ _ eo) (Nat.lt_of_le_of_lt (m := 10000) (by omega) (by decide)) fun T2 nT2 oT2 => ?_
          refine ⟨_, _, _, rfl, ?_, upd_same, Nat.le_trans put_len (by omega), fun x y => ?_⟩
          · rw [but_upd]
            exact s4.trans (but_mono (sT.trans (same_upd nT2)))
          · show valV (putK kvs (K2 (mmP u' v')) (.int 1)) (K2 (x, y)) = _
            rw [valV_put, hv, take_snoc hst]
            by_cases c1 : (x, y) = mmP u' v'
            · rw [if_pos (by rw [c1]), if_pos (List.mem_append.mpr (.inr (by rw [c1]; exact List.mem_cons_self)))]
            · rw [if_neg (fun z => c1 (K2_inj z))]
              by_cases c2 : (x, y) ∈ (stepsI w).take i
              · rw [if_pos c2, if_pos (List.mem_append.mpr (.inl c2))]
              · rw [if_neg c2, if_neg (fun h => (List.mem_append.mp h).elim c2 fun h => c1 (List.mem_singleton.mp h))]
    · obtain ⟨y6, y7, kvs, rfl, s4, eo, hk, hv⟩ := hP
      have em : min (w.map V.int).length ((w.drop 1).map V.int).length = (stepsI w).length := by
        rw [List.length_map, List.length_map, List.length_drop, steps_len]
        omega
      rw [em, List.take_length] at hv
      have s14 : Same H1 H4 := fun x y e => by
        have xo : x ≠ o := ne_of_none e no
        exact but_same _ _ (s4 _ _ (by rw [but_ne xo]; exact s1S _ _ e))
      have sH4 := s1.trans s14
      refine q_lnew fun lo nlo => ?_
      have s5 : Same H4 (upd H4 lo (.lst [])) := same_upd nlo
      have hval : ∀ l : Lnk, (valV kvs (K2 (l.a, l.b))).getD .non = oV (valN w l) := fun l => by
        rw [hv]
        unfold valN
        by_cases c1 : (l.a, l.b) ∈ stepsI w
        · rw [if_pos c1, if_pos c1]
          rfl
        · rw [if_neg c1, if_neg c1]
          rfl
      refine g_forLk (D := { nx := tRet _ _, rt := _, bk := _, ct := _ }) (j := 9) (Hb := H) (vl_ixT (K := K) (vl_var rfl) vl_c (seqT (sH4.trans s5) hp0) (atI_nat (j := 1) rfl)) hc hx (sH4.trans s5)
        (fun i σ H5 => ∃ y6 y7 y9 y10 ts, σ = [some (.ref p0), some (.ref p), some (.int a), some (.int b), some (.ref wp), some (.ref o), y6, y7, some (.ref lo), y9, y10] ∧ Same H4 H5 ∧ H5 lo = some (.lst ts) ∧ ts.length = i ∧ DpAll K (but H5 lo) ts (((N.ls.take i).map fun l => (⟨l.a, l.b, valN w l, valN w l⟩ : Lnk)).map lnkD))
        ⟨_, _, _, _, [], rfl, s5, upd_same, rfl, .nil⟩ (fun i σ H5 hP => ?_) (fun i l t σ H5 hl ht hP => ?_) (fun σ H5 hP => ?_)
      · obtain ⟨_, _, _, _, _, _, s6, _⟩ := hP
        exact sH4.trans s6
      · obtain ⟨y6, y7, y9, y10, ts, rfl, s6, elo, hlen, hD⟩ := hP
        have hil := (List.getElem?_eq_some_iff.mp hl).1
        have ht5 := seqT (sH4.trans s6) ht
        refine q_par (x := .int l.a) (y := .int l.b) (va_cons (vl_ixT (K := K) (vl_var rfl) vl_c ht5 (atI_nat (j := 0) rfl)) (va_cons (vl_ixT (K := K) (vl_var rfl) vl_c ht5 (atI_nat (j := 1) rfl)) va_nil)) ?_
        refine q_dgetT (vl_var rfl) (fun _ => vl_var rfl) (fun _ => vl_var rfl) (s6 _ _ eo) fun T2 nT2 => ?_
        rw [show (valV kvs [.inl l.a, .inl l.b]).getD .non = oV (valN w l) from hval l]
        have sT2 : Same H5 (upd H5 T2 (.tup [.int l.a, .int l.b])) := same_upd nT2
        generalize upd H5 T2 (.tup [.int l.a, .int l.b]) = H6 at sT2 ⊢
        refine ⟨.ref lo, rfl, .inl ⟨rfl, _, .inl (.inl (sT2 _ _ elo))⟩, .int l.a, rfl, .int l.b, rfl, oV (valN w l), rfl, oV (valN w l), rfl, by show 4 ≤ sizeLine; decide, fun T nT => ?_⟩
        have sT : Same H6 (upd H6 T (.tup [.int l.a, .int l.b, oV (valN w l), oV (valN w l)])) := same_upd nT
        have loT : T ≠ lo := (ne_of_none (sT2 _ _ elo) nT).symm
        refine ⟨lo, ts, .ref T, rfl, rfl, (sT2.trans sT) _ _ elo, ?_, ?_⟩
        · rw [hlen]
          exact Nat.lt_of_le_of_lt (m := 10000) (by omega) (by decide)
        · have sb : Same (but H5 lo) (but (upd (upd H6 T (.tup [.int l.a, .int l.b, oV (valN w l), oV (valN w l)])) lo (.lst (ts ++ [.ref T]))) lo) := by
            rw [but_upd]
            exact but_mono (sT2.trans sT)
          refine ⟨_, _, _, _, ts ++ [.ref T], rfl, same_upd' ((s6.trans sT2).trans sT) nlo, upd_same, by rw [List.length_append, hlen]; rfl, ?_⟩
          rw [take_snoc hl, List.map_append, List.map_append]
          refine DpAll.app (DpAll.to hD sb) (DpAll.one (Dp.lnk (l := ⟨l.a, l.b, valN w l, valN w l⟩) (.of ?_)))
          rw [but_upd, but_ne loT, upd_same]
          rfl
      · obtain ⟨y6, y7, y9, y10, ts, rfl, s6, elo, hlen, hD⟩ := hP
        rw [List.take_length] at hD
        refine (vl_ixT (K := K) (vl_var rfl) vl_c (seqT (sH4.trans s6) hp0) (atI_nat (j := 0) rfl)) _ ⟨.ref lo, rfl, by show 2 ≤ sizeLine; decide, fun T nT => ?_⟩
        have sT : Same H5 (upd H5 T (.tup [.int N.n, .ref lo])) := same_upd nT
        exact q _ (.ref T) w ((sH4.trans s6).trans sT) hw ⟨T, lo, ts, rfl, upd_same, sT _ _ elo, Same.free sH4 nlo, DpAll.to hD (but_mono sT)⟩
end
/-! ### dicts of ints compared -/
section
variable {X : Cx}
/-- all values are ints -/
def IntV (ks : List (L2.Key × V)) : Prop := ∀ p ∈ ks, ∃ i : Int, p.2 = V.int i
def SameD (ks ls : List (L2.Key × V)) : Prop := ks.length = ls.length ∧ ∀ p ∈ ks, valV ls p.1 = some p.2
def rEqI : R2 := fun x y H Q => ∃ a b ks ls, x = .ref a ∧ y = .ref b ∧ H a = some (.dK ks) ∧ H b = some (.dK ls) ∧ IntV ks ∧ IntV ls ∧ ∀ r : Bool, (r = true ↔ SameD ks ls) → Q (.bl r) H
theorem val_mem {ls : List (L2.Key × V)} {k : L2.Key} {v : V} (h : valV ls k = some v) : ∃ p ∈ ls, p.1 = k ∧ p.2 = v := by
  induction ls with
  | nil => cases h
  | cons p r ih =>
    by_cases c : p.1 = k
    · have e : valV (p :: r) k = some p.2 := valV_pos c
      rw [e] at h
      exact ⟨p, List.mem_cons_self, c, Option.some.inj h⟩
    · rw [valV_neg c] at h
      obtain ⟨q, hq, e⟩ := ih h
      exact ⟨q, List.mem_cons_of_mem _ hq, e⟩
theorem hits_ints {A : Around} {s : Shared} {ls : List (L2.Key × V)} {vb : List (L2.Key × Value)} (rb : KV ls vb) (il : IntV ls) {ks : List (L2.Key × V)} {va : List (L2.Key × Value)} (ra : KV ks va) :
    IntV ks → ∃ r : Bool, PySem.W.KeqHits A s vb va r ∧ (r = true ↔ ∀ p ∈ ks, valV ls p.1 = some p.2) := by
  unfold KV at ra
  induction ra with
  | nil => intro _; exact ⟨true, .nil, fun _ p hp => (nomatch hp), fun _ => rfl⟩
  | @cons p q ps qs h t ih =>
    intro ik
    obtain ⟨h1, h2⟩ := h
    obtain ⟨k, v⟩ := q
    have h1' : p.1 = k := h1
    obtain ⟨r, hr, hi⟩ := ih fun p' hp => ik p' (List.mem_cons_of_mem _ hp)
    obtain ⟨i, ei⟩ := ik p List.mem_cons_self
    rw [ei] at h2
    obtain ⟨t1, ev⟩ := (show ∃ t, v = Value.int i t from h2)
    have hv := rb.val p.1
    cases e : valV ls p.1 with
    | none =>
      rw [e] at hv
      have hn : valueAt vb k = none := by
        rw [← h1']
        cases z : valueAt vb p.1 with
        | none => rfl
        | some y =>
          rw [z] at hv
          exact (nomatch hv)
      refine ⟨false, .miss hn, fun z => (nomatch z), fun z => ?_⟩
      have := z p List.mem_cons_self
      rw [e] at this
      cases this
    | some u =>
      obtain ⟨p', hp', _, eu⟩ := val_mem e
      obtain ⟨j, ej⟩ := il p' hp'
      rw [eu] at ej
      subst ej
      rw [e] at hv
      obtain ⟨y, hy, ry⟩ := RelO.some_of hv
      obtain ⟨t2, ey⟩ := (show ∃ t, y = Value.int j t from ry)
      rw [h1'] at hy
      subst ev
      subst ey
      refine ⟨(i == j) && r, .hit hy (SeqAt.EqAt.int_int i t1 j t2) hr, ?_⟩
      rw [Bool.and_eq_true, beq_iff_eq, hi]
      constructor
      · rintro ⟨e1, e2⟩ z hz
        rcases List.mem_cons.mp hz with e3 | hz
        · rw [e3, e, ei, e1]
        · exact e2 z hz
      · intro hz
        refine ⟨?_, fun z hm => hz z (List.mem_cons_of_mem _ hm)⟩
        have := hz p List.mem_cons_self
        rw [e, ei] at this
        injection this with this
        injection this with this
        exact this.symm
theorem op_eqI (hu : X.A.units < cLine) : OpR X (compareOp .Eq) rEqI := by
  intro pins s σ H x y v u Q I rx ry h
  obtain ⟨a, b, ks, ls, rfl, rfl, ea, eb, ik, il, q⟩ := h
  obtain rfl : v = Value.ref a := rx
  obtain rfl : u = Value.ref b := ry
  obtain ⟨_, ya, va, ra, da⟩ := (show ObjOk X.prog X.w H s.heap a (.dK ks) from I.hok a _ ea)
  obtain ⟨_, yb, vb, rb, db⟩ := (show ObjOk X.prog X.w H s.heap b (.dK ls) from I.hok b _ eb)
  obtain ⟨r, hr, hi⟩ := hits_ints (A := X.A.in1) (s := s) rb il ra ik
  have e1 : va.length = ks.length := ra.length.symm
  have e2 : vb.length = ls.length := rb.length.symm
  have qq := q (va.length == vb.length && r) (by
    rw [Bool.and_eq_true, beq_iff_eq, e1, e2, hi]
    rfl)
  exact PySem.W.keq_eq (knd := mixKind X.prog X.w) (r := r) ya yb da db hu (fun _ => hr) (fin_bl I qq rfl)
/-- a dict of ints by ints, told as a function -/
structure SumAt (H : Hp) (d : Addr) (f : Int → Option Int) (c : Nat) : Prop where
  ex : ∃ kvs, H d = some (.dK kvs) ∧ kvs.length ≤ c ∧ (∀ p ∈ kvs, ∃ k i : Int, p = (.inl k, .int i)) ∧ ∀ x : Int, valV kvs (.inl x) = (f x).map V.int
theorem SumAt.to {H H' : Hp} {d : Addr} {f : Int → Option Int} {c : Nat} (h : SumAt H d f c) (s : Same H H') : SumAt H' d f c := by
  obtain ⟨kvs, e, h1, h2, h3⟩ := h.ex
  exact ⟨kvs, s _ _ e, h1, h2, h3⟩
theorem SumAt.grow {H : Hp} {d : Addr} {f : Int → Option Int} {c c' : Nat} (h : SumAt H d f c) (l : c ≤ c') : SumAt H d f c' := by
  obtain ⟨kvs, e, h1, h2, h3⟩ := h.ex
  exact ⟨kvs, e, Nat.le_trans h1 l, h2, h3⟩
theorem ints_of {kvs : List (L2.Key × V)} (h : ∀ p ∈ kvs, ∃ k i : Int, p = (.inl k, .int i)) : IntV kvs := fun p hp => by
  obtain ⟨k, i, e⟩ := h p hp
  exact ⟨i, by rw [e]⟩
theorem put_ints {kvs : List (L2.Key × V)} (h : ∀ p ∈ kvs, ∃ k i : Int, p = (.inl k, .int i)) (k i : Int) : ∀ p ∈ putK kvs (.inl k) (.int i), ∃ k i : Int, p = (.inl k, .int i) := fun p hp => by
  unfold putK at hp
  split at hp
  · obtain ⟨z, hz, e⟩ := List.mem_map.mp hp
    split at e
    · obtain ⟨k', i', e'⟩ := h z hz
      rw [e'] at e
      exact ⟨k', i, e.symm⟩
    · rw [← e]
      exact h z hz
  · rcases List.mem_append.mp hp with hp | hp
    · exact h p hp
    · exact ⟨k, i, List.mem_singleton.mp hp⟩
/-- the same dict: the same function -/
theorem sameD_fun {ks ls : List (L2.Key × V)} {f g : Int → Option Int} (hk : ∀ p ∈ ks, ∃ k i : Int, p = (.inl k, .int i)) (hf : ∀ x : Int, valV ks (.inl x) = (f x).map V.int) (hg : ∀ x : Int, valV ls (.inl x) = (g x).map V.int) (h : SameD ks ls) :
    ∀ x d, f x = some d → g x = some d := by
  intro x d e
  have hx := hf x
  rw [e] at hx
  obtain ⟨p, hp, e1, e2⟩ := val_mem hx
  have := h.2 p hp
  rw [e1, e2, hg] at this
  cases z : g x with
  | none =>
    rw [z] at this
    cases this
  | some j =>
    rw [z] at this
    injection this with this
    injection this with this
    rw [this]
end
theorem g_forE {K : PySem.W.Frag} {σ : L2.St} {H : Hp} {D : Ends} {tz : TS} {te : TE} {g : TG} (h : te σ H fun x H1 => tFor (iList K fun _ H' Q => Q x H') g tz D σ H1) : tFor (iList K te) g tz D σ H := h
/-! ### ints that are not told, the heap grown on the way -/
def Vj (te : TE) (σ : L2.St) (H : Hp) (P : Int → Prop) : Prop := ∀ Q : VK, (∀ r H', Same H H' → P r → Q (.int r) H') → te σ H Q
section
variable {K : PySem.W.Frag} {σ : L2.St} {H : Hp} {ta tb te t0 t1 t2 : TE} {tr : TA} {D : Ends} {tw tz : TS} {P P1 P2 : Int → Prop} {a : Addr}
theorem vj_of (h : Vi te σ H P) : Vj te σ H P := fun Q q => h Q fun r hr => q r H (Same.refl H) hr
theorem vj_mono (h : Vj te σ H P1) (hh : ∀ r, P1 r → P r) : Vj te σ H P := fun Q q => h Q fun r H' s hr => q r H' s (hh r hr)
theorem vj_pick {xs : List Int} (hz : xs.length ≤ 1000) (h1 : Va tr σ H (xs.map V.int)) (h2 : ∀ H', Same H H' → Vi tb σ H' (fun r => 0 ≤ r ∧ r < (xs.length : Int))) : Vj (tOp (rIxL K) (tLst tr) tb) σ H (fun r => r ∈ xs) := fun Q q =>
  h1 _ ⟨by rw [List.length_map]; exact Nat.le_trans hz (by decide), fun l nl => h2 _ (same_upd nl) _ fun r hr => by
    obtain ⟨d, g, hd⟩ := at_int hr.1 hr.2
    exact ⟨l, _, r, _, rfl, rfl, .of upd_same, g, q d _ (same_upd nl) (List.mem_of_getElem? hd)⟩⟩
theorem vj_at {ds : List Int} {k : Int} (h0 : Vl t0 σ H (.ref a)) (h1 : Vl t1 σ H (.int k)) (h2 : Vj t2 σ H P2) (hS : SqL K H a (ds.map V.int)) (hk : 0 ≤ k) (hP : ∀ m, P2 m → 0 < m) : Vj (tCall (spAt K) [] E0 (tCons t0 (tCons t1 (tCons t2 tNil)))) σ H (fun r => ∃ m, P2 m ∧ 0 ≤ r ∧ r < m) := fun Q q =>
  h0 _ (h1 _ (h2 _ fun m H' s' hm => ⟨a, ds, k, m, rfl, s'.seq hS, hk, hP m hm, fun r hr => q r H' s' ⟨m, hm, hr⟩⟩))
theorem vi_at {ds : List Int} {k m : Int} (h0 : Vl t0 σ H (.ref a)) (h1 : Vl t1 σ H (.int k)) (h2 : Vl t2 σ H (.int m)) (hS : SqL K H a (ds.map V.int)) (hk : 0 ≤ k) (hm : 0 < m) : Vi (tCall (spAt K) [] E0 (tCons t0 (tCons t1 (tCons t2 tNil)))) σ H (fun r => 0 ≤ r ∧ r < m) :=
  vi_call (va_cons h0 (va_cons h1 (va_cons h2 va_nil))) fun _ _ q => ⟨a, ds, k, m, rfl, hS, hk, hm, q⟩
theorem vj_I0 {g : Int → Int → Int} {p : Int} (ha : Vl ta σ H (.int p)) (hb : Vj tb σ H P2) (h : ∀ q, P2 q → P (g p q)) : Vj (tOp (rI0 fun i j => .int (g i j)) ta tb) σ H P := fun Q k => ha _ (hb _ fun q H' s hq => ⟨p, q, rfl, rfl, k _ H' s (h q hq)⟩)
theorem q_asgJ {i : Nat} (h : Vj te σ H P) (k : ∀ r H', Same H H' → P r → tw D (σ.set i (some (.int r))) H') : tSeq (tAsg te (gName i)) tw D σ H := h _ k
/-! ### tests that are not told -/
def Ab (t : TT) (σ : L2.St) (H : Hp) : Prop := ∀ Q : Bool → Hp → Prop, (∀ b, Q b H) → t σ H Q
variable {t u : TT}
theorem ab_of {b : Bool} (h : An t σ H b) : Ab t σ H := fun Q q => h Q (q b)
theorem ab_and (h1 : Ab t σ H) (h2 : Ab u σ H) : Ab (tAnd t u) σ H := fun Q q => h1 _ fun b => by
  cases b with
  | true => exact iteT (h2 _ q)
  | false => exact iteF (q false)
theorem ab_or (h1 : Ab t σ H) (h2 : Ab u σ H) : Ab (tOr t u) σ H := fun Q q => h1 _ fun b => by
  cases b with
  | true => exact iteT (q true)
  | false => exact iteF (h2 _ q)
theorem ab_not (h : Ab t σ H) : Ab (tNot t) σ H := fun Q q => h _ fun b => q (!b)
theorem ab_eq {n : Int} (ha : Vi ta σ H P) (hb : Vl tb σ H (.int n)) : Ab (tTest (tOp rEq ta tb)) σ H := fun Q q => ha _ fun r _ => hb _ ⟨rfl, _, rfl, q _⟩
theorem ab_I0 {g : Int → Int → Bool} {n : Int} (ha : Vi ta σ H P) (hb : Vl tb σ H (.int n)) : Ab (tTest (tOp (rI0 fun i j => .bl (g i j)) ta tb)) σ H := fun Q q => ha _ fun r _ => hb _ ⟨r, n, rfl, rfl, _, rfl, q _⟩
theorem g_whenB (h : Ab t σ H) (h1 : tz D σ H) (h2 : D.nx σ H) : tIfS t tz tNext D σ H := h _ fun b => by
  cases b with
  | true => exact iteT h1
  | false => exact iteF h2
theorem q_whenB (h : Ab t σ H) (h1 : tz { D with nx := tw D } σ H) (h2 : tw D σ H) : tSeq (tIfS t tz tNext) tw D σ H := g_whenB (D := { D with nx := tw D }) h h1 h2
end
/-! ### tests of which something is told -/
def Ap (t : TT) (σ : L2.St) (H : Hp) (P : Bool → Prop) : Prop := ∀ Q : Bool → Hp → Prop, (∀ b H', Same H H' → P b → Q b H') → t σ H Q
section
variable {K : PySem.W.Frag} {σ : L2.St} {H : Hp} {t u : TT} {D : Ends} {tz tw : TS} {P P1 P2 : Bool → Prop}
theorem ap_of {b : Bool} (h : Ax t σ H b) (hp : P b) : Ap t σ H P := fun Q q => h _ fun H' s => q b H' s hp
theorem ap_and (h1 : Ap t σ H P1) (h2 : P1 true → ∀ H', Same H H' → Ap u σ H' P2) : Ap (tAnd t u) σ H (fun b => b = true → P1 true ∧ P2 true) := fun Q q => h1 _ fun b H1 s1 hb => by
  cases b with
  | true => exact iteT (h2 hb H1 s1 _ fun c H2 s2 hc => q c H2 (s1.trans s2) fun e => ⟨hb, e ▸ hc⟩)
  | false => exact iteF (q false H1 s1 fun e => by cases e)
theorem ap_any (h : Ab t σ H) : Ap t σ H (fun _ => True) := fun Q q => h _ fun b => q b H (Same.refl H) trivial
theorem g_whenP (h : Ap t σ H P) (h1 : P true → ∀ H', Same H H' → tz D σ H') (h2 : ∀ H', Same H H' → D.nx σ H') : tIfS t tz tNext D σ H := h _ fun b H' s hb => by
  cases b with
  | true => exact iteT (h1 hb H' s)
  | false => exact iteF (h2 H' s)
end
theorem lnk_eqv {l : Lnk} {a b : Int} : PyData.eqv (.tuple [.int l.a, .int l.b]) (.tuple [.int a, .int b]) = decide (l.a = a ∧ l.b = b) := by
  show (l.a == a && (l.b == b && true)) = _
  rw [Bool.and_true, Bool.eq_iff_iff]
  simp
theorem eqv_nil {ds : List PyData} : PyData.eqv (.list ds) (.list []) = decide (ds = []) := by
  cases ds with
  | nil => rfl
  | cons d ds =>
    rw [decide_eq_false (fun h => by cases h)]
    rfl
/-- all links before (i, c), or the last is (i, c) -/
theorem LsAt.below {n i c : Int} {ls : List Lnk} (h : LsAt n i (c + 1) ls) (hl : ∀ l, ls.getLast? = some l → ¬ (l.a = i ∧ l.b = c)) : LsAt n i c ls := by
  rcases List.eq_nil_or_concat ls with rfl | ⟨L, b, rfl⟩
  · exact .nil
  · rw [List.concat_eq_append] at h hl ⊢
    have hb := hl b (by rw [List.getLast?_concat])
    have tb := h.to b (List.mem_append.mpr (.inr List.mem_cons_self))
    refine ⟨h.ok, fun l hm => ?_, h.lt⟩
    rcases List.mem_append.mp hm with g | g
    · have := (List.pairwise_append.mp h.lt).2.2 l g b List.mem_cons_self
      unfold LnkLt at this
      omega
    · rw [List.mem_singleton.mp g]
      omega
theorem at_last34 {xs : List V} {x : V} (h : xs[xs.length - 1]? = some x) (hl : 1 ≤ xs.length) : atI xs (-1) = some x := by
  have e : ixN xs.length (-1) = some (xs.length - 1) := by
    unfold ixN
    rw [if_neg (by omega), if_pos (by omega)]
    congr 1
    omega
  unfold atI
  rw [e]
  exact h
theorem te_sortedN {K : PySem.W.Frag} {σ : L2.St} {H : Hp} {ta : TA} {ns : List Int} {Q : VK} (hv : Va ta σ H (ns.map V.int)) (hl : ns.length < 64) (q : ∀ (cs : List Int) (p : Addr) (H' : Hp), cs.Perm ns → cs.Pairwise (· ≤ ·) → Same H H' → H p = none → H' p = some (.lst (cs.map V.int)) → Q (.ref p) H') : tCB (rSorted K) (tCons (tLst ta) tNil) σ H Q :=
  hv _ ⟨by rw [List.length_map]; exact Nat.le_trans (Nat.le_of_lt hl) (by decide), fun l nl => ⟨l, ns, rfl, .of upd_same, hl, fun cs p pm srt np => q cs p _ pm srt ((same_upd nl).trans (same_upd np)) (Same.free (same_upd nl) np) upd_same⟩⟩
def spNet4 (K : PySem.W.Frag) : Sp := fun vs H Q _ => ∃ (a : Addr) (ds : List Int) (k : Int), vs = [.ref a, .int k] ∧ SqL K H a (ds.map V.int) ∧ 0 ≤ k ∧
  ∀ (H' : Hp) (v : V) (N : Net), Same H H' → NetAt K H' v N → NetOk N → Q v H'
abbrev sSparse : Stmt := topS 28
theorem scSparse : FnScope ["draws", "k", "size", "wide", "links", "a", "b", "at"] ["draws", "k"] (defScope sSparse) := ⟨rfl, rfl, rfl, by decide +kernel, rfl, by decide +kernel, by decide +kernel⟩
section
variable {P : Program} {w : World} {K : PySem.W.Frag} {mg : Str → Option Value} {base : Heap}
theorem ok_sparse {f : Addr} {fd : FuncData} {k km : Nat} (lm : km ≤ k) (F : Fun K "_law_sparse" "_law_sparse" sSparse f fd) (c_law_mix : Kal P w K mg base km "_law_mix" ["draws", "k", "many"] (spAt K)) {kp : Nat} (lp : kp ≤ k) (c_law_price : Kal P w K mg base kp "_law_price" ["draws", "k"] (spPrice K)) (mr : mg "range" = none) (mo : mg "sorted" = none) : FnOk P w K mg base CX0 (k + 1) f fd ["draws", "k"] (spNet4 K) := by
  refine F.ok scSparse (fun vs H Q E h => ?_) (fun cdv A outer s H vs Q E hr h => ?_)
  · obtain ⟨a, ds, k, rfl, _⟩ := h
    rfl
  · obtain ⟨a, ds, k, rfl, hS, hk, q⟩ := h
    refine ⟨_, pss_cons (ps_set (i := 2) scSparse.nd rfl (.inl rfl) (pe_op op_add pe_int (pe_k c_law_mix hr (by first | decide | omega) (by rfl) (pa_cons (pv 0) (pa_cons (pv 1) (pa_cons pe_int pa_nil))))))
      (pss_cons (ps_set (i := 3) scSparse.nd rfl (.inl rfl) (pe_ix ix_list (pe_lst (pa_cons pe_int (pa_cons pe_int (pa_cons pe_int (pa_cons pe_int (pa_cons pe_int pa_nil)))))) (pe_k c_law_mix hr (by first | decide | omega) (by rfl) (pa_cons (pv 0) (pa_cons (pe_op op_add (pv 1) pe_int) (pa_cons pe_int pa_nil)))) (fun _ _ => rfl)))
      (pss_cons (ps_set (i := 4) scSparse.nd rfl (.inl rfl) (pe_lst pa_nil))
      (pss_cons (ps_for PassesOwn.never rfl (pi_range1 (by rfl) mr (pa_cons (pv 2) pa_nil)) (pg_name (i := 5) scSparse.nd rfl (.inl rfl))
      (pss_one (ps_for PassesOwn.never rfl (pi_list (pe_callB cr_sorted (by rfl) mo (by decide +kernel) (pa_cons (pe_lst (pa_cons (pe_op op_add (pv 5) pe_int) (pa_cons (pe_op op_add (pv 5) (pv 3)) pa_nil))) pa_nil))) (pg_name (i := 6) scSparse.nd rfl (.inl rfl))
        (pss_cons (ps_set (i := 7) scSparse.nd rfl (.inl rfl) (pe_op op_sub (pe_op op_add (pe_op op_add (pe_op op_add (pv 1) pe_int) (pe_op op_mul pe_int (pv 5))) (pv 6)) (pv 5)))
          (pss_one (ps_if (PW.pt (pw_and (pt_chain op_lt op_lt (pv 5) (pv 6) (pv 2)) (pw_and (PW.pt (pw_or (pt_cmpR (op_eqD hr.units) (pv 4) (pe_lst pa_nil) (nomark _)) (pw_or1 (pt_cmpR (op_neD hr.units) (pe_slice sl_tup (pe_ix ix_list (pv 4) (pe_un un_neg pe_int) (fun _ _ => rfl)) po_none (po_some pe_int)) (pe_tup (pa_cons (pv 5) (pa_cons (pv 6) pa_nil))) (nomark _))))) (pw_and1 (pt_cmpR op_gt (pe_k c_law_mix hr (by first | decide | omega) (by rfl) (pa_cons (pv 0) (pa_cons (pv 7) (pa_cons pe_int pa_nil)))) pe_int (nomark _))))))
          (pss_one (ps_expr (pe_bm PySem.F.plainAttrs_list PySem.F.slot_list_append PySem.F.type_list_append mt_append (pv 4) (pa_cons (pe_tup (pa_cons (pv 5) (pa_cons (pv 6) (pa_cons (pe_k c_law_price hr (by first | decide | omega) (by rfl) (pa_cons (pv 0) (pa_cons (pe_op op_add (pv 7) pe_int) pa_nil))) (pa_cons (pe_k c_law_price hr (by first | decide | omega) (by rfl) (pa_cons (pv 0) (pa_cons (pe_op op_add (pv 7) pe_int) pa_nil))) pa_nil))))) pa_nil))))
          pss_nil))))))
      (pss_one (ps_ret (pe_tup (pa_cons (pv 2) (pa_cons (pv 4) pa_nil)))))))), ?_⟩
    refine q_asgI (P := fun r => 11 ≤ r ∧ r ≤ 40) (vi_I0 (g := fun i j => i + j) (vi_of vl_c) (vi_at (ds := ds) (vl_var rfl) (vl_var rfl) vl_c hS hk (by decide)) (fun p q hp hq => by omega)) (fun n hn => ?_)
    refine q_asgJ (P := fun r => r ∈ [1, 1, 3, 4, 6]) (vj_pick (xs := [1, 1, 3, 4, 6]) (by decide) (va_cons vl_c (va_cons vl_c (va_cons vl_c (va_cons vl_c (va_cons vl_c va_nil))))) fun H' s' => vi_at (vl_var rfl) (vl_I0 (vl_var rfl) vl_c) vl_c (s'.seq hS) (by omega) (by decide)) (fun wd H3 s3 hwd => ?_)
    have hwd1 : 1 ≤ wd := by
      simp only [List.mem_cons, List.not_mem_nil, or_false] at hwd
      omega
    replace hS := s3.seq hS
    refine q_lnew fun o no => ?_
    refine q_forR (n := n) (va_cons (vl_var rfl) va_nil) ⟨by omega, by omega⟩
      (fun i σ H4 => ∃ y5 y6 y7 xs ls, σ = [some (.ref a), some (.int k), some (.int n), some (.int wd), some (.ref o), y5, y6, y7] ∧ H4 o = some (.lst xs) ∧ Same H3 (but H4 o) ∧ DpAll K (but H4 o) xs (ls.map lnkD) ∧ LsAt n i 0 ls ∧ ls.length ≤ 2 * i)
      ⟨_, _, _, [], [], rfl, upd_same, same_but (same_upd no) no, .nil, .nil, by simp⟩ (fun i σ H4 hi hP => ?_) (fun σ H4 hP => ?_)
    · obtain ⟨y5, y6, y7, xs, ls, rfl, ho, sm, hx, hl, hlen⟩ := hP
      refine g_forE ?_
      have hv : Va (tCons (tOp (rI0 fun i j => .int (i + j)) (tVar 5) (tC (.int 1))) (tCons (tOp (rI0 fun i j => .int (i + j)) (tVar 5) (tVar 3)) tNil)) [some (.ref a), some (.int k), some (.int n), some (.int wd), some (.ref o), some (.int (i : Int)), y6, y7] H4 [.int ((i : Int) + 1), .int ((i : Int) + wd)] := va_cons (vl_I0 (vl_var rfl) vl_c) (va_cons (vl_I0 (vl_var rfl) (vl_var rfl)) va_nil)
      refine te_sortedN (K := K) (ns := [(i : Int) + 1, (i : Int) + wd]) hv (by show 2 < 64; decide) fun cs p H5 pm srt s5 np ep => ?_
      have po : p ≠ o := fun z => by
        rw [z, ho] at np
        cases np
      have hcl : cs.length = 2 := pm.length_eq
      have hc1 : ∀ m ∈ cs, (i : Int) + 1 ≤ m := fun m hm => by
        have := pm.mem_iff.mp hm
        simp only [List.mem_cons, List.not_mem_nil, or_false] at this
        omega
      refine g_forL (K := K) (j := 6) (a := p) (xs := cs.map V.int) (fun Q k => k) (.of ep)
        (fun j σ H6 => ∃ y6 y7 xs ls c, σ = [some (.ref a), some (.int k), some (.int n), some (.int wd), some (.ref o), some (.int (i : Int)), y6, y7] ∧ H6 o = some (.lst xs) ∧ Same (but H5 o) (but H6 o) ∧ DpAll K (but H6 o) xs (ls.map lnkD) ∧ LsAt n i c ls ∧ (∀ m, cs[j]? = some m → c ≤ m + 1) ∧ ls.length ≤ 2 * i + j)
        ⟨_, _, xs, ls, 0, rfl, s5 _ _ ho, Same.refl _, DpAll.to hx (but_mono s5), hl, fun m hm => by
          have := hc1 m (List.mem_of_getElem? hm)
          omega, by omega⟩ (fun j σ H6 hP => ?_) (fun j z σ H6 hj hP => ?_) (fun σ H6 hP => ?_)
      · obtain ⟨_, _, _, _, _, _, _, s6, _⟩ := hP
        exact .of (but_same _ _ (s6 _ _ (by rw [but_ne po]; exact ep)))
      · obtain ⟨y6, y7, xs, ls, c, rfl, ho, s6, hx, hl, hc, hlen⟩ := hP
        rw [List.getElem?_map] at hj
        obtain ⟨b, hb, rfl⟩ := Option.map_eq_some_iff.mp hj
        have j2 : j < 2 := by
          have := (List.getElem?_eq_some_iff.mp hb).1
          omega
        have hcb := hc b hb
        have hib := hc1 b (List.mem_of_getElem? hb)
        have hl1 : LsAt n i (b + 1) ls := hl.mono (.inr ⟨rfl, hcb⟩)
        have nxt : ∀ m, cs[j + 1]? = some m → b + 1 ≤ m + 1 := fun m hm => by
          have g1 := (List.getElem?_eq_some_iff.mp hb)
          have g2 := (List.getElem?_eq_some_iff.mp hm)
          have := List.pairwise_iff_getElem.mp srt j (j + 1) g1.1 g2.1 (Nat.lt_succ_self _)
          rw [g1.2, g2.2] at this
          omega
        have s36 : Same H3 (but H6 o) := sm.trans ((but_mono s5).trans s6)
        have hS6 := (s36.trans but_same).seq hS
        have elen := DpAll.len hx
        rw [List.length_map] at elen
        refine q_asg (v := .int (k + 3 + 4 * (i : Int) + b - (i : Int))) (vl_I0 (g := fun i j => .int (i - j)) (vl_I0 (g := fun i j => .int (i + j)) (vl_I0 (g := fun i j => .int (i + j)) (vl_I0 (vl_var rfl) vl_c) (vl_I vl_c (vl_var rfl) (.inl ⟨by decide, by decide⟩))) (vl_var rfl)) (vl_var rfl)) ?_
        generalize hat : k + 3 + 4 * (i : Int) + b - (i : Int) = at_
        have hat0 : 0 ≤ at_ := by omega
        have fin : ∀ {y7 : Option V} {H7 : Hp}, Same H6 H7 → ∃ y6' y7' xs ls c, [some (V.ref a), some (.int k), some (.int n), some (.int wd), some (.ref o), some (.int (i : Int)), some (V.int b), y7] = [some (.ref a), some (.int k), some (.int n), some (.int wd), some (.ref o), some (.int (i : Int)), y6', y7'] ∧ H7 o = some (.lst xs) ∧ Same (but H5 o) (but H7 o) ∧ DpAll K (but H7 o) xs (ls.map lnkD) ∧ LsAt n i c ls ∧ (∀ m, cs[j + 1]? = some m → c ≤ m + 1) ∧ ls.length ≤ 2 * i + (j + 1) := fun {y7 H7} s7 => ⟨_, _, xs, ls, b + 1, rfl, s7 _ _ ho, s6.trans (but_mono s7), DpAll.to hx (but_mono s7), hl1, nxt, by omega⟩
        have shL : SeqAt.shaped (.list (ls.map lnkD)) = true := by
          have ly := lay_lnks ls
          show (PyData.canLayAll0 (ls.map lnkD) && decide (PyData.depthAll (ls.map lnkD) + 1 ≤ 64)) = true
          rw [ly.1, decide_eq_true (by have := ly.2; omega)]
          rfl
        have dL : ∀ {H' : Hp}, Same H6 H' → Dp K H' (.ref o) (.list (ls.map lnkD)) := fun s => Dp.to (.lst (.of ho) (DpAll.to hx but_same)) s
        refine g_whenP (ap_and (P1 := fun e => e = true → (i : Int) < b ∧ b < n) (ap_of (ax_of (an_test (vl_chainI (g := fun i j => decide (i < j)) (g' := fun i j => decide (i < j)) (vl_var rfl) (vl_var rfl) (vl_var rfl)))) (fun e => by
            have := Bool.and_eq_true_iff.mp e
            exact ⟨of_decide_eq_true this.1, of_decide_eq_true this.2⟩)) fun _ H7 s7 => ap_and (P1 := fun e => e = true → LsAt n i b ls) (P2 := fun _ => True) ?_ fun _ H8 s8 => ap_any (ab_I0 (vi_at (vl_var rfl) (vl_var rfl) vl_c ((s7.trans s8).seq hS6) hat0 (by decide)) vl_c)) (fun hb1 H7 s7 => ?_) (fun H7 s7 => fin s7)
        · rcases List.eq_nil_or_concat ls with e | ⟨L, l, e⟩
          · refine ap_of (b := true) (ax_or (k := true) (m := true) (fun Q k => ⟨_, rfl, Nat.zero_le _, fun U nU => ⟨.list (ls.map lnkD), .list [], dL (s7.trans (same_upd nU)), .lst (.of upd_same) .nil, shL, by rfl, _, rfl, ?_⟩⟩) fun h => by cases h) fun _ => ?_
            · rw [eqv_nil, e]
              exact k _ (same_upd nU)
            · rw [e]
              exact .nil
          · rw [List.concat_eq_append] at e
            have hxl : xs[xs.length - 1]? = some (xs[xs.length - 1]'(by rw [elen, e, List.length_append]; simp)) := List.getElem?_eq_getElem _
            have l1 : 1 ≤ xs.length := by rw [elen, e, List.length_append]; simp
            generalize xs[xs.length - 1]'(by rw [elen, e, List.length_append]; simp) = z at hxl
            obtain ⟨v', hv', dv⟩ := DpAll.get (i := xs.length - 1) (d := lnkD l) hx (by
              rw [elen, e, List.map_append, List.length_append]
              show ((L.map lnkD) ++ [lnkD l])[L.length + 1 - 1]? = _
              rw [Nat.add_sub_cancel, List.getElem?_append_right (by rw [List.length_map]; exact Nat.le_refl _), List.length_map, Nat.sub_self]
              rfl)
            cases hxl.symm.trans hv'
            obtain ⟨t, rfl, ht⟩ := Dp.lnk_inv dv
            have ht6 : SqT K H6 t (lnkV l) := seqT but_same ht
            refine ap_of (b := !decide (l.a = (i : Int) ∧ l.b = b)) (Ax.is (ax_or (k := false) (m := !decide (l.a = (i : Int) ∧ l.b = b)) (fun Q k => ⟨_, rfl, Nat.zero_le _, fun U nU => ⟨.list (ls.map lnkD), .list [], dL (s7.trans (same_upd nU)), .lst (.of upd_same) .nil, shL, by rfl, _, rfl, ?_⟩⟩) fun _ H8 s8 Q k => ?_) (Bool.false_or _)) fun hne => hl1.below fun l' hl' => ?_
            · rw [eqv_nil, decide_eq_false (by rw [e]; simp)]
              exact k _ (same_upd nU)
            · refine (vl_ixL (K := K) (vl_var rfl) (vl_neg (p := 1) vl_c) (.of ((s7.trans s8) _ _ ho)) (at_last34 hxl l1)) _ ⟨2, rfl, t, lnkV l, rfl, seqT (s7.trans s8) ht6, fun z => ?_, fun T nT => ?_⟩
              · have := z.2
                rw [show HT.sIx (lnkV l).length (lnkV l).length (some 2) = min 2 4 from HT.sIx_nat 4 4 2] at this
                exact absurd (show (2 : Nat) = 4 from this) (by decide)
              · rw [show cutV (lnkV l) none (some 2) = [.int l.a, .int l.b] from cut_to (xs := lnkV l) (n := 2) (by show 2 ≤ 4; decide)]
                refine ⟨_, rfl, _, rfl, by show 2 ≤ sizeLine; decide, fun U nU => ⟨.tuple [.int l.a, .int l.b], .tuple [.int (i : Int), .int b], .tup (.of (same_upd nU _ _ upd_same)) (.cons (.int _) (.cons (.int _) .nil)), .tup (.of upd_same) (.cons (.int _) (.cons (.int _) .nil)), by rfl, by rfl, _, rfl, ?_⟩⟩
                rw [lnk_eqv]
                exact k _ ((same_upd nT).trans (same_upd nU))
            · rw [e, List.getLast?_concat] at hl'
              cases hl'
              rw [Bool.not_eq_true', decide_eq_false_iff_not] at hne
              exact hne
        · obtain ⟨h1, h2⟩ := hb1 rfl
          obtain ⟨hib2, hbn⟩ := h1 rfl
          have hlb := (h2 rfl).1 rfl
          have hS7 := s7.seq hS6
          have ho7 := s7 _ _ ho
          refine ⟨.ref o, rfl, .inl ⟨rfl, _, .inl (.inl ho7)⟩, .int (i : Int), rfl, .int b, rfl, ?_⟩
          refine ⟨.ref a, rfl, .int at_, rfl, at_, 1, rfl, rfl, a, ds, at_ + 1, rfl, hS7, by omega, fun H5' t s5' ht => ?_⟩
          refine ⟨.ref a, rfl, .int at_, rfl, at_, 2, rfl, rfl, a, ds, at_ + 2, rfl, s5'.seq hS7, by omega, fun H8 bk s6' hbo => ?_⟩
          refine ⟨by show 4 ≤ sizeLine; decide, fun T nT => ?_⟩
          have s68 : Same H6 H8 := s7.trans (s5'.trans s6')
          have ho8 := s68 _ _ ho
          have s9 : Same H8 (upd H8 T (.tup [.int (i : Int), .int b, oV t, oV bk])) := same_upd nT
          have nTo : o ≠ T := ne_of_none ho8 nT
          refine ⟨o, xs, .ref T, rfl, rfl, s9 _ _ ho8, Nat.lt_of_le_of_lt (show xs.length ≤ 10000 by omega) (by decide), ?_⟩
          have sb : Same (but H6 o) (but (upd (upd H8 T (.tup [.int (i : Int), .int b, oV t, oV bk])) o (.lst (xs ++ [.ref T]))) o) := by
            rw [but_upd]
            exact but_mono (s68.trans s9)
          refine ⟨_, _, xs ++ [.ref T], ls ++ [⟨i, b, t, bk⟩], b + 1, rfl, upd_same, s6.trans sb, ?_, hlb.app (by omega) hib2 hbn ht hbo, nxt, ?_⟩
          · rw [List.map_append]
            refine DpAll.app (DpAll.to hx sb) (DpAll.one (Dp.lnk (l := ⟨i, b, t, bk⟩) (.of ?_)))
            rw [but_upd, but_ne nTo.symm, upd_same]
            rfl
          · rw [List.length_append]
            show ls.length + 1 ≤ 2 * i + (j + 1)
            omega
      · obtain ⟨y6, y7, xs, ls, c, rfl, ho, s6, hx, hl, hc, hlen⟩ := hP
        rw [List.length_map, hcl] at hlen
        exact ⟨_, _, _, xs, ls, rfl, ho, sm.trans ((but_mono s5).trans s6), hx, hl.mono (.inl (by omega)), by omega⟩
    · obtain ⟨y5, y6, y7, xs, ls, rfl, ho, sm, hx, hl, hlen⟩ := hP
      refine ⟨.int n, rfl, .ref o, rfl, by show 2 ≤ sizeLine; decide, fun T nT => ?_⟩
      have s4 : Same H4 (upd H4 T (.tup [.int n, .ref o])) := same_upd nT
      exact q _ _ ⟨n, ls⟩ (s3.trans ((sm.trans but_same).trans s4)) ⟨T, o, xs, rfl, upd_same, s4 _ _ ho, DpAll.to hx (but_same.trans s4)⟩ ⟨by show 1 ≤ n; omega, by show n ≤ 40; omega, hl.ok, hl.lt, by show ls.length ≤ 1600; omega⟩
end
/-! ### lists of ways with prices -/
abbrev W3 := Int × Int × Option Int
def w3V (w : W3) : List V := [.int w.1, .int w.2.1, oV w.2.2]
structure W3At (H : Hp) (ts : List V) (L : List W3) : Prop where
  len : ts.length = L.length
  at_ : ∀ (i : Nat) (w : W3), L[i]? = some w → ∃ t, ts[i]? = some (.ref t) ∧ H t = some (.tup (w3V w))
section
variable {H H' : Hp} {ts zs : List V} {L M : List W3} {D : Addr} {u : HO}
theorem W3At.to (h : W3At H ts L) (s : Same H H') : W3At H' ts L := ⟨h.len, fun i w e => let ⟨t, h1, h2⟩ := h.at_ i w e; ⟨t, h1, s _ _ h2⟩⟩
theorem W3At.upd (h : W3At H ts L) (hD : H D = some (.lst zs)) : W3At (L2.upd H D u) ts L := ⟨h.len, fun i w e => by
  obtain ⟨t, h1, h2⟩ := h.at_ i w e
  refine ⟨t, h1, ?_⟩
  rw [upd_ne (fun z => by
    rw [z, hD] at h2
    cases h2)]
  exact h2⟩
theorem W3At.app (h : W3At H ts L) (k : W3At H zs M) : W3At H (ts ++ zs) (L ++ M) := ⟨by
  rw [List.length_append, List.length_append, h.len, k.len], fun i w e => by
  by_cases hi : i < L.length
  · rw [List.getElem?_append_left hi] at e
    rw [List.getElem?_append_left (by rw [h.len]; exact hi)]
    exact h.at_ i w e
  · rw [List.getElem?_append_right (by omega)] at e
    rw [List.getElem?_append_right (by rw [h.len]; omega), h.len]
    exact k.at_ _ w e⟩
theorem W3At.nil : W3At H [] [] := ⟨rfl, fun i w e => by simp at e⟩
theorem W3At.one {t : Addr} {w : W3} (h : H t = some (.tup (w3V w))) : W3At H [.ref t] [w] := ⟨rfl, fun i a e => by
  cases i with
  | zero =>
    cases Option.some.inj e
    exact ⟨t, rfl, h⟩
  | succ i => simp at e⟩
theorem W3At.two {t1 t2 : Addr} {w1 w2 : W3} (h : H t1 = some (.tup (w3V w1))) (h2 : H t2 = some (.tup (w3V w2))) : W3At H [.ref t1, .ref t2] [w1, w2] := (W3At.one h).app (W3At.one h2)
end
section
variable {K : PySem.W.Frag} {σ : L2.St} {H : Hp} {ta te t1 t2 t3 : TE} {D : Ends} {tw tz : TS}
theorem g_forW3 {j1 j2 j3 : Nat} {a : Addr} {ts : List V} {L : List W3} {tl : TE} (h : Vl tl σ H (.ref a)) (Pv : Nat → L2.St → Hp → Prop) (h0 : Pv 0 σ H) (hl : ∀ i σ' H', Pv i σ' H' → SqL K H' a ts ∧ W3At H' ts L)
    (hs : ∀ (i : Nat) w σ H, L[i]? = some w → Pv i σ H → tz { D with nx := Pv (i + 1), ct := Pv (i + 1), bk := D.nx } (((σ.set j1 (some (.int w.1))).set j2 (some (.int w.2.1))).set j3 (some (oV w.2.2))) H) (hd : ∀ σ H, Pv L.length σ H → D.nx σ H) :
    tFor (iList K tl) (gTup K 3 (gCons (gName j1) (gCons (gName j2) (gCons (gName j3) gNil)))) tz D σ H := h _ ⟨a, rfl, ⟨_, (hl 0 σ H h0).1⟩, for_list (xs := ts) Pv h0 (fun i σ H _ p => (hl i σ H p).1) (fun i x σ H hi p => by
      have hW := (hl i σ H p).2
      have hlt : i < L.length := by
        rw [← hW.len]
        exact (List.getElem?_eq_some_iff.mp hi).1
      have hg : L[i]? = some L[i] := List.getElem?_eq_getElem hlt
      obtain ⟨t, h1, h2⟩ := hW.at_ i _ hg
      cases hi.symm.trans h1
      exact ⟨t, _, rfl, .of h2, rfl, _, _, rfl, _, _, rfl, _, _, rfl, rfl, hs i _ σ H hg p⟩) (fun σ H p => by
      rw [(hl _ σ H p).2.len] at p
      exact hd σ H p)⟩
theorem q_forW3 {j1 j2 j3 : Nat} {a : Addr} {ts : List V} {L : List W3} {tl : TE} (h : Vl tl σ H (.ref a)) (Pv : Nat → L2.St → Hp → Prop) (h0 : Pv 0 σ H) (hl : ∀ i σ' H', Pv i σ' H' → SqL K H' a ts ∧ W3At H' ts L)
    (hs : ∀ (i : Nat) w σ H, L[i]? = some w → Pv i σ H → tz { D with nx := Pv (i + 1), ct := Pv (i + 1), bk := tw D } (((σ.set j1 (some (.int w.1))).set j2 (some (.int w.2.1))).set j3 (some (oV w.2.2))) H) (hd : ∀ σ H, Pv L.length σ H → tw D σ H) :
    tSeq (tFor (iList K tl) (gTup K 3 (gCons (gName j1) (gCons (gName j2) (gCons (gName j3) gNil)))) tz) tw D σ H := g_forW3 (D := { D with nx := tw D }) h Pv h0 hl hs hd
theorem g_appT3 {l : Addr} {xs : List V} {x y z : V} (ho : Vl ta σ H (.ref l)) (hl : H l = some (.lst xs)) (h1 : Vl t1 σ H x) (h2 : Vl t2 σ H y) (h3 : Vl t3 σ H z) (hz : xs.length < sizeLine) (k : ∀ T, H T = none → D.nx σ (L2.upd (L2.upd H T (.tup [x, y, z])) l (.lst (xs ++ [.ref T])))) :
    tDrop (tBM K "list" rAppend ta (tCons (tTup (tCons t1 (tCons t2 (tCons t3 tNil)))) tNil)) D σ H := ho _ ⟨.inl ⟨rfl, _, .inl (.inl hl)⟩, h1 _ (h2 _ (h3 _ ⟨by show 3 ≤ sizeLine; decide, fun T nT => ⟨l, xs, .ref T, rfl, rfl, same_upd nT _ _ hl, hz, k T nT⟩⟩))⟩
/-- over two new tuples -/
theorem g_forTwo {g : TG} {x1 y1 z1 x2 y2 z2 : V} {a1 b1 c1 a2 b2 c2 : TE} (hx1 : ∀ H', Vl a1 σ H' x1) (hy1 : ∀ H', Vl b1 σ H' y1) (hz1 : ∀ H', Vl c1 σ H' z1) (hx2 : ∀ H', Vl a2 σ H' x2) (hy2 : ∀ H', Vl b2 σ H' y2) (hz2 : ∀ H', Vl c2 σ H' z2)
    (k : ∀ T1 T2 L H', Same H H' → H' T1 = some (.tup [x1, y1, z1]) → H' T2 = some (.tup [x2, y2, z2]) → H L = none → H' L = some (.lst [.ref T1, .ref T2]) → tFor (iList K fun _ H' Q => Q (.ref L) H') g tz D σ H') :
    tFor (iList K (tLst (tCons (tTup (tCons a1 (tCons b1 (tCons c1 tNil)))) (tCons (tTup (tCons a2 (tCons b2 (tCons c2 tNil)))) tNil)))) g tz D σ H :=
  g_forE (hx1 _ _ (hy1 _ _ (hz1 _ _ ⟨by show 3 ≤ sizeLine; decide, fun T1 n1 => hx2 _ _ (hy2 _ _ (hz2 _ _ ⟨by show 3 ≤ sizeLine; decide, fun T2 n2 => ⟨by show 2 ≤ sizeLine; decide, fun L nL => by
    have s1 := same_upd (o := .tup [x1, y1, z1]) n1
    have s2 := same_upd (o := .tup [x2, y2, z2]) n2
    have s3 := same_upd (o := .lst [.ref T1, .ref T2]) nL
    exact k T1 T2 L _ (s1.trans (s2.trans s3)) (s3 _ _ (s2 _ _ upd_same)) (s3 _ _ upd_same) (Same.free (s1.trans s2) nL) upd_same⟩⟩))⟩)))
end
/-! ### the open ways of a net -/
def bothW (l : Lnk) : List W3 := [(l.a, l.b, l.t), (l.b, l.a, l.k)]
def openW (L : List W3) : List W3 := L.filter fun w => w.2.2.isSome
def openL (ls : List Lnk) : List W3 := ls.flatMap fun l => openW (bothW l)
theorem openW_le (l : Lnk) : (openW (bothW l)).length ≤ 2 := List.length_filter_le _ _
theorem openL_snoc {ls : List Lnk} {i : Nat} {l : Lnk} (h : ls[i]? = some l) : openL (ls.take (i + 1)) = openL (ls.take i) ++ openW (bothW l) := by
  unfold openL
  rw [take_snoc h, List.flatMap_append]
  simp
theorem openL_le : ∀ ls : List Lnk, (openL ls).length ≤ 2 * ls.length
  | [] => Nat.le_refl _
  | l :: ls => by
    have := openL_le ls
    have := openW_le l
    show (openW (bothW l) ++ openL ls).length ≤ _
    rw [List.length_append, List.length_cons]
    omega
theorem openW_step {L : List W3} {i : Nat} {w : W3} (h : L[i]? = some w) : openW (L.take (i + 1)) = openW (L.take i) ++ if w.2.2.isSome = true then [w] else [] := by
  unfold openW
  rw [take_snoc h, List.filter_append]
  by_cases c : w.2.2.isSome = true
  · rw [if_pos c]
    congr 1
    rw [List.filter_cons, if_pos c]
    rfl
  · rw [if_neg c]
    congr 1
    show List.filter _ [w] = []
    rw [List.filter_eq_nil_iff]
    intro z hz
    rw [List.mem_singleton.mp hz]
    exact c
abbrev sOpen7 : Stmt := topS 29
theorem scOpen7 : FnScope ["net", "ways", "a", "b", "there", "back", "start", "stop", "price"] ["net"] (defScope sOpen7) := ⟨rfl, rfl, rfl, by decide +kernel, rfl, by decide +kernel, by decide +kernel⟩
def spOpen7 (K : PySem.W.Frag) : Sp := fun vs H Q _ => ∃ (v : V) (N : Net), vs = [v] ∧ Dp K H v (netD N) ∧ N.ls.length ≤ 1600 ∧ ∀ H' o ts, Same H H' → H o = none → H' o = some (.lst ts) → W3At H' ts (openL N.ls) → Q (.ref o) H'
section
variable {P : Program} {w : World} {K : PySem.W.Frag} {mg : Str → Option Value} {base : Heap}
theorem ok_open7 {f : Addr} {fd : FuncData} {k : Nat} (F : Fun K "_law_open" "_law_open" sOpen7 f fd) : FnOk P w K mg base CX0 (k + 1) f fd ["net"] (spOpen7 K) := by
  refine F.ok scOpen7 (fun vs H Q E h => ?_) (fun cdv A outer s H vs Q E hr h => ?_)
  · obtain ⟨v, N, rfl, _⟩ := h
    rfl
  · obtain ⟨v, N, rfl, hN, l16, q⟩ := h
    refine ⟨_, pss_cons (ps_set (i := 1) scOpen7.nd rfl (.inl rfl) (pe_lst pa_nil))
      (pss_cons (ps_for PassesOwn.never rfl (pi_list (pe_ix ix_tup (pv 0) pe_int (fun _ _ => rfl))) (pg_tup rfl (pgs_cons (pg_name (i := 2) scOpen7.nd rfl (.inl rfl)) (pgs_cons (pg_name (i := 3) scOpen7.nd rfl (.inl rfl)) (pgs_cons (pg_name (i := 4) scOpen7.nd rfl (.inl rfl)) (pgs_cons (pg_name (i := 5) scOpen7.nd rfl (.inl rfl)) pgs_nil)))))
      (pss_one (ps_for PassesOwn.never rfl (pi_list (pe_lst (pa_cons (pe_tup (pa_cons (pv 2) (pa_cons (pv 3) (pa_cons (pv 4) pa_nil)))) (pa_cons (pe_tup (pa_cons (pv 3) (pa_cons (pv 2) (pa_cons (pv 5) pa_nil)))) pa_nil)))) (pg_tup rfl (pgs_cons (pg_name (i := 6) scOpen7.nd rfl (.inl rfl)) (pgs_cons (pg_name (i := 7) scOpen7.nd rfl (.inl rfl)) (pgs_cons (pg_name (i := 8) scOpen7.nd rfl (.inl rfl)) pgs_nil))))
        (pss_one (ps_if (pt_cmpR op_notN (pv 8) pe_non (nomark _))
          (pss_one (ps_expr (pe_bm PySem.F.plainAttrs_list PySem.F.slot_list_append PySem.F.type_list_append mt_append (pv 1) (pa_cons (pe_tup (pa_cons (pv 6) (pa_cons (pv 7) (pa_cons (pv 8) pa_nil)))) pa_nil))))
          pss_nil)))))
      (pss_one (ps_ret (pv 1)))), ?_⟩
    obtain ⟨p, c, xs, rfl, hp, hc, hx⟩ := Dp.net_inv hN
    refine q_lnew fun o no => ?_
    refine q_forLnk (Hb := H) (vl_ixT (K := K) (vl_var rfl) vl_c (seqT (same_upd no) hp) (atI_nat (j := 1) rfl)) hc hx (same_upd no)
      (fun i σ H3 => ∃ y2 y3 y4 y5 y6 y7 y8 ts, σ = [some (.ref p), some (.ref o), y2, y3, y4, y5, y6, y7, y8] ∧ Same H H3 ∧ H3 o = some (.lst ts) ∧ W3At H3 ts (openL (N.ls.take i)))
      ⟨none, none, none, none, none, none, none, [], rfl, same_upd no, upd_same, .nil⟩ (fun i σ H3 hP => ?_) (fun i l σ H3 hi hP => ?_) (fun σ H3 hP => ?_)
    · obtain ⟨_, _, _, _, _, _, _, _, _, s3, _⟩ := hP
      exact s3
    · obtain ⟨y2, y3, y4, y5, y6, y7, y8, ts, rfl, s3, ho, hW⟩ := hP
      have hil := (List.getElem?_eq_some_iff.mp hi).1
      refine g_forTwo (x1 := .int l.a) (y1 := .int l.b) (z1 := oV l.t) (x2 := .int l.b) (y2 := .int l.a) (z2 := oV l.k) (fun _ => vl_var rfl) (fun _ => vl_var rfl) (fun _ => vl_var rfl) (fun _ => vl_var rfl) (fun _ => vl_var rfl) (fun _ => vl_var rfl) fun T1 T2 L H4 s4 e1 e2 nL eL => ?_
      have oL : o ≠ L := ne_of_none ho nL
      have hlen : (openL (N.ls.take i)).length ≤ 3200 := by
        have := openL_le (N.ls.take i)
        rw [List.length_take] at this
        omega
      refine g_forW3 (K := K) (a := L) (ts := [.ref T1, .ref T2]) (L := bothW l) (fun Q q => q)
        (fun j σ H5 => ∃ y6 y7 y8 ts, σ = [some (.ref p), some (.ref o), some (.int l.a), some (.int l.b), some (oV l.t), some (oV l.k), y6, y7, y8] ∧ Same (but H4 o) (but H5 o) ∧ H5 o = some (.lst ts) ∧ W3At H5 ts (openL (N.ls.take i) ++ openW ((bothW l).take j)))
        ⟨_, _, _, ts, rfl, Same.refl _, s4 _ _ ho, by rw [List.take_zero]; show W3At H4 ts (_ ++ []); rw [List.append_nil]; exact hW.to s4⟩ (fun j σ H5 hP => ?_) (fun j d σ H5 hj hP => ?_) (fun σ H5 hP => ?_)
      · obtain ⟨_, _, _, _, _, s5, _⟩ := hP
        have st : ∀ {b : Addr} {u : HO}, b ≠ o → H4 b = some u → H5 b = some u := fun hb e => but_same _ _ (s5 _ _ (by rw [but_ne hb]; exact e))
        have t1 : T1 ≠ o := fun z => by
          rw [z, s4 _ _ ho] at e1
          cases e1
        have t2 : T2 ≠ o := fun z => by
          rw [z, s4 _ _ ho] at e2
          cases e2
        exact ⟨.of (st oL.symm eL), W3At.two (w1 := (l.a, l.b, l.t)) (w2 := (l.b, l.a, l.k)) (st t1 e1) (st t2 e2)⟩
      · obtain ⟨y6, y7, y8, ts5, rfl, s5, ho5, hW5⟩ := hP
        have hj2 : j < 2 := (List.getElem?_eq_some_iff.mp hj).1
        rw [openW_step hj, ← List.append_assoc]
        obtain ⟨x, y, op⟩ := d
        cases op with
        | none =>
          refine g_when (b := false) (an_test ((vl_notN (vl_var rfl)).is rfl)) (fun z => by cases z) (fun _ => ?_)
          exact ⟨_, _, _, ts5, rfl, s5, ho5, by rw [if_neg (show ¬ (none : Option Int).isSome = true by decide), List.append_nil]; exact hW5⟩
        | some pr =>
          refine g_when (b := true) (an_test ((vl_notN (vl_var rfl)).is rfl)) (fun _ => ?_) (fun z => by cases z)
          refine g_appT3 (x := .int x) (y := .int y) (z := .int pr) (vl_var rfl) ho5 (vl_var rfl) (vl_var rfl) (vl_var rfl) ?_ fun T nT => ?_
          · have e := hW5.len
            rw [List.length_append] at e
            have : (openW ((bothW l).take j)).length ≤ 2 := Nat.le_trans (List.length_filter_le _ _) (by rw [List.length_take]; exact Nat.min_le_right _ _)
            exact Nat.lt_of_le_of_lt (m := 10000) (by omega) (by decide)
          · have sT : Same H5 (upd H5 T (.tup [.int x, .int y, .int pr])) := same_upd nT
            refine ⟨_, _, _, ts5 ++ [.ref T], rfl, ?_, upd_same, ?_⟩
            · rw [but_upd]
              exact s5.trans (but_mono sT)
            · exact ((hW5.to sT).app (W3At.one (w := (x, y, some pr)) upd_same)).upd (sT _ _ ho5)
      · obtain ⟨y6, y7, y8, ts5, rfl, s5, ho5, hW5⟩ := hP
        refine ⟨_, _, _, _, _, _, _, ts5, rfl, ?_, ho5, ?_⟩
        · intro b u e
          have bo : b ≠ o := ne_of_none e no
          exact but_same _ _ (s5 _ _ (by rw [but_ne bo]; exact s4 _ _ (s3 _ _ e)))
        · rw [openL_snoc hi]
          exact hW5
    · obtain ⟨y2, y3, y4, y5, y6, y7, y8, ts, rfl, s3, ho, hW⟩ := hP
      rw [List.take_length] at hW
      exact g_ret (vl_var rfl) (q H3 o ts s3 no ho hW)
end
/-! ### the law's filling of one way -/
section
variable {K : PySem.W.Frag} {σ : L2.St} {H : Hp} {ta tb td te : TE} {D : Ends} {tw tz : TS}
theorem an_dinI {o : Addr} {x : Int} {kvs : List (L2.Key × V)} (h1 : Vl ta σ H (.int x)) (h2 : Vl td σ H (.ref o)) (hd : H o = some (.dK kvs)) : An (tB (tDIn ta td)) σ H (valV kvs (.inl x)).isSome := fun Q k => h1 _ (h2 _ ⟨o, _, rfl, DGet.k (k := .inl x) hd, _, rfl, k⟩)
theorem an_dnI7 {o : Addr} {x : Int} {kvs : List (L2.Key × V)} (h1 : Vl ta σ H (.int x)) (h2 : Vl td σ H (.ref o)) (hd : H o = some (.dK kvs)) : An (tB (tDNotIn ta td)) σ H (!(valV kvs (.inl x)).isSome) := fun Q k => h1 _ (h2 _ ⟨o, _, rfl, DGet.k (k := .inl x) hd, _, rfl, k⟩)
theorem an_better {b : Option Int} {t : Int} (hb : Vl ta σ H (oV b)) (ht : Vl te σ H (.int t)) : An (tOr (tTest (tOp (fun x y H Q => y = V.non ∧ Q (V.bl (decide (x = V.non))) H) ta (tC .non))) (tTest (tOp (rI0 fun i j => .bl (decide (i < j))) te ta))) σ H (better b t) := by
  cases b with
  | none => exact an_or (k := true) (m := true) (an_test ((vl_isN hb).is rfl)) fun h => by cases h
  | some e => exact (an_or (k := false) (m := decide (t < e)) (an_test ((vl_isN hb).is rfl)) fun _ => an_test (vl_I0 (g := fun i j => .bl (decide (i < j))) ht hb)).is (Bool.false_or _)
theorem an_betterD {o : Addr} {x t : Int} {f : Int → Option Int} {kvs : List (L2.Key × V)} (hx : Vl ta σ H (.int x)) (ho : Vl td σ H (.ref o)) (ht : Vl te σ H (.int t)) (hd : H o = some (.dK kvs)) (hf : valV kvs (.inl x) = (f x).map V.int) :
    An (tOr (tB (tDNotIn ta td)) (tTest (tOp (rI0 fun i j => .bl (decide (i < j))) te (tDGet td ta)))) σ H (better (f x) t) := by
  cases e : f x with
  | none =>
    rw [e] at hf
    exact an_or (k := true) (m := true) ((an_dnI7 hx ho hd).is (by rw [hf]; rfl)) fun h => by cases h
  | some d =>
    rw [e] at hf
    exact (an_or (k := false) (m := decide (t < d)) ((an_dnI7 hx ho hd).is (by rw [hf]; rfl)) fun _ => an_test (vl_I0 (g := fun i j => .bl (decide (i < j))) ht (vl_dgetI ho hx hd hf))).is (Bool.false_or _)
theorem q_dputV7 {tv : TE} {v : V} {o : Addr} {p : Int} {kvs : List (L2.Key × V)} (hv : Vl tv σ H v) (ho : Vl td σ H (.ref o)) (hk : Vl te σ H (.int p)) (hd : H o = some (.dK kvs)) (hl : kvs.length < sizeLine)
    (k : tw D σ (L2.upd H o (.dK (putK kvs (.inl p) v)))) : tSeq (sDPut td te tv) tw D σ H := g_dputV (D := { D with nx := tw D }) hv ho hk hd hl k
theorem g_whenEq {o B : Addr} {ks ls : List (L2.Key × V)} (ho : Vl ta σ H (.ref o)) (hb : Vl tb σ H (.ref B)) (e1 : H o = some (.dK ks)) (e2 : H B = some (.dK ls)) (i1 : IntV ks) (i2 : IntV ls) (h1 : SameD ks ls → tz D σ H) (h2 : D.nx σ H) : tIfS (tTest (tOp rEqI ta tb)) tz tNext D σ H :=
  ho _ (hb _ ⟨o, B, ks, ls, rfl, rfl, e1, e2, i1, i2, fun r hr => ⟨r, rfl, by
    cases r with
    | true => exact iteT (h1 (hr.mp rfl))
    | false => exact iteF h2⟩⟩)
end
theorem rel1_some {rk : Int → Nat} {bound : Nat} {x y : Int} {st : St7} {w : Int × Int × Int} {p : Int} (h : (st.1 p).isSome = true) : ((rel1 rk bound x y st w).1 p).isSome = true := by
  unfold rel1
  cases e : st.1 w.1 with
  | none => exact h
  | some d =>
    dsimp only
    split
    · dsimp only
      split
      · unfold setF
        split
        · rfl
        · exact h
      · exact h
    · exact h
theorem fold_some {rk : Int → Nat} {bound : Nat} {x y : Int} (ws : List (Int × Int × Int)) (st : St7) {p : Int} (h : (st.1 p).isSome = true) : ((ws.foldl (rel1 rk bound x y) st).1 p).isSome = true :=
  foldl_ind (C := fun st => (st.1 p).isSome = true) ws st h fun st w _ h => rel1_some h
def w3of (w : Int × Int × Int) : W3 := (w.1, w.2.1, some w.2.2)
abbrev sFilled7 : Stmt := topS 30
theorem scFilled7 : FnScope ["net", "ways", "rank", "x", "y", "bound", "sums", "best", "turn", "before", "start", "stop", "price", "total"] ["net", "ways", "rank", "x", "y"] (defScope sFilled7) := ⟨rfl, rfl, rfl, by decide +kernel, rfl, by decide +kernel, by decide +kernel⟩
def spFilled7 (K : PySem.W.Frag) : Sp := fun vs H Q _ => ∃ (v : V) (N : Net) (wp rd : Addr) (ts : List V) (ws : List (Int × Int × Int)) (os : List Int) (x y : Int), vs = [v, .ref wp, .ref rd, .int x, .int y] ∧ Dp K H v (netD N) ∧ NetOk N ∧ SqL K H wp ts ∧ W3At H ts (ws.map w3of) ∧ RankAt H rd os ∧
  x ∈ os ∧ y ∈ os ∧ (∀ w ∈ ws, w.1 ∈ os ∧ w.2.1 ∈ os) ∧ ws.length ≤ 3200 ∧ ∀ H' o, Same H H' → FillR (fun p => posOf p os) (min (posOf x os) (posOf y os)) x y ws N.n.toNat o → Q (oV o) H'
section
variable {P : Program} {w : World} {K : PySem.W.Frag} {mg : Str → Option Value} {base : Heap}
theorem ok_filled7 {f : Addr} {fd : FuncData} {k : Nat} (F : Fun K "_law_filled" "_law_filled" sFilled7 f fd) (mr : mg "range" = none) (mm : mg "min" = none) (md : mg "dict" = none) : FnOk P w K mg base CX0 (k + 1) f fd ["net", "ways", "rank", "x", "y"] (spFilled7 K) := by
  refine F.ok scFilled7 (fun vs H Q E h => ?_) (fun cdv A outer s H vs Q E hr h => ?_)
  · obtain ⟨v, N, wp, rd, ts, ws, os, x, y, rfl, _⟩ := h
    rfl
  · obtain ⟨v, N, wp, rd, ts, ws, os, x, y, rfl, hN, ok, hwp, hW, hR, hxo, hyo, hwo, hwl, q⟩ := h
    have hu := hu_of hr
    refine ⟨_, pss_cons (ps_set (i := 5) scFilled7.nd rfl (.inl rfl) (pe_callB (call_min2 rfl) (by rfl) mm (by decide +kernel) (pa_cons (pe_dget hu (pv 2) (pv 3) (fun _ _ => rfl)) (pa_cons (pe_dget hu (pv 2) (pv 4) (fun _ _ => rfl)) pa_nil))))
      (pss_cons (ps_set (i := 6) scFilled7.nd rfl (.inl rfl) pe_dnewK)
      (pss_cons (ps_dput hu (pv 6) (pv 3) pe_int rfl)
      (pss_cons (ps_set (i := 7) scFilled7.nd rfl (.inl rfl) pe_non)
      (pss_cons (ps_for PassesOwn.never rfl (pi_range1 (by rfl) mr (pa_cons (pe_ix ix_tup (pv 0) pe_int (fun _ _ => rfl)) pa_nil)) (pg_name (i := 8) scFilled7.nd rfl (.inl rfl))
      (pss_cons (ps_set (i := 9) scFilled7.nd rfl (.inl rfl) (pe_callTy call_dictD (by rfl) md (by decide +kernel) (pa_cons (pv 6) pa_nil)))
        (pss_cons (ps_for PassesOwn.never rfl (pi_list (pv 1)) (pg_tup rfl (pgs_cons (pg_name (i := 10) scFilled7.nd rfl (.inl rfl)) (pgs_cons (pg_name (i := 11) scFilled7.nd rfl (.inl rfl)) (pgs_cons (pg_name (i := 12) scFilled7.nd rfl (.inl rfl)) pgs_nil))))
        (pss_one (ps_if (PW.pt (pw_and (pt_cmp (pc_din hu (pv 10) (pv 6))) (pw_and1 (PW.pt (pw_or (pt_cmpR op_eq (pv 10) (pv 3) (nomark _)) (pw_or1 (pt_cmpR op_lt (pe_dget hu (pv 2) (pv 10) (fun _ _ => rfl)) (pv 5) (nomark _))))))))
          (pss_cons (ps_set (i := 13) scFilled7.nd rfl (.inl rfl) (pe_op op_add (pe_dget hu (pv 6) (pv 10) (fun _ _ => rfl)) (pv 12)))
            (Evl.pss_cut (ps_if (PW.pt (pw_and (pt_cmpR op_eq (pv 11) (pv 4) (nomark _)) (pw_and1 (PW.pt (pw_or (pt_cmpR op_isN (pv 7) pe_non (nomark _)) (pw_or1 (pt_cmpR op_lt (pv 13) (pv 7) (nomark _))))))))
            (pss_one (ps_set (i := 7) scFilled7.nd rfl (.inl rfl) (pv 13)))
            pss_nil)
            (pss_one (ps_if (PW.pt (pw_and (pt_cmpR op_lt (pe_dget hu (pv 2) (pv 11) (fun _ _ => rfl)) (pv 5) (nomark _)) (pw_and1 (PW.pt (pw_or (pt_cmp (pc_dnotin hu (pv 11) (pv 6))) (pw_or1 (pt_cmpR op_lt (pv 13) (pe_dget hu (pv 6) (pv 11) (fun _ _ => rfl)) (nomark _))))))))
            (pss_one (ps_dput hu (pv 6) (pv 11) (pv 13) rfl))
            pss_nil))))
          pss_nil)))
        (pss_one (ps_if (pt_cmpR (op_eqI hr.units0) (pv 6) (pv 9) (nomark _))
        (pss_one (ps_ret (pv 7)))
        pss_nil)))))
      (pss_one (ps_ret (pv 7))))))), ?_⟩
    obtain ⟨p, c, xs, rfl, hp, hc, hx⟩ := Dp.net_inv hN
    have n40 := ok.n40
    have n1 := ok.n1
    obtain ⟨rv, erd, hrv⟩ := hR.ex
    generalize hrk : (fun p => posOf p os) = rk at q
    have rkp : ∀ z, rk z = posOf z os := fun z => by rw [← hrk]
    generalize hbd : min (posOf x os) (posOf y os) = bd at q
    have hbv : (if ((posOf y os : Nat) : Int) < (posOf x os : Nat) then ((posOf y os : Nat) : Int) else (posOf x os : Nat)) = ((bd : Nat) : Int) := by
      rw [← hbd]
      split <;> omega
    refine q_asg (v := .int (bd : Nat)) ((vl_min2 (vl_dgetI (vl_var rfl) (vl_var rfl) erd (hrv x hxo)) (vl_dgetI (vl_var rfl) (vl_var rfl) erd (hrv y hyo))).is (by rw [hbv])) ?_
    refine q_dnewK fun o no => ?_
    have rdo : rd ≠ o := ne_of_none erd no
    refine q_dputV7 (v := .int 0) (p := x) vl_c (vl_var rfl) (vl_var rfl) upd_same (by show 0 < sizeLine; decide) ?_
    refine q_asg vl_c ?_
    have s0 : Same H (but (upd (upd H o (.dK [])) o (.dK (putK [] (.inl x) (.int 0)))) o) := by
      rw [but_upd, but_upd]
      exact same_but (Same.refl _) no
    have f0 : SumAt (upd (upd H o (.dK [])) o (.dK (putK [] (.inl x) (.int 0)))) o (stK rk bd x y ws 0).1 1 := ⟨_, upd_same, Nat.le_refl 1, put_ints (fun p hp => absurd hp List.not_mem_nil) x 0, fun z => by
      rw [valV_put]
      show _ = (setF (fun _ => none) x 0 z).map V.int
      unfold setF
      by_cases c : z = x
      · rw [if_pos (by rw [c]), if_pos c]
        rfl
      · rw [if_neg (fun e => c (Sum.inl.inj e)), if_neg c]
        rfl⟩
    generalize upd (upd H o (.dK [])) o (.dK (putK [] (.inl x) (.int 0))) = H1 at s0 f0
    refine q_forR (n := N.n) (va_cons (vl_ixT (K := K) (vl_var rfl) vl_c (seqT (s0.trans but_same) hp) (atI_nat (j := 0) rfl)) va_nil) ⟨by omega, by omega⟩
      (fun i σ H3 => ∃ y8 y9 y10 y11 y12 y13, σ = [some (.ref p), some (.ref wp), some (.ref rd), some (.int x), some (.int y), some (.int (bd : Nat)), some (.ref o), some (oV (stK rk bd x y ws i).2), y8, y9, y10, y11, y12, y13] ∧ Same H (but H3 o) ∧ SumAt H3 o (stK rk bd x y ws i).1 (1 + 3200 * i))
      ⟨_, _, _, _, _, _, rfl, s0, f0⟩ (fun i σ H3 hi hP => ?_) (fun σ H3 hP => ?_)
    · obtain ⟨y8, y9, y10, y11, y12, y13, rfl, s3, hF⟩ := hP
      obtain ⟨kv0, eo0, kl0, ki0, kf0⟩ := hF.ex
      refine q_asgE ⟨.ref o, rfl, o, kv0, rfl, .inl eo0, fun B nB => ?_⟩
      have oB : o ≠ B := ne_of_none eo0 nB
      have sB : Same H3 (upd H3 B (.dK kv0)) := same_upd nB
      have eB : upd H3 B (.dK kv0) B = some (.dK kv0) := upd_same
      generalize upd H3 B (.dK kv0) = H4 at sB eB
      have s4 : Same H (but H4 o) := s3.trans (but_mono sB)
      refine q_forW3 (K := K) (a := wp) (ts := ts) (L := ws.map w3of) (vl_var rfl)
        (fun j σ H5 => ∃ y10 y11 y12 y13, σ = [some (.ref p), some (.ref wp), some (.ref rd), some (.int x), some (.int y), some (.int (bd : Nat)), some (.ref o), some (oV ((ws.take j).foldl (rel1 rk bd x y) (stK rk bd x y ws i)).2), some (.int (i : Int)), some (.ref B), y10, y11, y12, y13] ∧ Same (but H4 o) (but H5 o) ∧ SumAt H5 o ((ws.take j).foldl (rel1 rk bd x y) (stK rk bd x y ws i)).1 (1 + 3200 * i + j))
        ⟨_, _, _, _, rfl, Same.refl _, hF.to sB⟩ (fun j σ H5 hP => ?_) (fun j w3 σ H5 hj hP => ?_) (fun σ H5 hP => ?_)
      · obtain ⟨_, _, _, _, _, s5, _⟩ := hP
        have sH5 := (s4.trans s5).trans but_same
        exact ⟨sH5.seq hwp, hW.to sH5⟩
      · obtain ⟨y10, y11, y12, y13, rfl, s5, hF5⟩ := hP
        have sH5 := (s4.trans s5).trans but_same
        rw [List.getElem?_map] at hj
        obtain ⟨w', hw', rfl⟩ := Option.map_eq_some_iff.mp hj
        have hjl := (List.getElem?_eq_some_iff.mp hw').1
        obtain ⟨ws1, ws2⟩ := hwo w' (List.mem_of_getElem? hw')
        have est : (ws.take (j + 1)).foldl (rel1 rk bd x y) (stK rk bd x y ws i) = rel1 rk bd x y ((ws.take j).foldl (rel1 rk bd x y) (stK rk bd x y ws i)) w' := by
          rw [take_snoc hw', List.foldl_append]
          rfl
        rw [est]
        generalize (ws.take j).foldl (rel1 rk bd x y) (stK rk bd x y ws i) = st at hF5
        obtain ⟨g, b⟩ := st
        obtain ⟨s, t, pr⟩ := w'
        obtain ⟨kv, eo, kl, ki, kf⟩ := hF5.ex
        have erd5 := sH5 _ _ erd
        have fin : ∀ {y11 y12 y13 : Option V}, rel1 rk bd x y (g, b) (s, t, pr) = (g, b) → ∃ y10' y11' y12' y13', [some (V.ref p), some (.ref wp), some (.ref rd), some (.int x), some (.int y), some (.int (bd : Nat)), some (.ref o), some (oV b), some (.int (i : Int)), some (.ref B), some (.int s), y11, y12, y13] = [some (.ref p), some (.ref wp), some (.ref rd), some (.int x), some (.int y), some (.int (bd : Nat)), some (.ref o), some (oV (rel1 rk bd x y (g, b) (s, t, pr)).2), some (.int (i : Int)), some (.ref B), y10', y11', y12', y13'] ∧ Same (but H4 o) (but H5 o) ∧ SumAt H5 o (rel1 rk bd x y (g, b) (s, t, pr)).1 (1 + 3200 * i + (j + 1)) := fun {y11 y12 y13} e => ⟨_, _, _, _, by rw [e], s5, by rw [e]; exact hF5.grow (by omega)⟩
        refine g_when (b := (valV kv (.inl s)).isSome && (decide (V.int s = V.int x) || decide (((posOf s os : Nat) : Int) < (bd : Nat)))) (an_and (an_dinI (vl_var rfl) (vl_var rfl) eo) fun _ => an_or (an_test (vl_eq (vl_var rfl) (vl_var rfl) rfl)) fun _ => an_test (vl_I0 (g := fun i j => .bl (decide (i < j))) (vl_dgetI (vl_var rfl) (vl_var rfl) erd5 (hrv s ws1)) (vl_var rfl))) (fun hc => ?_) (fun hc => fin ?_)
        · rw [Bool.and_eq_true, kf] at hc
          obtain ⟨hc1, hc2⟩ := hc
          have hc1 : ((g s).map V.int).isSome = true := hc1
          cases eg : g s with
          | none =>
            rw [eg] at hc1
            cases hc1
          | some d =>
            have hok : s = x ∨ rk s < bd := by
              rw [Bool.or_eq_true, dI, decide_eq_true_eq, decide_eq_true_eq] at hc2
              rw [rkp]
              exact hc2.imp id fun h => by omega
            have er : rel1 rk bd x y (g, b) (s, t, pr) = (if rk t < bd ∧ better (g t) (d + pr) = true then setF g t (d + pr) else g, if t = y ∧ better b (d + pr) = true then some (d + pr) else b) := by
              unfold rel1
              dsimp only
              rw [eg]
              dsimp only
              rw [if_pos hok]
            have egk : valV kv (.inl s) = some (.int d) := by
              have := kf s
              have eg' : g s = some d := eg
              rw [show ((g, b) : St7).1 s = some d from eg'] at this
              exact this
            refine q_asg (v := .int (d + pr)) (vl_I0 (g := fun i j => .int (i + j)) (vl_dgetI (vl_var rfl) (vl_var rfl) eo egk) (vl_var rfl)) ?_
            rw [er]
            refine q_cut (M := fun σ' H' => σ' = [some (.ref p), some (.ref wp), some (.ref rd), some (.int x), some (.int y), some (.int (bd : Nat)), some (.ref o), some (oV (if t = y ∧ better b (d + pr) = true then some (d + pr) else b)), some (.int (i : Int)), some (.ref B), some (.int s), some (.int t), some (.int pr), some (.int (d + pr))] ∧ H' = H5) ?_ ?_
            · refine g_when (b := decide (V.int t = V.int y) && better b (d + pr)) (an_and (an_test (vl_eq (vl_var rfl) (vl_var rfl) rfl)) fun _ => an_better (vl_var rfl) (vl_var rfl)) (fun h => ?_) (fun h => ?_)
              · rw [Bool.and_eq_true, dI, decide_eq_true_eq] at h
                rw [if_pos h]
                exact g_asg (vl_var rfl) ⟨rfl, rfl⟩
              · rw [dI] at h
                rw [if_neg (fun z => by
                  rw [z.2, decide_eq_true z.1] at h
                  cases h)]
                exact ⟨rfl, rfl⟩
            · rintro σ' H' ⟨rfl, rfl⟩
              refine g_when (b := decide (((posOf t os : Nat) : Int) < (bd : Nat)) && better (g t) (d + pr)) (an_and (an_test (vl_I0 (g := fun i j => .bl (decide (i < j))) (vl_dgetI (vl_var rfl) (vl_var rfl) erd5 (hrv t ws2)) (vl_var rfl))) fun _ => an_betterD (f := g) (vl_var rfl) (vl_var rfl) (vl_var rfl) eo (kf t)) (fun h => ?_) (fun h => ?_)
              · rw [Bool.and_eq_true, decide_eq_true_eq] at h
                have h' : rk t < bd ∧ better (g t) (d + pr) = true := ⟨by rw [rkp]; omega, h.2⟩
                rw [if_pos h']
                refine g_dputV (v := .int (d + pr)) (p := t) (vl_var rfl) (vl_var rfl) (vl_var rfl) eo (Nat.lt_of_le_of_lt (m := 200000) (by omega) (by decide)) ?_
                refine ⟨_, _, _, _, rfl, by rw [but_upd]; exact s5, ⟨_, upd_same, ?_, put_ints ki t (d + pr), fun z => ?_⟩⟩
                · have := length_putK kv (Sum.inl t) (V.int (d + pr))
                  omega
                · rw [valV_put, kf]
                  show _ = (if z = t then some (d + pr) else g z).map V.int
                  by_cases c : z = t
                  · rw [if_pos (by rw [c]), if_pos c]
                    rfl
                  · rw [if_neg (fun e => c (Sum.inl.inj e)), if_neg c]
              · have h' : ¬ (rk t < bd ∧ better (g t) (d + pr) = true) := fun z => by
                  rw [rkp] at z
                  rw [z.2, decide_eq_true (by omega)] at h
                  cases h
                rw [if_neg h']
                exact ⟨_, _, _, _, rfl, s5, hF5.grow (by omega)⟩
        · unfold rel1
          dsimp only
          cases eg : g s with
          | none => rfl
          | some d =>
            dsimp only
            rw [if_neg]
            intro z
            rw [kf, Bool.and_eq_false_iff] at hc
            rcases hc with hc | hc
            · have hc : ((g s).map V.int).isSome = false := hc
              rw [eg] at hc
              cases hc
            · rw [Bool.or_eq_false_iff, dI, decide_eq_false_iff_not, decide_eq_false_iff_not] at hc
              rw [rkp] at z
              rcases z with z | z
              · exact hc.1 z
              · exact hc.2 (by omega)
      · obtain ⟨y10, y11, y12, y13, rfl, s5, hF5⟩ := hP
        rw [List.length_map, List.take_length] at hF5
        rw [List.length_map, List.take_length]
        have sH5 := (s4.trans s5).trans but_same
        obtain ⟨kv, eo, kl, ki, kf⟩ := hF5.ex
        have eB5 : H5 B = some (.dK kv0) := but_same _ _ (s5 _ _ (by rw [but_ne oB.symm]; exact eB))
        refine g_whenEq (vl_var rfl) (vl_var rfl) eo eB5 (ints_of ki) (ints_of ki0) (fun hs => ?_) ?_
        · refine g_ret (vl_var rfl) (q H5 _ sH5 (.inl ⟨i, by omega, ?_, rfl⟩))
          funext z
          show (ws.foldl (rel1 rk bd x y) (stK rk bd x y ws i)).1 z = _
          have h1 := sameD_fun ki kf kf0 hs z
          cases e1 : (ws.foldl (rel1 rk bd x y) (stK rk bd x y ws i)).1 z with
          | some d => exact (h1 d e1).symm
          | none =>
            cases e2 : (stK rk bd x y ws i).1 z with
            | none => rfl
            | some d =>
              have := fold_some (rk := rk) (bound := bd) (x := x) (y := y) ws (stK rk bd x y ws i) (p := z) (by rw [e2]; rfl)
              rw [e1] at this
              cases this
        · exact ⟨_, _, _, _, _, _, rfl, s4.trans s5, hF5.grow (by omega)⟩
    · obtain ⟨y8, y9, y10, y11, y12, y13, rfl, s3, hF⟩ := hP
      exact g_ret (vl_var rfl) (q H3 _ (s3.trans but_same) (.inr rfl))
end
/-! ### the law's sums and its answer -/
theorem sum1_some {z : Int} {f : Int → Option Int} {w : W3} {p : Int} (h : (f p).isSome = true) : (sum1 z f w p).isSome = true := by
  unfold sum1
  split
  · cases w.2.2 with
    | none => exact h
    | some pr =>
      cases f z with
      | none => exact h
      | some d =>
        dsimp only
        split
        · unfold setF
          split
          · rfl
          · exact h
        · exact h
  · exact h
/-- the test of a way with or without a price -/
def betterO (pr o : Option Int) (d : Int) : Bool := match pr with
  | some p => better o (d + p)
  | none => true
abbrev sSums7 : Stmt := topS 31
theorem scSums7 : FnScope ["ways", "start", "order", "sums", "place", "low", "high", "price"] ["ways", "start", "order"] (defScope sSums7) := ⟨rfl, rfl, rfl, by decide +kernel, rfl, by decide +kernel, by decide +kernel⟩
def spSums7 (K : PySem.W.Frag) : Sp := fun vs H Q _ => ∃ (wp po : Addr) (ts : List V) (L : List W3) (s : Int) (os : List Int), vs = [.ref wp, .int s, .ref po] ∧ SqL K H wp ts ∧ W3At H ts L ∧ SqL K H po (os.map V.int) ∧ L.length ≤ 1600 ∧ os.length ≤ 40 ∧
  ∀ H' d c, Same H H' → H d = none → SumAt H' d (sumsF L s os) c → Q (.ref d) H'
section
variable {P : Program} {w : World} {K : PySem.W.Frag} {mg : Str → Option Value} {base : Heap}
theorem ok_sums7 {f : Addr} {fd : FuncData} {k : Nat} (F : Fun K "_law_sums" "_law_sums" sSums7 f fd) : FnOk P w K mg base CX0 (k + 1) f fd ["ways", "start", "order"] (spSums7 K) := by
  refine F.ok scSums7 (fun vs H Q E h => ?_) (fun cdv A outer s H vs Q E hr h => ?_)
  · obtain ⟨wp, po, ts, L, s, os, rfl, _⟩ := h
    rfl
  · obtain ⟨wp, po, ts, L, x, os, rfl, hwp, hW, hS, hL, hos, q⟩ := h
    have hu := hu_of hr
    refine ⟨_, pss_cons (ps_set (i := 3) scSums7.nd rfl (.inl rfl) pe_dnewK)
      (pss_cons (ps_dput hu (pv 3) (pv 1) pe_int rfl)
      (pss_cons (ps_for PassesOwn.never rfl (pi_list (pv 2)) (pg_name (i := 4) scSums7.nd rfl (.inl rfl))
      (pss_one (ps_if (pt_cmp (pc_din hu (pv 4) (pv 3)))
        (pss_one (ps_for PassesOwn.never rfl (pi_list (pv 0)) (pg_tup rfl (pgs_cons (pg_name (i := 5) scSums7.nd rfl (.inl rfl)) (pgs_cons (pg_name (i := 6) scSums7.nd rfl (.inl rfl)) (pgs_cons (pg_name (i := 7) scSums7.nd rfl (.inl rfl)) pgs_nil))))
          (pss_one (ps_if (PW.pt (pw_and (pt_cmpR op_eq (pv 5) (pv 4) (nomark _)) (pw_and (pt_cmpR op_notN (pv 7) pe_non (nomark _)) (pw_and1 (PW.pt (pw_or (pt_cmp (pc_dnotin hu (pv 6) (pv 3))) (pw_or1 (pt_cmpR op_lt (pe_op op_add (pe_dget hu (pv 3) (pv 4) (fun _ _ => rfl)) (pv 7)) (pe_dget hu (pv 3) (pv 6) (fun _ _ => rfl)) (nomark _)))))))))
            (pss_one (ps_dput hu (pv 3) (pv 6) (pe_op op_add (pe_dget hu (pv 3) (pv 4) (fun _ _ => rfl)) (pv 7)) rfl))
            pss_nil))))
        pss_nil)))
      (pss_one (ps_ret (pv 3))))), ?_⟩
    refine q_dnewK fun o no => ?_
    refine q_dputV7 (v := .int 0) (p := x) vl_c (vl_var rfl) (vl_var rfl) upd_same (by show 0 < sizeLine; decide) ?_
    have s0 : Same H (but (upd (upd H o (.dK [])) o (.dK (putK [] (.inl x) (.int 0)))) o) := by
      rw [but_upd, but_upd]
      exact same_but (Same.refl _) no
    have f0 : SumAt (upd (upd H o (.dK [])) o (.dK (putK [] (.inl x) (.int 0)))) o (setF (fun _ => none) x 0) 1 := ⟨_, upd_same, Nat.le_refl 1, put_ints (fun p hp => absurd hp List.not_mem_nil) x 0, fun z => by
      rw [valV_put]
      unfold setF
      by_cases c : z = x
      · rw [if_pos (by rw [c]), if_pos c]
        rfl
      · rw [if_neg (fun e => c (Sum.inl.inj e)), if_neg c]
        rfl⟩
    generalize upd (upd H o (.dK [])) o (.dK (putK [] (.inl x) (.int 0))) = H1 at s0 f0
    refine q_forL (K := K) (xs := os.map V.int) (vl_var rfl) ((s0.trans but_same).seq hS)
      (fun i σ H3 => ∃ y4 y5 y6 y7, σ = [some (.ref wp), some (.int x), some (.ref po), some (.ref o), y4, y5, y6, y7] ∧ Same H (but H3 o) ∧ SumAt H3 o ((os.take i).foldl (sumP L) (setF (fun _ => none) x 0)) (1 + 1600 * i))
      ⟨_, _, _, _, rfl, s0, f0⟩ (fun i σ H3 hP => ?_) (fun i z σ H3 hi hP => ?_) (fun σ H3 hP => ?_)
    · obtain ⟨_, _, _, _, _, s3, _⟩ := hP
      exact (s3.trans but_same).seq hS
    · obtain ⟨y4, y5, y6, y7, rfl, s3, hF⟩ := hP
      rw [List.getElem?_map] at hi
      obtain ⟨pl, hpl, rfl⟩ := Option.map_eq_some_iff.mp hi
      have hil := (List.getElem?_eq_some_iff.mp hpl).1
      rw [show (os.take (i + 1)).foldl (sumP L) (setF (fun _ => none) x 0) = sumP L ((os.take i).foldl (sumP L) (setF (fun _ => none) x 0)) pl by
        rw [take_snoc hpl, List.foldl_append]
        rfl]
      generalize (os.take i).foldl (sumP L) (setF (fun _ => none) x 0) = g at hF
      obtain ⟨kv, eo, kl, ki, kf⟩ := hF.ex
      refine g_when (b := (valV kv (.inl pl)).isSome) (an_dinI (vl_var rfl) (vl_var rfl) eo) (fun hc => ?_) (fun hc => ?_)
      · have hg : (g pl).isSome = true := by
          rw [kf] at hc
          rw [← hc]
          cases g pl <;> rfl
        refine g_forW3 (K := K) (a := wp) (ts := ts) (L := L) (vl_var rfl)
          (fun j σ H5 => ∃ y5 y6 y7, σ = [some (.ref wp), some (.int x), some (.ref po), some (.ref o), some (.int pl), y5, y6, y7] ∧ Same (but H3 o) (but H5 o) ∧ SumAt H5 o ((L.take j).foldl (sum1 pl) g) (1 + 1600 * i + j) ∧ ((L.take j).foldl (sum1 pl) g pl).isSome = true)
          ⟨_, _, _, rfl, Same.refl _, hF, hg⟩ (fun j σ H5 hP => ?_) (fun j w3 σ H5 hj hP => ?_) (fun σ H5 hP => ?_)
        · obtain ⟨_, _, _, _, s5, _⟩ := hP
          have sH5 := (s3.trans s5).trans but_same
          exact ⟨sH5.seq hwp, hW.to sH5⟩
        · obtain ⟨y5, y6, y7, rfl, s5, hF5, hp5⟩ := hP
          have hjl := (List.getElem?_eq_some_iff.mp hj).1
          rw [show (L.take (j + 1)).foldl (sum1 pl) g = sum1 pl ((L.take j).foldl (sum1 pl) g) w3 by
            rw [take_snoc hj, List.foldl_append]
            rfl]
          generalize (L.take j).foldl (sum1 pl) g = g5 at hF5 hp5
          have hp6 := sum1_some (z := pl) (w := w3) hp5
          obtain ⟨lo, hi2, pr⟩ := w3
          obtain ⟨kv5, eo5, kl5, ki5, kf5⟩ := hF5.ex
          cases eg : g5 pl with
          | none =>
            rw [eg] at hp5
            cases hp5
          | some d =>
            have egk : valV kv5 (.inl pl) = some (.int d) := by
              have := kf5 pl
              rw [eg] at this
              exact this
            refine g_when (b := decide (V.int lo = V.int pl) && (!decide (oV pr = V.non) && betterO pr (g5 hi2) d)) (an_and (an_test (vl_eq (vl_var rfl) (vl_var rfl) rfl)) fun _ => an_and (an_test (vl_notN (vl_var rfl))) fun hpn => ?_) (fun hb => ?_) (fun hb => ?_)
            · cases pr with
              | none => cases hpn
              | some p => exact an_betterD (f := g5) (vl_var rfl) (vl_var rfl) (vl_I0 (g := fun i j => .int (i + j)) (vl_dgetI (vl_var rfl) (vl_var rfl) eo5 egk) (vl_var rfl)) eo5 (kf5 hi2)
            · rw [Bool.and_eq_true, dI, decide_eq_true_eq] at hb
              obtain ⟨rfl, hb⟩ := hb
              cases pr with
              | none => cases hb
              | some p =>
                have hb : better (g5 hi2) (d + p) = true := by
                  rw [Bool.and_eq_true] at hb
                  exact hb.2
                have e1 : sum1 lo g5 (lo, hi2, some p) = setF g5 hi2 (d + p) := by
                  unfold sum1
                  dsimp only
                  rw [if_pos rfl, eg]
                  dsimp only
                  rw [if_pos hb]
                rw [e1] at hp6 ⊢
                refine g_dputV (v := .int (d + p)) (p := hi2) (vl_I0 (g := fun i j => .int (i + j)) (vl_dgetI (vl_var rfl) (vl_var rfl) eo5 egk) (vl_var rfl)) (vl_var rfl) (vl_var rfl) eo5 (Nat.lt_of_le_of_lt (m := 100000) (by omega) (by decide)) ?_
                refine ⟨_, _, _, rfl, by rw [but_upd]; exact s5, ⟨_, upd_same, ?_, put_ints ki5 hi2 (d + p), fun z => ?_⟩, hp6⟩
                · have := length_putK kv5 (Sum.inl hi2) (V.int (d + p))
                  omega
                · rw [valV_put, kf5]
                  unfold setF
                  by_cases c : z = hi2
                  · rw [if_pos (by rw [c]), if_pos c]
                    rfl
                  · rw [if_neg (fun e => c (Sum.inl.inj e)), if_neg c]
            · have e1 : sum1 pl g5 (lo, hi2, pr) = g5 := by
                unfold sum1
                dsimp only
                split
                · rename_i elo
                  cases pr with
                  | none => rfl
                  | some p =>
                    rw [eg]
                    dsimp only
                    rw [if_neg]
                    intro hb2
                    rw [elo, decide_eq_true rfl] at hb
                    have hb : (true && (true && better (g5 hi2) (d + p))) = false := hb
                    rw [hb2] at hb
                    cases hb
                · rfl
              rw [e1]
              exact ⟨_, _, _, rfl, s5, hF5.grow (by omega), by rw [eg]; rfl⟩
        · obtain ⟨y5, y6, y7, rfl, s5, hF5, hp5⟩ := hP
          rw [List.take_length] at hF5
          refine ⟨_, _, _, _, rfl, s3.trans s5, ?_⟩
          have e1 : sumP L g pl = L.foldl (sum1 pl) g := by
            unfold sumP
            rw [if_pos hg]
          rw [e1]
          exact hF5.grow (by omega)
      · have hg : ¬ (g pl).isSome = true := fun z => by
          rw [kf] at hc
          cases e : g pl with
          | none =>
            rw [e] at z
            cases z
          | some d =>
            rw [e] at hc
            cases hc
        have e1 : sumP L g pl = g := by
          unfold sumP
          rw [if_neg hg]
        rw [e1]
        exact ⟨_, _, _, _, rfl, s3, hF.grow (by omega)⟩
    · obtain ⟨y4, y5, y6, y7, rfl, s3, hF⟩ := hP
      rw [List.length_map, List.take_length] at hF
      refine g_ret (vl_var rfl) (q H3 o _ (s3.trans but_same) no hF)
end
theorem mk_call {sp : Sp} {te : TE} {tr : TA} {σ : L2.St} {H : Hp} {E : XK} {Q : VK} (h : te σ H fun x H1 => tr σ H1 fun xs H2 => sp ((x :: xs) ++ []) H2 Q E) : tCall sp [] E (tCons te tr) σ H Q := h
/-- [(u, v, g) for u, v in pairs] -/
theorem lc_trip {K : PySem.W.Frag} {σ : L2.St} {H : Hp} {tl t1 t2 t3 : TE} {js : List Nat} {j1 j2 : Nat} {F : List (Int × Int)} {ts : List V} {fp : Addr} {g : Int → Int → Option Int} {Q : VK} (hl : Vl tl σ H (.ref fp)) (hx : H fp = some (.lst ts)) (hT : TupsAt H ts F) (hz : F.length ≤ 1600)
    (hw : ∀ u v : Int, wipe (((wipe σ js).set j1 (some (.int u))).set j2 (some (.int v))) js = wipe σ js)
    (h1 : ∀ u v H', Vl t1 (((wipe σ js).set j1 (some (.int u))).set j2 (some (.int v))) H' (.int u)) (h2 : ∀ u v H', Vl t2 (((wipe σ js).set j1 (some (.int u))).set j2 (some (.int v))) H' (.int v))
    (h3 : ∀ u v, (u, v) ∈ F → ∀ H', Same H H' → Ve t3 (((wipe σ js).set j1 (some (.int u))).set j2 (some (.int v))) H' (oV (g u v)))
    (k : ∀ D zs H', Same H H' → H D = none → H' D = some (.lst zs) → W3At H' zs (trip F g) → Q (.ref D) H') :
    tLc (iList K tl) (gTup K 2 (gCons (gName j1) (gCons (gName j2) gNil))) tYes (tTup (tCons t1 (tCons t2 (tCons t3 tNil)))) js σ H Q := by
  refine hl _ ⟨fp, rfl, ⟨_, .of hx⟩, fun D nD => lc_list (K := K) (a := fp) (xs := ts) (fun k H' => ∃ zs, H' D = some (.lst zs) ∧ Same H H' ∧ W3At H' zs (trip (F.take k) g)) ⟨[], upd_same, same_upd nD, W3At.nil⟩ (fun k H' _ hP => .of (hP.choose_spec.2.1 _ _ hx)) (fun k x H' hk hP => ?_) (fun H' hP => ?_)⟩
  · obtain ⟨zs, hD, s', hW⟩ := hP
    have hlt : k < F.length := by
      rw [← hT.len]
      exact (List.getElem?_eq_some_iff.mp hk).1
    have hg : F[k]? = some F[k] := List.getElem?_eq_getElem hlt
    generalize F[k] = p at hg
    obtain ⟨u, v⟩ := p
    obtain ⟨t, h4, h5⟩ := hT.at_ k u v hg
    cases hk.symm.trans h4
    refine ⟨t, _, rfl, .of (s' _ _ h5), rfl, _, _, rfl, _, _, rfl, rfl, hw u v, iteT (B := ∃ zs, H' D = some (.lst zs) ∧ Same H H' ∧ W3At H' zs (trip (F.take (k + 1)) g)) ?_⟩
    refine h1 u v H' _ (h2 u v H' _ (h3 u v (List.mem_of_getElem? hg) H' s' _ fun H2 s2 => ⟨by show 3 ≤ sizeLine; decide, fun T nT => ⟨zs, ?_, ?_, zs ++ [.ref T], upd_same, ?_, ?_⟩⟩))
    · exact same_upd nT _ _ (s2 _ _ hD)
    · have e := hW.len
      unfold trip at e
      rw [List.length_map, List.length_take] at e
      exact Nat.lt_of_le_of_lt (m := 10000) (by omega) (by decide)
    · exact same_upd' ((s'.trans s2).trans (same_upd nT)) nD
    · have e : trip (F.take (k + 1)) g = trip (F.take k) g ++ [(u, v, g u v)] := by
        unfold trip
        rw [take_snoc hg, List.map_append]
        rfl
      rw [e]
      exact (((hW.to s2).to (same_upd nT)).app (W3At.one (w := (u, v, g u v)) upd_same)).upd (same_upd nT _ _ (s2 _ _ hD))
  · obtain ⟨zs, hD, s', hW⟩ := hP
    rw [hT.len, List.take_length] at hW
    exact k D zs H' s' nD hD hW
/-- the dict of filled-in prices -/
structure FillD (H : Hp) (d : Addr) (F : List (Int × Int)) (g : Int → Int → Option Int) : Prop where
  ex : ∃ kvs : List (List L2.Key × V), H d = some (.dT kvs) ∧ ∀ a b, (a, b) ∈ F → valV kvs (K2 (a, b)) = some (oV (g a b)) ∧ valV kvs (K2 (b, a)) = some (oV (g b a))
theorem FillD.to {H H' : Hp} {d : Addr} {F : List (Int × Int)} {g : Int → Int → Option Int} (h : FillD H d F g) (s : Same H H') : FillD H' d F g := by
  obtain ⟨kvs, e, v⟩ := h.ex
  exact ⟨kvs, s _ _ e, v⟩
theorem FillD.sub {H : Hp} {d : Addr} {F G : List (Int × Int)} {g : Int → Int → Option Int} (h : FillD H d F g) (s : ∀ p ∈ G, p ∈ F) : FillD H d G g := by
  obtain ⟨kvs, e, v⟩ := h.ex
  exact ⟨kvs, e, fun a b hab => v a b (s _ hab)⟩
theorem ve_dget7 {σ : L2.St} {H : Hp} {td ta tb : TE} {o : Addr} {kvs : List (List L2.Key × V)} {x y : Int} {v : V} (ho : Vl td σ H (.ref o)) (h1 : Vl ta σ H (.int x)) (h2 : Vl tb σ H (.int y)) (hd : H o = some (.dT kvs)) (hv : valV kvs (K2 (x, y)) = some v) : Ve (tDGet td (tTup (tCons ta (tCons tb tNil)))) σ H v := fun Q q =>
  ho _ (h1 _ (h2 _ ⟨by show 2 ≤ sizeLine; decide, fun T nT => ⟨o, v, rfl, by
    rw [← hv]
    exact DGet.t (k := K2 (x, y)) (same_upd nT _ _ hd) upd_same, q _ (same_upd nT)⟩⟩))
theorem totF_map {a b : Int → Option Int} {os : List Int} : (totF a b os).map V.int = (os.filter fun p => (a p).isSome && (b p).isSome).map fun p => V.int ((a p).getD 0 + (b p).getD 0) := by
  induction os with
  | nil => rfl
  | cons p r ih =>
    unfold totF at ih ⊢
    rw [List.filterMap_cons, List.filter_cons]
    cases ea : a p with
    | none =>
      cases b p <;> exact ih
    | some i =>
      cases eb : b p with
      | none => exact ih
      | some j =>
        show V.int (i + j) :: _ = V.int ((a p).getD 0 + (b p).getD 0) :: _
        rw [ea, eb, ih]
        rfl
theorem vn_lcP {K : PySem.W.Frag} {σ : L2.St} {H : Hp} {tl te : TE} {tt : TT} {j : Nat} {ns : List Int} {pb : Int → Bool} {f : Int → V} (hl : ∀ Q : VK, (∀ a H1, Same H H1 → SqL K H1 a (ns.map V.int) → Q (.ref a) H1) → tl σ H Q) (hz : ns.length ≤ 1000000)
    (ht : ∀ x ∈ ns, ∀ H', Same H H' → An tt ((σ.set j none).set j (some (.int x))) H' (pb x)) (he : ∀ x ∈ ns, pb x = true → ∀ H', Same H H' → Vl te ((σ.set j none).set j (some (.int x))) H' (f x)) :
    Vn (tLc (iList K tl) (gName j) tt te [j]) σ H ((ns.filter pb).map f) := fun Q q => by
  refine hl _ fun a H1 s1 hx => ⟨a, rfl, ⟨_, hx⟩, fun D nD => lc_list (xs := ns.map V.int) (fun i H' => H' D = some (.lst (((ns.take i).filter pb).map f)) ∧ Same H1 H') ⟨upd_same, same_upd nD⟩ (fun i H' _ hP => hP.2.seq hx) (fun i x H2 hi hP => ?_) (fun H2 hP => ?_)⟩
  · obtain ⟨hD, s2⟩ := hP
    rw [List.getElem?_map] at hi
    cases hg : ns[i]? with
    | none =>
      rw [hg] at hi
      cases hi
    | some n =>
      rw [hg] at hi
      cases hi
      have hm := List.mem_of_getElem? hg
      have e : (ns.take (i + 1)).filter pb = (ns.take i).filter pb ++ [n].filter pb := by
        rw [take_snoc hg]
        exact List.filter_append ..
      refine ⟨?_, ht n hm H2 (s1.trans s2) _ ?_⟩
      · show ((σ.set j none).set j (some (V.int n))).set j none = σ.set j none
        rw [List.set_set, List.set_set]
      · cases hp : pb n with
        | true =>
          have e2 : [n].filter pb = [n] := by
            rw [List.filter_cons, hp]
            rfl
          refine iteT (B := H2 D = some (.lst (((ns.take (i + 1)).filter pb).map f)) ∧ Same H1 H2) (he n hm hp H2 (s1.trans s2) _ ⟨_, hD, ?_, ?_, same_upd' s2 nD⟩)
          · rw [List.length_map]
            have h1 : ((ns.take i).filter pb).length ≤ ns.length := Nat.le_trans (List.length_filter_le _ _) (by rw [List.length_take]; exact Nat.min_le_right _ _)
            exact Nat.lt_of_le_of_lt (m := 1000000) (by omega) (by decide)
          · rw [upd_same, e, e2, List.map_append]
            rfl
        | false =>
          have e2 : [n].filter pb = [] := by
            rw [List.filter_cons, hp]
            rfl
          refine iteF ⟨?_, s2⟩
          rw [e, e2, List.append_nil]
          exact hD
  · obtain ⟨hD, s2⟩ := hP
    rw [List.length_map, List.take_length] at hD
    exact q D H2 (s1.trans s2) (Same.free s1 nD) hD
abbrev sAnswer7 : Stmt := topS 32
theorem scAnswer7 : FnScope ["filled", "order", "found", "s", "t", "ups", "downs", "totals", "place", "u", "v"] ["filled", "order", "found", "s", "t"] (defScope sAnswer7) := ⟨rfl, rfl, rfl, by decide +kernel, rfl, by decide +kernel, by decide +kernel⟩
def spAnswer7 (K : PySem.W.Frag) : Sp := fun vs H Q _ => ∃ (fd po fp : Addr) (ts : List V) (F : List (Int × Int)) (g : Int → Int → Option Int) (s t : Int) (os : List Int), vs = [.ref fd, .ref po, .ref fp, .int s, .int t] ∧ FillD H fd F g ∧ SqL K H po (os.map V.int) ∧ H fp = some (.lst ts) ∧ TupsAt H ts F ∧ F.length ≤ 1600 ∧ os.length ≤ 40 ∧
  ((totF (sumsF (trip F g) s os) (sumsF (trip F fun a b => g b a) t os) os = [] ∧ ∀ H', Same H H' → Q .non H') ∨ ∃ m, totF (sumsF (trip F g) s os) (sumsF (trip F fun a b => g b a) t os) os = [m] ∧ ∀ H', Same H H' → Q (.int m) H')
section
variable {P : Program} {w : World} {K : PySem.W.Frag} {mg : Str → Option Value} {base : Heap}
theorem ok_answer7 {f : Addr} {fd : FuncData} {k : Nat} (F : Fun K "_law_answer" "_law_answer" sAnswer7 f fd) (c_law_sums : Kal P w K mg base k "_law_sums" ["ways", "start", "order"] (spSums7 K)) (ml : mg "len" = none) (mm : mg "min" = none) : FnOk P w K mg base CX0 (k + 1) f fd ["filled", "order", "found", "s", "t"] (spAnswer7 K) := by
  refine F.ok scAnswer7 (fun vs H Q E h => ?_) (fun cdv A outer s H vs Q E hr h => ?_)
  · obtain ⟨fd, po, fp, ts, F, g, s, t, os, rfl, _⟩ := h
    rfl
  · obtain ⟨fd, po, fp, ts, F, g, s, t, os, rfl, hF, hS, ef, hT, hFl, hos, q⟩ := h
    have hu := hu_of hr
    refine ⟨_, pss_cons (ps_set (i := 5) scAnswer7.nd rfl (.inr rfl) (pe_k c_law_sums hr (by first | decide | omega) (by rfl) (pa_cons (pe_lc (own := [("u", 9), ("v", 10)]) (g := gTup K 2 (gCons (gName 9) (gCons (gName 10) (gNil)))) (tt := tYes) (te := (tTup (tCons (tVar 9) (tCons (tVar 10) (tCons (tDGet (tVar 0) (tTup (tCons (tVar 9) (tCons (tVar 10) tNil)))) tNil))))) (by rfl) scAnswer7.nd (pi_list (pv 2)) (blkOk_by (own := [("u", 9), ("v", 10)]) (N := ["filled", "order", "found", "s", "t", "ups", "downs", "totals", "place", "u", "v"]) (sc := defScope sAnswer7) (by decide +kernel)) (fun _ _ _ _ _ => pg_tup rfl (pgs_cons (pg_name (i := 9) scAnswer7.nd rfl (Or.inl rfl)) (pgs_cons (pg_name (i := 10) scAnswer7.nd rfl (Or.inl rfl)) pgs_nil))) (fun _ _ _ _ _ => by exact pts_nil) (fun _ _ _ _ _ => by exact (pe_tup (pa_cons (pv 9) (pa_cons (pv 10) (pa_cons (pe_dget hu (pv 0) (pe_tup (pa_cons (pv 9) (pa_cons (pv 10) pa_nil))) (fun _ _ => rfl)) pa_nil)))))) (pa_cons (pv 3) (pa_cons (pv 1) pa_nil)))))
      (pss_cons (ps_set (i := 6) scAnswer7.nd rfl (.inr rfl) (pe_k c_law_sums hr (by first | decide | omega) (by rfl) (pa_cons (pe_lc (own := [("u", 9), ("v", 10)]) (g := gTup K 2 (gCons (gName 9) (gCons (gName 10) (gNil)))) (tt := tYes) (te := (tTup (tCons (tVar 9) (tCons (tVar 10) (tCons (tDGet (tVar 0) (tTup (tCons (tVar 10) (tCons (tVar 9) tNil)))) tNil))))) (by rfl) scAnswer7.nd (pi_list (pv 2)) (blkOk_by (own := [("u", 9), ("v", 10)]) (N := ["filled", "order", "found", "s", "t", "ups", "downs", "totals", "place", "u", "v"]) (sc := defScope sAnswer7) (by decide +kernel)) (fun _ _ _ _ _ => pg_tup rfl (pgs_cons (pg_name (i := 9) scAnswer7.nd rfl (Or.inl rfl)) (pgs_cons (pg_name (i := 10) scAnswer7.nd rfl (Or.inl rfl)) pgs_nil))) (fun _ _ _ _ _ => by exact pts_nil) (fun _ _ _ _ _ => by exact (pe_tup (pa_cons (pv 9) (pa_cons (pv 10) (pa_cons (pe_dget hu (pv 0) (pe_tup (pa_cons (pv 10) (pa_cons (pv 9) pa_nil))) (fun _ _ => rfl)) pa_nil)))))) (pa_cons (pv 4) (pa_cons (pv 1) pa_nil)))))
      (pss_cons (ps_setLc (i := 7) (own := [("place", 8)]) (g := gName 8) (tt := (tAnd (tB (tDIn (tVar 8) (tVar 5))) (tB (tDIn (tVar 8) (tVar 6))))) (te := (tOp (rI0 fun i j => .int (i + j)) (tDGet (tVar 5) (tVar 8)) (tDGet (tVar 6) (tVar 8)))) (by rfl) scAnswer7.nd rfl rfl (sw_true rfl rfl rfl (by decide +kernel)) (pi_list (pv 1)) (blkOk_by (own := [("place", 8)]) (N := ["filled", "order", "found", "s", "t", "ups", "downs", "totals", "place", "u", "v"]) (sc := defScope sAnswer7) (by decide +kernel)) (fun _ _ _ _ _ => pg_name (i := 8) scAnswer7.nd rfl (Or.inl rfl)) (fun _ _ _ _ _ => by exact (pts_one (PW.pt (pw_and (pt_cmp (pc_din hu (pv 8) (pv 5))) (pw_and1 (pt_cmp (pc_din hu (pv 8) (pv 6)))))))) (fun _ _ _ _ _ => by exact (pe_op op_add (pe_dget hu (pv 5) (pv 8) (fun _ _ => rfl)) (pe_dget hu (pv 6) (pv 8) (fun _ _ => rfl)))))
      (pss_cons (ps_if (pt_cmpR op_eq (pe_callB call_len_seq (by rfl) ml PySem.boot_len (pa_cons (pv 7) pa_nil)) pe_int (nomark _))
      (pss_one (ps_ret pe_non))
      pss_nil)
      (pss_one (ps_ret (pe_callB (cr_min rfl) (by rfl) mm (by decide +kernel) (pa_cons (pv 7) pa_nil))))))), ?_⟩
    obtain ⟨fv, efd, hfv⟩ := hF.ex
    refine q_asgE (mk_call (lc_trip (K := K) (g := g) (vl_var rfl) ef hT hFl (fun _ _ => rfl) (fun _ _ _ => vl_var rfl) (fun _ _ _ => vl_var rfl) (fun u v huv H' s' => ve_dget7 (vl_var rfl) (vl_var rfl) (vl_var rfl) (s' _ _ efd) (hfv u v huv).1) fun D1 z1 H1 s1 n1 e1 w1 => ?_))
    refine ⟨.int s, rfl, .ref po, rfl, D1, po, z1, trip F g, s, os, rfl, .of e1, w1, s1.seq hS, by unfold trip; rw [List.length_map]; exact hFl, hos, fun H2 up c2 s2 nup hup => ?_⟩
    have s12 := s1.trans s2
    refine q_asgE (mk_call (lc_trip (K := K) (g := fun a b => g b a) (vl_var rfl) (s12 _ _ ef) (hT.to s12) hFl (fun _ _ => rfl) (fun _ _ _ => vl_var rfl) (fun _ _ _ => vl_var rfl) (fun u v huv H' s' => ve_dget7 (vl_var rfl) (vl_var rfl) (vl_var rfl) ((s12.trans s') _ _ efd) (hfv u v huv).2) fun D2 z2 H3 s3 n2 e2 w2 => ?_))
    have s13 := s12.trans s3
    refine ⟨.int t, rfl, .ref po, rfl, D2, po, z2, trip F fun a b => g b a, t, os, rfl, .of e2, w2, s13.seq hS, by unfold trip; rw [List.length_map]; exact hFl, hos, fun H4 dn c4 s4 ndn hdn => ?_⟩
    have s14 := s13.trans s4
    have hup4 := hup.to (s3.trans s4)
    generalize sumsF (trip F g) s os = a at q hup4
    generalize sumsF (trip F fun a b => g b a) t os = b at q hdn
    obtain ⟨ku, eu, _, _, fu⟩ := hup4.ex
    obtain ⟨kd, ed, _, _, fdn⟩ := hdn.ex
    refine q_asgN (vn_lcP (K := K) (ns := os) (pb := fun p => (a p).isSome && (b p).isSome) (f := fun p => V.int ((a p).getD 0 + (b p).getD 0)) (vx_list (vl_var rfl) (s14.seq hS)) (Nat.le_trans hos (by decide)) (fun x hx H' s' => an_and ((an_dinI (vl_var rfl) (vl_var rfl) (s' _ _ eu)).is ?_) fun _ => (an_dinI (vl_var rfl) (vl_var rfl) (s' _ _ ed)).is ?_) (fun x hx hp H' s' => ?_)) fun D H5 s5 nD eD => ?_
    · rw [fu]
      cases a x <;> rfl
    · rw [fdn]
      cases b x <;> rfl
    · rw [Bool.and_eq_true] at hp
      cases ea : a x with
      | none =>
        rw [ea] at hp
        cases hp.1
      | some i =>
        cases eb : b x with
        | none =>
          rw [eb] at hp
          cases hp.2
        | some j =>
          refine vl_I0 (g := fun i j => .int (i + j)) (vl_dgetI (vl_var rfl) (vl_var rfl) (s' _ _ eu) ?_) (vl_dgetI (vl_var rfl) (vl_var rfl) (s' _ _ ed) ?_)
          · rw [fu, ea]
            rfl
          · rw [fdn, eb]
            rfl
    · rw [← totF_map] at eD
      have s15 := s14.trans s5
      refine q_when (b := decide (V.int ((totF a b os).length : Nat) = V.int 0)) (an_test (vl_eq (vl_lenI (K := K) (vl_var rfl) (.of eD)) vl_c rfl)) (fun hb => ?_) (fun hb => ?_)
      · rw [dI, decide_eq_true_eq] at hb
        rcases q with ⟨e, q⟩ | ⟨m, e, q⟩
        · exact g_ret vl_c (q H5 s15)
        · rw [e] at hb
          simp at hb
      · rw [dI, decide_eq_false_iff_not] at hb
        rcases q with ⟨e, q⟩ | ⟨m, e, q⟩
        · rw [e] at hb
          exact absurd rfl hb
        · refine ⟨.ref D, rfl, D, _, rfl, .of eD, by rw [e]; simp, fun m' hm _ => ?_⟩
          rw [e] at hm
          rw [List.mem_singleton.mp hm]
          exact q H5 s15
end
/-! ### the law's fewest links -/
structure LayL (N : Net) (os : List Int) (a : Int) (S0 : List Int) (D : Int → Prop) (fur seen : List Int) : Prop where
  fm : ∀ y, y ∈ fur ↔ y ∉ S0 ∧ posOf y os < posOf a os ∧ D y
  sm : ∀ y, y ∈ seen ↔ y ∈ S0 ∨ y ∈ fur
  nd : seen.Nodup
  rg : ∀ y ∈ seen, 0 ≤ y ∧ y < N.n
  fl : fur.length ≤ seen.length
section
variable {N : Net} {os : List Int} {a : Int} {S0 fur seen : List Int} {D D' : Int → Prop}
theorem LayL.is (h : LayL N os a S0 D fur seen) (e : ∀ y, D' y ↔ D y) : LayL N os a S0 D' fur seen := ⟨fun y => by rw [h.fm, e], h.sm, h.nd, h.rg, h.fl⟩
theorem LayL.sl (h : LayL N os a S0 D fur seen) : seen.length ≤ N.n.toNat := by
  have := sub_len (ys := rng N.n) h.nd fun x hx => mem_rng.mpr (h.rg x hx)
  rw [len_rng] at this
  exact this
theorem LayL.skip (h : LayL N os a S0 D fur seen) {y0 : Int} (hn : ¬ (posOf y0 os < posOf a os ∧ y0 ∉ seen)) : LayL N os a S0 (fun y => D y ∨ y = y0) fur seen := ⟨fun y => by
  rw [h.fm]
  constructor
  · rintro ⟨h1, h2, h3⟩
    exact ⟨h1, h2, .inl h3⟩
  · rintro ⟨h1, h2, h3 | h3⟩
    · exact ⟨h1, h2, h3⟩
    · subst h3
      have hs : y ∈ seen := Classical.byContradiction fun z => hn ⟨h2, z⟩
      rcases (h.sm y).mp hs with z | z
      · exact absurd z h1
      · exact (h.fm y).mp z, h.sm, h.nd, h.rg, h.fl⟩
theorem LayL.put (h : LayL N os a S0 D fur seen) {y0 : Int} (hl : posOf y0 os < posOf a os) (hs : y0 ∉ seen) (hr : 0 ≤ y0 ∧ y0 < N.n) : LayL N os a S0 (fun y => D y ∨ y = y0) (fur ++ [y0]) (seen ++ [y0]) := ⟨fun y => by
  rw [List.mem_append, List.mem_singleton, h.fm]
  constructor
  · rintro (⟨h1, h2, h3⟩ | e)
    · exact ⟨h1, h2, .inl h3⟩
    · subst e
      exact ⟨fun z => hs ((h.sm y).mpr (.inl z)), hl, .inr rfl⟩
  · rintro ⟨h1, h2, h3 | h3⟩
    · exact .inl ⟨h1, h2, h3⟩
    · exact .inr h3, fun y => by
  rw [List.mem_append, List.mem_append, h.sm, or_assoc], nodup_snoc h.nd hs, fun y hy => by
  rcases List.mem_append.mp hy with hy | hy
  · exact h.rg y hy
  · rw [List.mem_singleton.mp hy]
    exact hr, by
  rw [List.length_append, List.length_append]
  exact Nat.succ_le_succ h.fl⟩
end
abbrev sFewest : Stmt := topS 33
theorem scFewest : FnScope ["net", "rank", "u", "v", "linked", "near", "seen", "many", "further", "place", "other"] ["net", "rank", "u", "v"] (defScope sFewest) := ⟨rfl, rfl, rfl, by decide +kernel, rfl, by decide +kernel, by decide +kernel⟩
def spFewest (K : PySem.W.Frag) : Sp := fun vs H Q _ => ∃ (v : V) (N : Net) (rd : Addr) (os : List Int) (a b : Int), vs = [v, .ref rd, .int a, .int b] ∧ Dp K H v (netD N) ∧ NetOk N ∧ RankAt H rd os ∧ OrdOk N.n os ∧ PairP N.ls os a b ∧
  ∀ H' r m, Same H H' → witF (nbN N) (lowU os a) a b (N.n.toNat + 1) = some r → WitP N os a b r m → Q (.int (m : Nat)) H'
section
variable {P : Program} {w : World} {K : PySem.W.Frag} {mg : Str → Option Value} {base : Heap}
theorem ok_fewest {f : Addr} {fd : FuncData} {k : Nat} (F : Fun K "_law_fewest" "_law_fewest" sFewest f fd) (c_law_linked : Kal P w K mg base k "_law_linked" ["net"] (spLinked K)) (mr : mg "range" = none) : FnOk P w K mg base CX0 (k + 1) f fd ["net", "rank", "u", "v"] (spFewest K) := by
  refine F.ok scFewest (fun vs H Q E h => ?_) (fun cdv A outer s H vs Q E hr h => ?_)
  · obtain ⟨v, N, rd, os, a, b, rfl, _⟩ := h
    rfl
  · obtain ⟨v, N, rd, os, a, b, rfl, hN, ok, hR, oo, hP, q⟩ := h
    have hu := hu_of hr
    refine ⟨_, pss_cons (ps_set (i := 4) scFewest.nd rfl (.inl rfl) (pe_k c_law_linked hr (by first | decide | omega) (by rfl) (pa_cons (pv 0) pa_nil)))
      (pss_cons (ps_set (i := 5) scFewest.nd rfl (.inl rfl) (pe_lst (pa_cons (pv 2) pa_nil)))
      (pss_cons (ps_set (i := 6) scFewest.nd rfl (.inl rfl) (pe_lst (pa_cons (pv 2) pa_nil)))
      (pss_cons (ps_for PassesOwn.never rfl (pi_range2 (by rfl) mr (pa_cons pe_int (pa_cons (pe_op op_add (pe_ix ix_tup (pv 0) pe_int (fun _ _ => rfl)) pe_int) pa_nil))) (pg_name (i := 7) scFewest.nd rfl (.inl rfl))
      (pss_cons (ps_set (i := 8) scFewest.nd rfl (.inl rfl) (pe_lst pa_nil))
        (pss_cons (ps_for PassesOwn.never rfl (pi_list (pv 5)) (pg_name (i := 9) scFewest.nd rfl (.inl rfl))
        (pss_one (ps_for PassesOwn.never rfl (pi_list (pe_dget hu (pv 4) (pv 9) (fun _ _ => rfl))) (pg_name (i := 10) scFewest.nd rfl (.inl rfl))
          (pss_cons (ps_if (pt_cmpR op_eq (pv 10) (pv 3) (nomark _))
            (pss_one (ps_ret (pv 7)))
            pss_nil)
            (pss_one (ps_if (PW.pt (pw_and (pt_cmpR op_lt (pe_dget hu (pv 1) (pv 10) (fun _ _ => rfl)) (pe_dget hu (pv 1) (pv 2) (fun _ _ => rfl)) (nomark _)) (pw_and1 (pt_cmpR op_notIn_seq (pv 10) (pv 6) (by rfl)))))
            (pss_cons (ps_expr (pe_bm PySem.F.plainAttrs_list PySem.F.slot_list_append PySem.F.type_list_append mt_append (pv 6) (pa_cons (pv 10) pa_nil)))
              (pss_one (ps_expr (pe_bm PySem.F.plainAttrs_list PySem.F.slot_list_append PySem.F.type_list_append mt_append (pv 8) (pa_cons (pv 10) pa_nil)))))
            pss_nil))))))
        (pss_one (ps_set (i := 5) scFewest.nd rfl (.inl rfl) (pv 8))))))
      (pss_one (ps_ret pe_non))))), ?_⟩
    obtain ⟨p, c, xs, rfl, hp, hc, hx⟩ := Dp.net_inv hN
    have n40 := ok.n40
    have n1 := ok.n1
    have hin := hP.ins ok
    refine q_asgE ⟨.ref p, rfl, .ref p, N, rfl, hN, ok, fun H1 lk s1 hL => ?_⟩
    refine q_asgN (vn_oneI (vl_var rfl)) fun nr H2 s2 nnr enr => ?_
    refine q_asgN (vn_oneI (vl_var rfl)) fun so H3 s3 nso eso => ?_
    have sH3 := s1.trans (s2.trans s3)
    have hL3 := hL.to (s2.trans s3)
    have nrso : nr ≠ so := ne_of_none enr nso
    have enr3 := s3 _ _ enr
    obtain ⟨rv, erd, hrv⟩ := (hR.to (s1.trans s2)).ex
    obtain ⟨lv, elk, _, hlv⟩ := (hL.to s2).ex
    have s03 : Same H2 (but H3 so) := same_but s3 nso
    have hp2 := seqT (s1.trans s2) hp
    refine q_forR2 (lo := 1) (n := N.n + 1) (va_cons vl_c (va_cons (vl_I0 (g := fun i j => .int (i + j)) (vl_ixT (K := K) (vl_var rfl) vl_c (seqT sH3 hp) (atI_nat (j := 0) rfl)) vl_c) va_nil)) ⟨by omega, by omega, by omega, by omega⟩
      (fun i σ H4 => ∃ y7 y8 y9 y10 nr near seen, σ = [some (.ref p), some (.ref rd), some (.int a), some (.int b), some (.ref lk), some (.ref nr), some (.ref so), y7, y8, y9, y10] ∧ Same H2 (but H4 so) ∧ nr ≠ so ∧ H4 nr = some (.lst ((near : List Int).map V.int)) ∧ H4 so = some (.lst ((seen : List Int).map V.int)) ∧ LayS N os a b i near seen ∧ (∀ y ∈ near, 0 ≤ y ∧ y < N.n) ∧ seen.Nodup ∧ ∀ y ∈ seen, 0 ≤ y ∧ y < N.n)
      ⟨_, _, _, _, nr, [a], [a], rfl, s03, nrso, enr3, eso, LayS.zero, fun y hy => by rw [List.mem_singleton.mp hy]; exact hin.1, List.nodup_cons.mpr ⟨List.not_mem_nil, List.nodup_nil⟩, fun y hy => by rw [List.mem_singleton.mp hy]; exact hin.1⟩ (fun i σ H4 hi hP4 => ?_) (fun σ H4 hP4 => ?_)
    · obtain ⟨y7, y8, y9, y10, nr, near, seen, rfl, s4, nrso, enr, eso, hS, hnr, snd, srg⟩ := hP4
      have hin' : i < N.n.toNat := by omega
      refine q_lnew fun fo nfo => ?_
      have sof : so ≠ fo := ne_of_none eso nfo
      have nrf : nr ≠ fo := ne_of_none enr nfo
      have b0 : Same H2 (B2 (upd H4 fo (.lst [])) so fo) := fun x u e => by
        have e' := s4 _ _ e
        have xs' : x ≠ so := fun z => by
          rw [z] at e'
          unfold but at e'
          rw [if_pos rfl] at e'
          cases e'
        have e2 : H4 x = some u := but_same _ _ e'
        have xf : x ≠ fo := ne_of_none e2 nfo
        exact b2_get (by rw [upd_ne xf]; exact e2) xs' xf
      refine q_forL (K := K) (xs := near.map V.int) (vl_var rfl) (.of ((upd_ne nrf).trans enr))
        (fun k σ H5 => ∃ y9 y10 fur seen5, σ = [some (.ref p), some (.ref rd), some (.int a), some (.int b), some (.ref lk), some (.ref nr), some (.ref so), some (.int (1 + (i : Int))), some (.ref fo), y9, y10] ∧ Same (B2 (upd H4 fo (.lst [])) so fo) (B2 H5 so fo) ∧ H5 so = some (.lst ((seen5 : List Int).map V.int)) ∧ H5 fo = some (.lst ((fur : List Int).map V.int)) ∧ (∀ x ∈ near.take k, adj0 N.ls x b = false) ∧ LayL N os a seen (fun y => ∃ x ∈ near.take k, adj0 N.ls x y = true) fur seen5)
        ⟨_, _, [], seen, rfl, Same.refl _, (upd_ne sof).trans eso, upd_same, fun x hx => (nomatch hx), ⟨fun y => ⟨fun h => (nomatch h), fun h => by
          obtain ⟨_, _, x, hx, _⟩ := h
          cases hx⟩, fun y => ⟨.inl, fun h => h.elim id fun h => (nomatch h)⟩, snd, srg, Nat.zero_le _⟩⟩ (fun k σ H5 hP5 => ?_) (fun k z σ H5 hk hP5 => ?_) (fun σ H5 hP5 => ?_)
      · obtain ⟨_, _, _, _, _, s5, _⟩ := hP5
        exact .of (b2_same _ _ (s5 _ _ (b2_get ((upd_ne nrf).trans enr) nrso nrf)))
      · obtain ⟨y9, y10, fur, seen5, rfl, s5, eso5, efo5, hno, hLL⟩ := hP5
        rw [List.getElem?_map] at hk
        obtain ⟨x, hxk, rfl⟩ := Option.map_eq_some_iff.mp hk
        have hxm := List.mem_of_getElem? hxk
        obtain ⟨x0, x1⟩ := hnr x hxm
        have s25 : Same H2 H5 := (b0.trans s5).trans b2_same
        obtain ⟨la, ns, e1, e2, e3, e4⟩ := hlv x x0 x1
        have e2b : B2 (upd H4 fo (.lst [])) so fo la = some (.lst (ns.map V.int)) := b0 _ _ e2
        refine g_forL (K := K) (xs := ns.map V.int) (vl_dgetI (vl_var rfl) (vl_var rfl) (s25 _ _ elk) e1) (.of (s25 _ _ e2))
          (fun j σ H6 => ∃ y10 fur seen5, σ = [some (.ref p), some (.ref rd), some (.int a), some (.int b), some (.ref lk), some (.ref nr), some (.ref so), some (.int (1 + (i : Int))), some (.ref fo), some (.int x), y10] ∧ Same (B2 H5 so fo) (B2 H6 so fo) ∧ H6 so = some (.lst ((seen5 : List Int).map V.int)) ∧ H6 fo = some (.lst ((fur : List Int).map V.int)) ∧ (∀ y ∈ ns.take j, y ≠ b) ∧ LayL N os a seen (fun y => (∃ x ∈ near.take k, adj0 N.ls x y = true) ∨ y ∈ ns.take j) fur seen5)
          ⟨_, fur, seen5, rfl, Same.refl _, eso5, efo5, fun y hy => (nomatch hy), hLL.is fun y => ⟨fun h => h.elim id fun h => (nomatch h), .inl⟩⟩ (fun j σ H6 hP6 => ?_) (fun j z σ H6 hj hP6 => ?_) (fun σ H6 hP6 => ?_)
        · obtain ⟨_, _, _, _, s6, _⟩ := hP6
          exact .of (b2_same _ _ (s6 _ _ (s5 _ _ e2b)))
        · obtain ⟨y10, fur, seen5, rfl, s6, eso6, efo6, hnv, hLL6⟩ := hP6
          rw [List.getElem?_map] at hj
          obtain ⟨y, hyj, rfl⟩ := Option.map_eq_some_iff.mp hj
          have hadj : adj0 N.ls x y = true := (e4 y).mp (List.mem_of_getElem? hyj)
          have hyr := (adj0_in ok hadj).2.1
          have yo : y ∈ os := oo.mem.mpr hyr
          have ao : a ∈ os := oo.mem.mpr hin.1
          have s26 : Same H2 H6 := (b0.trans (s5.trans s6)).trans b2_same
          have erd6 := s26 _ _ erd
          refine q_when (b := decide (V.int y = V.int b)) (an_test (vl_eq (vl_var rfl) (vl_var rfl) rfl)) (fun hb => ?_) (fun hb => ?_)
          · rw [dI, decide_eq_true_eq] at hb
            subst hb
            obtain ⟨r, hr1, hr2⟩ := hS.hit ok (k := N.n.toNat + 1) hxm hadj (by omega)
            have := q H6 r (i + 1) ((s1.trans s2).trans s26) hr1 (wit_path ok hP hr2)
            refine g_ret (v := .int (1 + (i : Int))) (vl_var rfl) ?_
            rw [show (1 + (i : Int)) = ((i + 1 : Nat) : Int) by omega]
            exact this
          · rw [dI, decide_eq_false_iff_not] at hb
            have hnv' : ∀ z ∈ ns.take (j + 1), z ≠ b := fun z hz => by
              rw [take_snoc hyj] at hz
              rcases List.mem_append.mp hz with hz | hz
              · exact hnv z hz
              · rw [List.mem_singleton.mp hz]
                exact hb
            have hD : ∀ z, ((∃ x ∈ near.take k, adj0 N.ls x z = true) ∨ z ∈ ns.take (j + 1)) ↔ (((∃ x ∈ near.take k, adj0 N.ls x z = true) ∨ z ∈ ns.take j) ∨ z = y) := fun z => by
              rw [take_snoc hyj, List.mem_append, List.mem_singleton, or_assoc]
            refine g_when (b := decide (((posOf y os : Nat) : Int) < (posOf a os : Nat)) && !decide (y ∈ seen5)) (an_and (an_test (vl_I0 (g := fun i j => .bl (decide (i < j))) (vl_dgetI (vl_var rfl) (vl_var rfl) erd6 (hrv y yo)) (vl_dgetI (vl_var rfl) (vl_var rfl) erd6 (hrv a ao)))) fun _ => an_test (vl_notInI (K := K) (vl_var rfl) (vl_var rfl) (.of eso6))) (fun hc => ?_) (fun hc => ?_)
            · rw [Bool.and_eq_true, decide_eq_true_eq, Bool.not_eq_true', decide_eq_false_iff_not] at hc
              have hsl := hLL6.sl
              have hfl := hLL6.fl
              have hput := (hLL6.put (by omega) hc.2 hyr).is hD
              refine q_app (K := K) (v := .int y) (vl_var rfl) eso6 (vl_var rfl) ?_ ?_
              · rw [List.length_map]
                exact Nat.lt_of_le_of_lt (m := 10000) (by omega) (by decide)
              · refine g_app (K := K) (v := .int y) (l := fo) (xs := fur.map V.int) (vl_var rfl) ((upd_ne sof.symm).trans efo6) (vl_var rfl) ?_ ?_
                · rw [List.length_map]
                  exact Nat.lt_of_le_of_lt (m := 10000) (by omega) (by decide)
                · refine ⟨_, fur ++ [y], seen5 ++ [y], rfl, ?_, ?_, ?_, hnv', hput⟩
                  · rw [b2_upd2, b2_upd1]
                    exact s6
                  · rw [upd_ne sof, upd_same, List.map_append]
                    rfl
                  · rw [upd_same, List.map_append]
                    rfl
            · have hc' : ¬ (posOf y os < posOf a os ∧ y ∉ seen5) := fun z => by
                rw [decide_eq_true (show ((posOf y os : Nat) : Int) < (posOf a os : Nat) by omega), decide_eq_false z.2] at hc
                cases hc
              exact ⟨_, fur, seen5, rfl, s6, eso6, efo6, hnv', (hLL6.skip hc').is hD⟩
        · obtain ⟨y10, fur, seen5, rfl, s6, eso6, efo6, hnv, hLL6⟩ := hP6
          rw [List.length_map, List.take_length] at hnv hLL6
          refine ⟨_, _, fur, seen5, rfl, s5.trans s6, eso6, efo6, fun z hz => ?_, hLL6.is fun y => ?_⟩
          · rw [take_snoc hxk] at hz
            rcases List.mem_append.mp hz with hz | hz
            · exact hno z hz
            · rw [List.mem_singleton.mp hz]
              cases e : adj0 N.ls x b with
              | false => rfl
              | true => exact absurd rfl (hnv b ((e4 b).mpr e))
          · rw [take_snoc hxk, e4]
            constructor
            · rintro ⟨z, hz, hz2⟩
              rcases List.mem_append.mp hz with hz | hz
              · exact .inl ⟨z, hz, hz2⟩
              · rw [List.mem_singleton.mp hz] at hz2
                exact .inr hz2
            · rintro (⟨z, hz, hz2⟩ | h)
              · exact ⟨z, List.mem_append.mpr (.inl hz), hz2⟩
              · exact ⟨x, List.mem_append.mpr (.inr List.mem_cons_self), h⟩
      · obtain ⟨y9, y10, fur, seen5, rfl, s5, eso5, efo5, hno, hLL⟩ := hP5
        rw [List.length_map, List.take_length] at hno hLL
        refine g_asg (vl_var rfl) ⟨_, _, _, _, fo, fur, seen5, rfl, ?_, sof.symm, efo5, eso5, hS.next ok hno hLL.sm hLL.fm, fun y hy => hLL.rg y ((hLL.sm y).mpr (.inr hy)), hLL.nd, hLL.rg⟩
        intro x u e
        have e2 := (b0.trans s5) _ _ e
        exact but_same (o := fo) _ _ e2
    · obtain ⟨y7, y8, y9, y10, nr, near, seen, rfl, s4, nrso, enr, eso, hS, hnr, snd, srg⟩ := hP4
      rw [show (N.n + 1 - 1).toNat = N.n.toNat by omega] at hS
      exact (hS.some_ ok hP).elim
end
/-! ### the open ways of the net that needs a pair -/
def wsN (N : Net) (r : List Int) : List (Int × Int × Int) := (openL (needN N r).ls).map fun w => (w.1, w.2.1, w.2.2.getD 0)
theorem openL_some {ls : List Lnk} {w : W3} (h : w ∈ openL ls) : w.2.2.isSome = true := by
  unfold openL at h
  obtain ⟨l, _, hl⟩ := List.mem_flatMap.mp h
  exact (List.mem_filter.mp hl).2
theorem wsN_map (N : Net) (r : List Int) : (wsN N r).map w3of = openL (needN N r).ls := by
  unfold wsN
  rw [List.map_map]
  refine (List.map_congr_left (g := id) fun w hw => ?_).trans (List.map_id _)
  have := openL_some hw
  obtain ⟨a, b, o⟩ := w
  cases o with
  | none => cases this
  | some p => rfl
theorem steps_mem {r : List Int} {p : Int × Int} : p ∈ stepsI r ↔ ∃ (i : Nat) (x y : Int), r[i]? = some x ∧ r[i + 1]? = some y ∧ p = mmP x y := by
  unfold stepsI
  rw [List.mem_map]
  constructor
  · rintro ⟨⟨x, y⟩, h, rfl⟩
    obtain ⟨i, hi⟩ := List.mem_iff_getElem?.mp h
    obtain ⟨h1, h2⟩ := List.getElem?_zip_eq_some.mp hi
    rw [List.getElem?_drop, Nat.add_comm] at h2
    exact ⟨i, x, y, h1, h2, rfl⟩
  · rintro ⟨i, x, y, h1, h2, rfl⟩
    refine ⟨(x, y), List.mem_of_getElem? (i := i) ((List.getElem?_zip_eq_some (z := (x, y))).mpr ⟨h1, ?_⟩), rfl⟩
    rw [List.getElem?_drop, Nat.add_comm]
    exact h2
theorem mm_is {x y a b : Int} (hab : a < b) : (a, b) = mmP x y ↔ (x = a ∧ y = b) ∨ (x = b ∧ y = a) := by
  unfold mmP
  constructor
  · intro h
    injection h with h1 h2
    by_cases c : y < x
    · rw [if_pos c] at h1
      rw [if_neg (by omega)] at h2
      omega
    · rw [if_neg c] at h1
      by_cases c2 : y > x
      · rw [if_pos c2] at h2
        omega
      · rw [if_neg c2] at h2
        omega
  · rintro (⟨rfl, rfl⟩ | ⟨rfl, rfl⟩)
    · rw [if_neg (by omega), if_pos (by omega)]
    · rw [if_pos (by omega), if_neg (by omega)]
theorem wsN_mem {N : Net} (ok : NetOk N) {r : List Int} {w : Int × Int × Int} : w ∈ wsN N r ↔ w.2.2 = 1 ∧ adj0 N.ls w.1 w.2.1 = true ∧ ∃ i : Nat, (r[i]? = some w.1 ∧ r[i + 1]? = some w.2.1) ∨ (r[i]? = some w.2.1 ∧ r[i + 1]? = some w.1) := by
  have hv : ∀ l ∈ N.ls, valN r l = some 1 ↔ ∃ i : Nat, (r[i]? = some l.a ∧ r[i + 1]? = some l.b) ∨ (r[i]? = some l.b ∧ r[i + 1]? = some l.a) := fun l hl => by
    have hab := (ok.ok l hl).ab
    unfold valN
    constructor
    · intro h
      split at h
      · rename_i hs
        obtain ⟨i, x, y, h1, h2, e⟩ := steps_mem.mp hs
        rcases (mm_is hab).mp e with ⟨rfl, rfl⟩ | ⟨rfl, rfl⟩
        · exact ⟨i, .inl ⟨h1, h2⟩⟩
        · exact ⟨i, .inr ⟨h1, h2⟩⟩
      · cases h
    · rintro ⟨i, ⟨h1, h2⟩ | ⟨h1, h2⟩⟩
      · rw [if_pos (steps_mem.mpr ⟨i, _, _, h1, h2, (mm_is hab).mpr (.inl ⟨rfl, rfl⟩)⟩)]
      · rw [if_pos (steps_mem.mpr ⟨i, _, _, h1, h2, (mm_is hab).mpr (.inr ⟨rfl, rfl⟩)⟩)]
  have hn : ∀ l, valN r l = none ∨ valN r l = some 1 := fun l => by
    unfold valN
    split
    · exact .inr rfl
    · exact .inl rfl
  obtain ⟨s, t, p⟩ := w
  unfold wsN openL needN
  rw [List.mem_map]
  dsimp only
  constructor
  · rintro ⟨z, hz, e⟩
    obtain ⟨l', hl', hz⟩ := List.mem_flatMap.mp hz
    obtain ⟨l, hl, rfl⟩ := List.mem_map.mp hl'
    obtain ⟨hz1, hz2⟩ := List.mem_filter.mp hz
    have hz1 : z ∈ [(l.a, l.b, valN r l), (l.b, l.a, valN r l)] := hz1
    have h1 : valN r l = some 1 := by
      rcases hn l with h | h
      · rcases List.mem_cons.mp hz1 with e | e
        · rw [e] at hz2
          dsimp only at hz2
          rw [h] at hz2
          cases hz2
        · rw [List.mem_singleton.mp e] at hz2
          dsimp only at hz2
          rw [h] at hz2
          cases hz2
      · exact h
    obtain ⟨i, hi⟩ := (hv l hl).mp h1
    have ha : adj0 N.ls l.a l.b = true := adj0_iff.mpr ⟨l, hl, .inl ⟨rfl, rfl⟩⟩
    rcases List.mem_cons.mp hz1 with e2 | e2
    · rw [e2, h1] at e
      cases e
      exact ⟨rfl, ha, i, hi⟩
    · rw [List.mem_singleton.mp e2, h1] at e
      cases e
      exact ⟨rfl, by rw [adj0_sym]; exact ha, i, hi.symm⟩
  · rintro ⟨rfl, ha, i, hi⟩
    obtain ⟨l, hl, h⟩ := adj0_iff.mp ha
    have h1 : valN r l = some 1 := (hv l hl).mpr ⟨i, by
      rcases h with ⟨rfl, rfl⟩ | ⟨rfl, rfl⟩
      · exact hi
      · exact hi.symm⟩
    refine ⟨(s, t, some 1), List.mem_flatMap.mpr ⟨⟨l.a, l.b, valN r l, valN r l⟩, List.mem_map.mpr ⟨l, hl, rfl⟩, List.mem_filter.mpr ⟨?_, rfl⟩⟩, rfl⟩
    show (s, t, some 1) ∈ [(l.a, l.b, valN r l), (l.b, l.a, valN r l)]
    rw [h1]
    rcases h with ⟨rfl, rfl⟩ | ⟨rfl, rfl⟩
    · exact List.mem_cons_self
    · exact List.mem_cons_of_mem _ List.mem_cons_self
section
variable {N : Net} {os r : List Int} {a b : Int} {m : Nat}
theorem WitP.rg (ok : NetOk N) (ha : 0 ≤ a ∧ a < N.n) (h : WitP N os a b r m) : ∀ x ∈ r, 0 ≤ x ∧ x < N.n := fun x hx => by
  obtain ⟨i, hi⟩ := List.mem_iff_getElem?.mp hx
  cases i with
  | zero =>
    cases h.hd.symm.trans hi
    exact ha
  | succ i =>
    have hl := (List.getElem?_eq_some_iff.mp hi).1
    have hg : r[i]? = some (r[i]'(by omega)) := List.getElem?_eq_getElem (by omega)
    exact (adj0_in ok (h.adj i _ _ hg hi)).2.1
theorem WitP.le (ok : NetOk N) (ha : 0 ≤ a ∧ a < N.n) (h : WitP N os a b r m) : m + 1 ≤ N.n.toNat := by
  have := sub_len (ys := rng N.n) h.nd fun x hx => mem_rng.mpr (h.rg ok ha x hx)
  rw [len_rng, h.len] at this
  exact this
theorem WitP.path (ok : NetOk N) (hp : PairP N.ls os a b) (h : WitP N os a b r m) : PathQ (fun p => posOf p os) (min (posOf a os) (posOf b os)) a b (wsN N r) r m where
  len := h.len
  m1 := h.m1
  hd := h.hd
  end_ := h.end_
  nd := h.nd
  low := fun i p h0 hm hi => by
    have h1 := hp.1
    rcases h.mem p (List.mem_of_getElem? hi) with e | e | e
    · rw [e] at hi
      have := get_inj h.nd hi h.hd
      omega
    · rw [e] at hi
      have := get_inj h.nd hi h.end_
      omega
    · show posOf p os < _
      omega
  hx := by
    have h1 := hp.1
    show ¬ posOf a os < _
    omega
  hy := by
    have h1 := hp.1
    show ¬ posOf b os < _
    omega
  one := fun w hw => ((wsN_mem ok).mp hw).1
  step := fun w hw => ((wsN_mem ok).mp hw).2.2
  all := fun i x y hx hy => (wsN_mem ok).mpr ⟨rfl, h.adj i x y hx hy, i, .inl ⟨hx, hy⟩⟩
theorem PathQ.rev {rk : Int → Nat} {bd : Nat} {ws : List (Int × Int × Int)} (h : PathQ rk bd a b ws r m) (hs : ∀ (x y : Int), (x, y, 1) ∈ ws → (y, x, 1) ∈ ws) : PathQ rk bd b a ws r.reverse m := by
  have hl := h.len
  have hr : ∀ i, i ≤ m → r.reverse[i]? = r[m - i]? := fun i hi => by
    rw [List.getElem?_reverse (by omega), hl, show m + 1 - 1 - i = m - i by omega]
  have hi' : ∀ {i : Nat} {p : Int}, r.reverse[i]? = some p → i ≤ m := fun {i p} e => by
    have := (List.getElem?_eq_some_iff.mp e).1
    rw [List.length_reverse] at this
    omega
  have hi2 : ∀ {i : Nat} {p : Int}, r[i]? = some p → i ≤ m := fun {i p} e => by
    have := (List.getElem?_eq_some_iff.mp e).1
    omega
  refine ⟨by rw [List.length_reverse]; exact hl, h.m1, by rw [hr 0 (Nat.zero_le _)]; exact h.end_, by rw [hr m (Nat.le_refl _), Nat.sub_self]; exact h.hd, (List.Perm.nodup_iff (List.reverse_perm r)).mpr h.nd, fun i p h0 hm hi => ?_, h.hy, h.hx, h.one, fun w hw => ?_, fun i x y hx hy => ?_⟩
  · rw [hr i (by omega)] at hi
    exact h.low (m - i) p (by omega) (by omega) hi
  · obtain ⟨j, ⟨h1, h2⟩ | ⟨h1, h2⟩⟩ := h.step w hw
    · have := hi2 h2
      refine ⟨m - (j + 1), .inr ⟨?_, ?_⟩⟩
      · rw [hr _ (by omega), show m - (m - (j + 1)) = j + 1 by omega]
        exact h2
      · rw [hr _ (by omega), show m - (m - (j + 1) + 1) = j by omega]
        exact h1
    · have := hi2 h2
      refine ⟨m - (j + 1), .inl ⟨?_, ?_⟩⟩
      · rw [hr _ (by omega), show m - (m - (j + 1)) = j + 1 by omega]
        exact h2
      · rw [hr _ (by omega), show m - (m - (j + 1) + 1) = j by omega]
        exact h1
  · have l2 := hi' hy
    rw [hr _ (by omega)] at hx
    rw [hr _ l2] at hy
    refine hs _ _ (h.all (m - (i + 1)) y x hy ?_)
    rw [show m - (i + 1) + 1 = m - i by omega]
    exact hx
theorem wsN_sym (ok : NetOk N) : ∀ (x y : Int), (x, y, 1) ∈ wsN N r → (y, x, 1) ∈ wsN N r := fun x y h => by
  obtain ⟨_, h2, i, h3⟩ := (wsN_mem ok).mp h
  exact (wsN_mem ok).mpr ⟨rfl, by rw [adj0_sym]; exact h2, i, h3.symm⟩
theorem wsN_in (ok : NetOk N) : ∀ w ∈ wsN N r, w.1 ∈ r ∧ w.2.1 ∈ r := fun w hw => by
  obtain ⟨_, _, i, ⟨h1, h2⟩ | ⟨h1, h2⟩⟩ := (wsN_mem ok).mp hw
  · exact ⟨List.mem_of_getElem? h1, List.mem_of_getElem? h2⟩
  · exact ⟨List.mem_of_getElem? h2, List.mem_of_getElem? h1⟩
/-- the filled-in prices of all pairs, on the net that needs one -/
structure NeedG (N : Net) (os r : List Int) (g : Int → Int → Option Int) : Prop where
  go : ∀ p q, (p, q) ∈ pairsL N.ls os → FillR (fun p => posOf p os) (min (posOf p os) (posOf q os)) p q (wsN N r) N.n.toNat (g p q) ∧ FillR (fun p => posOf p os) (min (posOf q os) (posOf p os)) q p (wsN N r) N.n.toNat (g q p)
variable {g : Int → Int → Option Int}
theorem need_facts (ok : NetOk N) (oo : OrdOk N.n os) (hp : PairP N.ls os a b) (h : WitP N os a b r m) (G : NeedG N os r g) :
    g a b = some (m : Int) ∧ g b a = some (m : Int) ∧ (∀ q, (a, q) ∈ pairsL N.ls os → q ≠ b → g a q = none ∧ g q a = none) ∧ ∀ q, (b, q) ∈ pairsL N.ls os → g b q = none ∧ g q b = none := by
  have hin := hp.ins ok
  have hle := h.le ok hin.1
  have hab := hp.1
  have hm : (a, b) ∈ pairsL N.ls os := (mem_pairsL ok oo).mpr hp
  have P := h.path ok hp
  obtain ⟨G1, G2⟩ := G.go a b hm
  have hpos : ∀ x ∈ r, x = b ∨ posOf x os ≤ posOf a os := fun x hx => by
    rcases h.mem x hx with e | e | e
    · rw [e]
      exact .inr (Nat.le_refl _)
    · exact .inl e
    · exact .inr (by omega)
  refine ⟨fill_path P (by omega) G1, ?_, fun q hq hqb => ?_, fun q hq => ?_⟩
  · rw [Nat.min_comm] at G2
    exact fill_path (P.rev (wsN_sym ok)) (by omega) G2
  · have hpq := ((mem_pairsL ok oo).mp hq).1
    obtain ⟨g1, g2⟩ := G.go a q hq
    constructor
    · cases e : g a q with
      | none => rfl
      | some d =>
        rcases hpos q (fill_mem (wsN_in ok) g1 e).2 with z | z
        · exact absurd z hqb
        · omega
    · cases e : g q a with
      | none => rfl
      | some d =>
        rcases hpos q (fill_mem (wsN_in ok) g2 e).1 with z | z
        · exact absurd z hqb
        · omega
  · have hpq := ((mem_pairsL ok oo).mp hq).1
    obtain ⟨g1, g2⟩ := G.go b q hq
    have no : ¬ q ∈ r := fun hqr => by
      rcases hpos q hqr with z | z
      · rw [z] at hpq
        omega
      · omega
    constructor
    · cases e : g b q with
      | none => rfl
      | some d => exact absurd (fill_mem (wsN_in ok) g1 e).2 no
    · cases e : g q b with
      | none => rfl
      | some d => exact absurd (fill_mem (wsN_in ok) g2 e).1 no
def restL (L : List (Int × Int)) (a b : Int) : List (Int × Int) := L.filter fun p => !decide (p = (a, b))
/-- the answers of the law: with the pair and without it, both ways -/
theorem need_answers (ok : NetOk N) (oo : OrdOk N.n os) (hp : PairP N.ls os a b) (h : WitP N os a b r m) (G : NeedG N os r g) (s t : Int) (hst : (s = a ∧ t = b) ∨ (s = b ∧ t = a)) :
    totF (sumsF (trip (restL (pairsL N.ls os) a b) g) s os) (sumsF (trip (restL (pairsL N.ls os) a b) fun x y => g y x) t os) os = [] ∧ totF (sumsF (trip (pairsL N.ls os) g) s os) (sumsF (trip (pairsL N.ls os) fun x y => g y x) t os) os = [(m : Int)] := by
  obtain ⟨g1, g2, hA, hB⟩ := need_facts ok oo hp h G
  have hin := hp.ins ok
  have hab := hp.1
  have ne : a ≠ b := fun e => by
    rw [e] at hab
    omega
  have hm : (a, b) ∈ pairsL N.ls os := (mem_pairsL ok oo).mpr hp
  have ao : a ∈ os := oo.mem.mpr hin.1
  have bo : b ∈ os := oo.mem.mpr hin.2
  have m0 : (0 : Int) ≤ (m : Int) := by omega
  have hr : ∀ x q, (x, q) ∈ restL (pairsL N.ls os) a b → (x, q) ∈ pairsL N.ls os ∧ ¬ (x = a ∧ q = b) := fun x q h => by
    obtain ⟨h1, h2⟩ := List.mem_filter.mp h
    rw [Bool.not_eq_true', decide_eq_false_iff_not] at h2
    exact ⟨h1, fun z => h2 (by rw [z.1, z.2])⟩
  have rA : ∀ q, (a, q) ∈ restL (pairsL N.ls os) a b → g a q = none ∧ g q a = none := fun q hq => by
    obtain ⟨h1, h2⟩ := hr a q hq
    exact hA q h1 fun e => h2 ⟨rfl, e⟩
  have rB : ∀ q, (b, q) ∈ restL (pairsL N.ls os) a b → g b q = none ∧ g q b = none := fun q hq => hB q (hr b q hq).1
  rcases hst with ⟨rfl, rfl⟩ | ⟨rfl, rfl⟩
  · rw [sums_shut (g := g) (fun q hq => (rA q hq).1), sums_shut (g := fun x y => g y x) (fun q hq => (rB q hq).2), sums_to ne ao (fun q hq hqb => (hA q hq hqb).1) (fun q hq => (hB q hq).1) g1 m0 hm, sums_shut (g := fun x y => g y x) (fun q hq => (hB q hq).2)]
    exact ⟨tot_none ne, tot_up ne bo oo.nodup⟩
  · rw [sums_shut (g := g) (fun q hq => (rB q hq).1), sums_shut (g := fun x y => g y x) (fun q hq => (rA q hq).2), sums_shut (g := g) (fun q hq => (hB q hq).1), sums_to (g := fun x y => g y x) ne ao (fun q hq hqb => (hA q hq hqb).2) (fun q hq => (hB q hq).2) g2 m0 hm]
    exact ⟨tot_none ne.symm, tot_down ne bo oo.nodup⟩
end
/-! ### a pair is needed -/
theorem ax_op {σ : L2.St} {H : Hp} {ta tb : TE} {r : R2} {b : Bool} (h : ∀ Q : Bool → Hp → Prop, (∀ H', Same H H' → Q b H') → ta σ H fun x H1 => tb σ H1 fun y H2 => r x y H2 fun z H3 => ∃ b', z = .bl b' ∧ Q b' H3) : Ax (tTest (tOp r ta tb)) σ H b := fun Q q => h Q q
theorem ax_notN7 {σ : L2.St} {H : Hp} {te : TE} {v : V} (h : Ve te σ H v) : Ax (tTest (tOp (fun x y H Q => y = V.non ∧ Q (V.bl (!decide (x = V.non))) H) te (tC .non))) σ H (!decide (v = .non)) := fun Q k => h _ fun H' s' => ⟨rfl, _, rfl, k H' s'⟩
/-- [link[:2] for link in links] -/
theorem lc_cutL {K : PySem.W.Frag} {σ : L2.St} {H : Hp} {tl : TE} {j : Nat} {ls : List Lnk} {xs : List V} {a : Addr} {Q : VK} (hj : j < σ.length) (hl : Vl tl σ H (.ref a)) (hx : SqL K H a xs) (hd : DpAll K H xs (ls.map lnkD)) (hz : ls.length ≤ 100000)
    (q : ∀ D H' ts, Same H H' → H D = none → H' D = some (.lst ts) → TupsAt H' ts (ls.map fun l => (l.a, l.b)) → Q (.ref D) H') : tLc (iList K tl) (gName j) tYes (tSl (rSlT K) (tVar j) tNoPart (tPart (tC (.int 2)))) [j] σ H Q := by
  have lx := DpAll.len hd
  rw [List.length_map] at lx
  refine hl _ ⟨a, rfl, ⟨_, hx⟩, fun D nD => lc_list (xs := xs) (fun i H' => ∃ ts, H' D = some (.lst ts) ∧ Same H H' ∧ TupsAt H' ts ((ls.take i).map fun l => (l.a, l.b))) ⟨[], upd_same, same_upd nD, TupsAt.nil⟩ (fun i H' _ hP => hP.choose_spec.2.1.seq hx) (fun i x H2 hi hP => ?_) (fun H2 hP => ?_)⟩
  · obtain ⟨ts, hD, s2, hT⟩ := hP
    have hil := (List.getElem?_eq_some_iff.mp hi).1
    have hg : ls[i]? = some (ls[i]'(by omega)) := List.getElem?_eq_getElem (by omega)
    generalize ls[i]'(by omega) = l at hg
    obtain ⟨v', ev, dv⟩ := DpAll.get (i := i) (d := lnkD l) hd (by
      rw [List.getElem?_map, hg]
      rfl)
    cases hi.symm.trans ev
    obtain ⟨t, rfl, ht⟩ := Dp.lnk_inv dv
    have hjl : ((σ.set j none).set j (some (V.ref t)))[j]? = some (some (V.ref t)) := List.getElem?_set_self (by rw [List.length_set]; exact hj)
    refine ⟨?_, ?_⟩
    · show ((σ.set j none).set j (some (V.ref t))).set j none = σ.set j none
      rw [List.set_set, List.set_set]
    · refine iteT (B := ∃ ts, H2 D = some (.lst ts) ∧ Same H H2 ∧ TupsAt H2 ts ((ls.take (i + 1)).map fun l => (l.a, l.b))) ⟨_, hjl, 2, rfl, t, lnkV l, rfl, seqT s2 ht, fun z => ?_, fun T nT => ?_⟩
      · have := z.2
        rw [show HT.sIx (lnkV l).length (lnkV l).length (some 2) = min 2 4 from HT.sIx_nat 4 4 2] at this
        exact absurd (show (2 : Nat) = 4 from this) (by decide)
      · rw [show cutV (lnkV l) none (some 2) = [.int l.a, .int l.b] from cut_to (xs := lnkV l) (n := 2) (by show 2 ≤ 4; decide)]
        refine ⟨ts, same_upd nT _ _ hD, ?_, ts ++ [.ref T], upd_same, same_upd' (s2.trans (same_upd nT)) nD, ?_⟩
        · rw [hT.len, List.length_map, List.length_take]
          exact Nat.lt_of_le_of_lt (m := 100000) (by omega) (by decide)
        · rw [take_snoc hg, List.map_append]
          exact ((hT.to (same_upd nT)).app (TupsAt.one upd_same)).upd (same_upd nT _ _ hD)
  · obtain ⟨ts, hD, s2, hT⟩ := hP
    rw [lx, List.take_length] at hT
    exact q D H2 ts s2 nD hD hT
/-- [pair for pair in pairs if pair != (u, v)] -/
theorem lc_rest {K : PySem.W.Frag} {σ : L2.St} {H : Hp} {tl t1 t2 : TE} {j : Nat} {L : List (Int × Int)} {ts : List V} {fp : Addr} {a b : Int} {Q : VK} (hj : j < σ.length) (hl : Vl tl σ H (.ref fp)) (hx : H fp = some (.lst ts)) (hT : TupsAt H ts L) (hz : L.length ≤ 10000)
    (h1 : ∀ x H', Vl t1 ((σ.set j none).set j (some x)) H' (.int a)) (h2 : ∀ x H', Vl t2 ((σ.set j none).set j (some x)) H' (.int b))
    (q : ∀ D H' zs, Same H H' → H D = none → H' D = some (.lst zs) → TupsAt H' zs (restL L a b) → Q (.ref D) H') : tLc (iList K tl) (gName j) (tTest (tOp (rNeD K) (tVar j) (tTup (tCons t1 (tCons t2 tNil))))) (tVar j) [j] σ H Q := by
  refine hl _ ⟨fp, rfl, ⟨_, .of hx⟩, fun D nD => lc_list (K := K) (a := fp) (xs := ts) (fun i H' => ∃ zs, H' D = some (.lst zs) ∧ Same H H' ∧ TupsAt H' zs (restL (L.take i) a b)) ⟨[], upd_same, same_upd nD, TupsAt.nil⟩ (fun i H' _ hP => .of (hP.choose_spec.2.1 _ _ hx)) (fun i x H2 hi hP => ?_) (fun H2 hP => ?_)⟩
  · obtain ⟨zs, hD, s2, hZ⟩ := hP
    have hlt : i < L.length := by
      rw [← hT.len]
      exact (List.getElem?_eq_some_iff.mp hi).1
    have hg : L[i]? = some L[i] := List.getElem?_eq_getElem hlt
    generalize L[i] = p at hg
    obtain ⟨u, v⟩ := p
    obtain ⟨t, h4, h5⟩ := hT.at_ i u v hg
    cases hi.symm.trans h4
    have hjl : ((σ.set j none).set j (some (V.ref t)))[j]? = some (some (V.ref t)) := List.getElem?_set_self (by rw [List.length_set]; exact hj)
    have hst : restL (L.take (i + 1)) a b = restL (L.take i) a b ++ if (u, v) = (a, b) then [] else [(u, v)] := by
      unfold restL
      rw [take_snoc hg, List.filter_append]
      congr 1
      rw [List.filter_cons]
      by_cases c : (u, v) = (a, b)
      · rw [if_pos c, if_neg (by rw [decide_eq_true c]; decide)]
        rfl
      · rw [if_neg c, if_pos (by rw [decide_eq_false c]; rfl)]
        rfl
    refine ⟨?_, ?_⟩
    · show ((σ.set j none).set j (some (V.ref t))).set j none = σ.set j none
      rw [List.set_set, List.set_set]
    · refine ⟨_, hjl, h1 _ _ _ (h2 _ _ _ ⟨by show 2 ≤ sizeLine; decide, fun T nT => ⟨.tuple [.int u, .int v], .tuple [.int a, .int b], .tup (.of (same_upd nT _ _ (s2 _ _ h5))) (.cons (.int _) (.cons (.int _) .nil)), .tup (.of upd_same) (.cons (.int _) (.cons (.int _) .nil)), by rfl, by rfl, _, rfl, ?_⟩⟩)⟩
      have sT : Same H2 (upd H2 T (.tup [.int a, .int b])) := same_upd nT
      rw [show PyData.eqv (.tuple [.int u, .int v]) (.tuple [.int a, .int b]) = decide ((u, v) = (a, b)) by
        show (u == a && (v == b && true)) = _
        rw [Bool.and_true, Bool.eq_iff_iff]
        simp, hst]
      by_cases c : (u, v) = (a, b)
      · rw [decide_eq_true c, if_pos c, List.append_nil]
        exact iteF ⟨zs, sT _ _ hD, s2.trans sT, hZ.to sT⟩
      · rw [decide_eq_false c, if_neg c]
        refine iteT (B := ∃ zs, upd H2 T (.tup [.int a, .int b]) D = some (.lst zs) ∧ Same H (upd H2 T (.tup [.int a, .int b])) ∧ TupsAt (upd H2 T (.tup [.int a, .int b])) zs (restL (L.take i) a b ++ [(u, v)])) ⟨_, hjl, zs, sT _ _ hD, ?_, zs ++ [.ref t], upd_same, same_upd' (s2.trans sT) nD, ?_⟩
        · rw [hZ.len]
          have : (restL (L.take i) a b).length ≤ 10000 := Nat.le_trans (List.length_filter_le _ _) (by rw [List.length_take]; omega)
          exact Nat.lt_of_le_of_lt (m := 10000) this (by decide)
        · exact ((hZ.to sT).app (TupsAt.one (sT _ _ (s2 _ _ h5)))).upd (sT _ _ hD)
  · obtain ⟨zs, hD, s2, hZ⟩ := hP
    rw [hT.len, List.take_length] at hZ
    exact q D H2 zs s2 nD hD hZ
section
variable {K : PySem.W.Frag} {σ : L2.St} {H : Hp} {D : Ends} {tw tz : TS} {tl : TE}
theorem g_forP7 {j1 j2 : Nat} {a : Addr} {ts : List V} {L : List (Int × Int)} (h : Vl tl σ H (.ref a)) (Pv : Nat → L2.St → Hp → Prop) (h0 : Pv 0 σ H) (hl : ∀ i σ' H', Pv i σ' H' → SqL K H' a ts ∧ TupsAt H' ts L)
    (hs : ∀ (i : Nat) u v σ H, L[i]? = some (u, v) → Pv i σ H → tz { D with nx := Pv (i + 1), ct := Pv (i + 1), bk := D.nx } ((σ.set j1 (some (.int u))).set j2 (some (.int v))) H) (hd : ∀ σ H, Pv L.length σ H → D.nx σ H) :
    tFor (iList K tl) (gTup K 2 (gCons (gName j1) (gCons (gName j2) gNil))) tz D σ H := h _ ⟨a, rfl, ⟨_, (hl 0 σ H h0).1⟩, for_list (xs := ts) Pv h0 (fun i σ H _ p => (hl i σ H p).1) (fun i x σ H hi p => by
      have hW := (hl i σ H p).2
      have hlt : i < L.length := by
        rw [← hW.len]
        exact (List.getElem?_eq_some_iff.mp hi).1
      have hg : L[i]? = some L[i] := List.getElem?_eq_getElem hlt
      generalize L[i] = w at hg
      obtain ⟨u, v⟩ := w
      obtain ⟨t, h1, h2⟩ := hW.at_ i u v hg
      cases hi.symm.trans h1
      exact ⟨t, _, rfl, .of h2, rfl, _, _, rfl, _, _, rfl, rfl, hs i u v σ H hg p⟩) (fun σ H p => by
      rw [(hl _ σ H p).2.len] at p
      exact hd σ H p)⟩
theorem q_forP7 {j1 j2 : Nat} {a : Addr} {ts : List V} {L : List (Int × Int)} (h : Vl tl σ H (.ref a)) (Pv : Nat → L2.St → Hp → Prop) (h0 : Pv 0 σ H) (hl : ∀ i σ' H', Pv i σ' H' → SqL K H' a ts ∧ TupsAt H' ts L)
    (hs : ∀ (i : Nat) u v σ H, L[i]? = some (u, v) → Pv i σ H → tz { D with nx := Pv (i + 1), ct := Pv (i + 1), bk := tw D } ((σ.set j1 (some (.int u))).set j2 (some (.int v))) H) (hd : ∀ σ H, Pv L.length σ H → tw D σ H) :
    tSeq (tFor (iList K tl) (gTup K 2 (gCons (gName j1) (gCons (gName j2) gNil))) tz) tw D σ H := g_forP7 (D := { D with nx := tw D }) h Pv h0 hl hs hd
theorem q_forTwo2 {g : TG} {x1 y1 x2 y2 : V} {a1 b1 a2 b2 : TE} (hx1 : ∀ H', Vl a1 σ H' x1) (hy1 : ∀ H', Vl b1 σ H' y1) (hx2 : ∀ H', Vl a2 σ H' x2) (hy2 : ∀ H', Vl b2 σ H' y2)
    (k : ∀ T1 T2 L H', Same H H' → H' T1 = some (.tup [x1, y1]) → H' T2 = some (.tup [x2, y2]) → H L = none → H' L = some (.lst [.ref T1, .ref T2]) → tSeq (tFor (iList K fun _ H' Q => Q (.ref L) H') g tz) tw D σ H') :
    tSeq (tFor (iList K (tLst (tCons (tTup (tCons a1 (tCons b1 tNil))) (tCons (tTup (tCons a2 (tCons b2 tNil))) tNil)))) g tz) tw D σ H :=
  g_forE (D := { D with nx := tw D }) (hx1 _ _ (hy1 _ _ ⟨by show 2 ≤ sizeLine; decide, fun T1 n1 => hx2 _ _ (hy2 _ _ ⟨by show 2 ≤ sizeLine; decide, fun T2 n2 => ⟨by show 2 ≤ sizeLine; decide, fun L nL => by
    have s1 := same_upd (o := .tup [x1, y1]) n1
    have s2 := same_upd (o := .tup [x2, y2]) n2
    have s3 := same_upd (o := .lst [.ref T1, .ref T2]) nL
    exact k T1 T2 L _ (s1.trans (s2.trans s3)) (s3 _ _ (s2 _ _ upd_same)) (s3 _ _ upd_same) (Same.free (s1.trans s2) nL) upd_same⟩⟩)⟩))
theorem q_dputE7 {td ta tb te : TE} {o : Addr} {y1 y2 : Int} (h : te σ H fun v H1 => Vl td σ H1 (.ref o) ∧ Vl ta σ H1 (.int y1) ∧ Vl tb σ H1 (.int y2) ∧ ∃ kvs, H1 o = some (.dT kvs) ∧ kvs.length < sizeLine ∧ ∀ T, H1 T = none → o ≠ T → tw D σ (upd (upd H1 T (.tup [.int y1, .int y2])) o (.dT (putK kvs [.inl y1, .inl y2] v)))) (hm : ∀ Q Q' : VK, (∀ v H', Q v H' → Q' v H') → te σ H Q → te σ H Q') :
    tSeq (sDPut td (tTup (tCons ta (tCons tb tNil))) te) tw D σ H := hm _ _ (fun v H1 ⟨ho, h1, h2, kvs, hd, hl, k⟩ => q_dputK (te := fun _ H' Q => Q v H') (fun Q q => q) ho h1 h2 hd hl k) h
end
abbrev sIsNeeded : Stmt := topS 34
theorem scIsNeeded : FnScope ["net", "order", "found", "u", "v", "rank", "kept", "other", "ways", "filled", "a", "b", "rest", "many", "s", "t", "link", "way", "pair"] ["net", "order", "found", "u", "v"] (defScope sIsNeeded) := ⟨rfl, rfl, rfl, by decide +kernel, rfl, by decide +kernel, by decide +kernel⟩
theorem nd_self {x : V} : (!decide (x = x)) = false := by
  rw [decide_eq_true rfl]
  rfl
theorem mk_all {K : PySem.W.Frag} {σ : L2.St} {H : Hp} {te : TE} {xs : List V} {Q : Bool → Hp → Prop} (h : Vn te σ H xs) (k : ∀ p H', Same H H' → H p = none → H' p = some (.lst xs) → rAll K [.ref p] H' fun v H2 => ∃ b, TruV K v H2 b ∧ Q b H2) : tCB (rAll K) (tCons te tNil) σ H fun x H' => ∃ b, TruV K x H' b ∧ Q b H' := h _ k
theorem need_ok {N : Net} (ok : NetOk N) {r : List Int} : NetOk (needN N r) := ⟨ok.n1, ok.n40, fun l hl => by
  obtain ⟨l', hl', rfl⟩ := List.mem_map.mp hl
  have h := ok.ok l' hl'
  have hv : PriceOk (valN r l') := fun x e => by
    unfold valN at e
    split at e
    · cases e
      omega
    · cases e
  exact ⟨h.a0, h.ab, h.bn, hv, hv⟩, List.pairwise_map.mpr (ok.lt.imp fun h => h), by
  show (N.ls.map _).length ≤ 1600
  rw [List.length_map]
  exact ok.len⟩
theorem q_appN7 {K : PySem.W.Frag} {σ : L2.St} {H : Hp} {D : Ends} {tw : TS} {ta te : TE} {v : V} {l : Addr} {xs : List V} (ho : Vl ta σ H (.ref l)) (hl : H l = some (.lst xs)) (h : Vl te σ H v) (hz : xs.length < sizeLine) (k : tw D σ (upd H l (.lst (xs ++ [v])))) :
    tSeq (tDrop (tBM K "list" rAppend ta (tCons te tNil))) tw D σ H := q_app (K := K) ho hl h hz k
/-- a filled-in price for each way that was asked -/
def FD (H : Hp) (o : Addr) (N : Net) (os r : List Int) (g : Int → Int → Option Int) (S : Int → Int → Prop) (c : Nat) : Prop := ∃ kvs : List (List L2.Key × V), H o = some (.dT kvs) ∧ kvs.length ≤ c ∧ ∀ x y, S x y → valV kvs (K2 (x, y)) = some (oV (g x y)) ∧ FillR (fun p => posOf p os) (min (posOf x os) (posOf y os)) x y (wsN N r) N.n.toNat (g x y)
theorem FD.put {H1 : Hp} {o : Addr} {N : Net} {os r : List Int} {g : Int → Int → Option Int} {S : Int → Int → Prop} {kvs : List (List L2.Key × V)} {T : HO} {Ta : Addr} {c : Nat} (hl : kvs.length ≤ c) (hv : ∀ x y, S x y → valV kvs (K2 (x, y)) = some (oV (g x y)) ∧ FillR (fun p => posOf p os) (min (posOf x os) (posOf y os)) x y (wsN N r) N.n.toNat (g x y))
    {x0 y0 : Int} {o0 : Option Int} (h0 : FillR (fun p => posOf p os) (min (posOf x0 os) (posOf y0 os)) x0 y0 (wsN N r) N.n.toNat o0) : FD (upd (upd H1 Ta T) o (.dT (putK kvs (K2 (x0, y0)) (oV o0)))) o N os r (fun x y => if x = x0 ∧ y = y0 then o0 else g x y) (fun x y => S x y ∨ (x = x0 ∧ y = y0)) (c + 1) := by
  refine ⟨_, upd_same, Nat.le_trans put_len (by omega), fun x y h => ?_⟩
  show _ = some (oV (if x = x0 ∧ y = y0 then o0 else g x y)) ∧ FillR _ _ x y _ _ (if x = x0 ∧ y = y0 then o0 else g x y)
  rw [valV_put]
  by_cases e : x = x0 ∧ y = y0
  · rw [if_pos (by rw [e.1, e.2]), if_pos e, e.1, e.2]
    exact ⟨rfl, h0⟩
  · rw [if_neg (fun z => e (by
      have := K2_inj z
      injection this with h1 h2
      exact ⟨h1, h2⟩)), if_neg e]
    exact hv x y (h.elim id fun z => absurd z e)
def spIsNeed (K : PySem.W.Frag) : Sp := fun vs H Q _ => ∃ (p0 po fp : Addr) (N : Net) (ts : List V) (os : List Int) (a b : Int), vs = [.ref p0, .ref po, .ref fp, .int a, .int b] ∧ Dp K H (.ref p0) (netD N) ∧ NetOk N ∧ SqL K H po (os.map V.int) ∧ OrdOk N.n os ∧ H fp = some (.lst ts) ∧ TupsAt H ts (pairsL N.ls os) ∧ PairP N.ls os a b ∧
  ∀ H', Same H H' → Q (.bl true) H'
section
variable {P : Program} {w : World} {K : PySem.W.Frag} {mg : Str → Option Value} {base : Heap} {CW : Addr}
theorem ok_isNeeded {f : Addr} {fd : FuncData} {k k1 k2 k3 k4 k5 k6 k7 k8 : Nat} (l1 : k1 ≤ k) (l2 : k2 ≤ k) (l3 : k3 ≤ k) (l4 : k4 ≤ k) (l5 : k5 ≤ k) (l6 : k6 ≤ k) (l7 : k7 ≤ k) (l8 : k8 ≤ k) (F : Fun K "_law_is_needed" "_law_is_needed" sIsNeeded f fd) (c_law_rank : Kal P w K mg base k1 "_law_rank" ["order"] (spRank K))
    (c_needing : KalX P w K mg base k2 "needing" ["net", "order", "u", "v"] (spNeed K CW)) (c_law_open : Kal P w K mg base k3 "_law_open" ["net"] (spOpen7 K)) (c_law_is_integer : Kal P w K mg base k4 "_law_is_integer" ["actual"] spIsI) (c_law_filled : Kal P w K mg base k5 "_law_filled" ["net", "ways", "rank", "x", "y"] (spFilled7 K))
    (c_law_fewest : Kal P w K mg base k6 "_law_fewest" ["net", "rank", "u", "v"] (spFewest K)) (c_witness : KalX P w K mg base k7 "witness" ["net", "order", "u", "v"] (spWit K CW)) (c_law_answer : Kal P w K mg base k8 "_law_answer" ["filled", "order", "found", "s", "t"] (spAnswer7 K))
    (ml : mg "len" = none) (mall : mg "all" = none) (mrepr : mg "repr" = none) : FnR P w K mg base (k + 1) f fd ["net", "order", "found", "u", "v"] (spIsNeed K) := by
  refine okR F scIsNeeded (fun vs H Q E h => ?_) (fun cdv A outer s H vs Q E hr calm h => ?_)
  · obtain ⟨p0, po, fp, N, ts, os, a, b, rfl, _⟩ := h
    rfl
  · obtain ⟨p0, po, fp, N, ts, os, a, b, rfl, hN, ok, hS, oo, ef, hT, hP, q⟩ := h
    have hu := hu_of hr
    refine ⟨_, pss_cons (ps_set (i := 5) scIsNeeded.nd rfl (.inl rfl) (pe_k c_law_rank hr (by first | decide | omega) (by rfl) (pa_cons (pv 1) pa_nil)))
      (pss_cons (ps_set (i := 6) scIsNeeded.nd rfl (.inl rfl) (pe_callB (call_reprD calm hr.units) (by rfl) mrepr (by decide +kernel) (pa_cons (pe_tup (pa_cons (pv 0) (pa_cons (pv 1) pa_nil))) pa_nil)))
      (pss_cons (ps_set (i := 7) scIsNeeded.nd rfl (.inl rfl) (pe_kx (E := fun _ _ _ => False) c_needing hr (by first | decide | omega) (by rfl) takes0 (pa_cons (pv 0) (pa_cons (pv 1) (pa_cons (pv 3) (pa_cons (pv 4) pa_nil))))))
      (pss_cons (ps_if (PW.pt (pw_or (pt_cmpR op_ne (pe_callB (call_reprD calm hr.units) (by rfl) mrepr (by decide +kernel) (pa_cons (pe_tup (pa_cons (pv 0) (pa_cons (pv 1) pa_nil))) pa_nil)) (pv 6) (nomark _)) (pw_or1 (pt_cmpR op_ne (pe_ix ix_tup (pv 7) pe_int (fun _ _ => rfl)) (pe_ix ix_tup (pv 0) pe_int (fun _ _ => rfl)) (nomark _)))))
      (pss_one (ps_ret pe_bl))
      pss_nil)
      (pss_cons (ps_if (pt_cmpR (op_neD hr.units) (pe_lc (own := [("link", 16)]) (g := gName 16) (tt := tYes) (te := (tSl (rSlT K) (tVar 16) tNoPart (tPart (tC (.int 2))))) (by rfl) scIsNeeded.nd (pi_list (pe_ix ix_tup (pv 7) pe_int (fun _ _ => rfl))) (blkOk_by (own := [("link", 16)]) (N := ["net", "order", "found", "u", "v", "rank", "kept", "other", "ways", "filled", "a", "b", "rest", "many", "s", "t", "link", "way", "pair"]) (sc := defScope sIsNeeded) (by decide +kernel)) (fun _ _ _ _ _ => pg_name (i := 16) scIsNeeded.nd rfl (Or.inl rfl)) (fun _ _ _ _ _ => by exact pts_nil) (fun _ _ _ _ _ => by exact (pe_slice sl_tup (pv 16) po_none (po_some pe_int)))) (pe_lc (own := [("link", 16)]) (g := gName 16) (tt := tYes) (te := (tSl (rSlT K) (tVar 16) tNoPart (tPart (tC (.int 2))))) (by rfl) scIsNeeded.nd (pi_list (pe_ix ix_tup (pv 0) pe_int (fun _ _ => rfl))) (blkOk_by (own := [("link", 16)]) (N := ["net", "order", "found", "u", "v", "rank", "kept", "other", "ways", "filled", "a", "b", "rest", "many", "s", "t", "link", "way", "pair"]) (sc := defScope sIsNeeded) (by decide +kernel)) (fun _ _ _ _ _ => pg_name (i := 16) scIsNeeded.nd rfl (Or.inl rfl)) (fun _ _ _ _ _ => by exact pts_nil) (fun _ _ _ _ _ => by exact (pe_slice sl_tup (pv 16) po_none (po_some pe_int)))) (nomark _))
      (pss_one (ps_ret pe_bl))
      pss_nil)
      (pss_cons (ps_set (i := 8) scIsNeeded.nd rfl (.inl rfl) (pe_k c_law_open hr (by first | decide | omega) (by rfl) (pa_cons (pv 7) pa_nil)))
      (pss_cons (ps_if (pt_not (pt_truth (pe_callB (cr_all rfl) (by rfl) mall (by decide +kernel) (pa_cons (pe_lc (own := [("way", 17)]) (g := gName 17) (tt := tYes) (te := (tAndV (tCall spIsI [] E0 (tCons (tOp (rIxT K) (tVar 17) (tC (.int 2))) tNil)) (tOp rEq (tOp (rIxT K) (tVar 17) (tC (.int 2))) (tC (.int 1))))) (by rfl) scIsNeeded.nd (pi_list (pv 8)) (blkOk_by (own := [("way", 17)]) (N := ["net", "order", "found", "u", "v", "rank", "kept", "other", "ways", "filled", "a", "b", "rest", "many", "s", "t", "link", "way", "pair"]) (sc := defScope sIsNeeded) (by decide +kernel)) (fun _ _ _ _ _ => pg_name (i := 17) scIsNeeded.nd rfl (Or.inl rfl)) (fun _ _ _ _ _ => by exact pts_nil) (fun _ _ _ _ _ => by exact (pe_and (pe_k c_law_is_integer hr (by first | decide | omega) (by rfl) (pa_cons (pe_ix ix_tup (pv 17) pe_int (fun _ _ => rfl)) pa_nil)) (pe_one (pe_cmpR op_eq (pe_ix ix_tup (pv 17) pe_int (fun _ _ => rfl)) pe_int (nomark _)))))) pa_nil)) (by intro _; rfl)))
      (pss_one (ps_ret pe_bl))
      pss_nil)
      (pss_cons (ps_set (i := 9) scIsNeeded.nd rfl (.inl rfl) pe_dnewT)
      (pss_cons (ps_for PassesOwn.never rfl (pi_list (pv 2)) (pg_tup rfl (pgs_cons (pg_name (i := 10) scIsNeeded.nd rfl (.inl rfl)) (pgs_cons (pg_name (i := 11) scIsNeeded.nd rfl (.inl rfl)) pgs_nil)))
      (pss_cons (ps_dput hu (pv 9) (pe_tup (pa_cons (pv 10) (pa_cons (pv 11) pa_nil))) (pe_k c_law_filled hr (by first | decide | omega) (by rfl) (pa_cons (pv 7) (pa_cons (pv 8) (pa_cons (pv 5) (pa_cons (pv 10) (pa_cons (pv 11) pa_nil)))))) rfl)
        (pss_one (ps_dput hu (pv 9) (pe_tup (pa_cons (pv 11) (pa_cons (pv 10) pa_nil))) (pe_k c_law_filled hr (by first | decide | omega) (by rfl) (pa_cons (pv 7) (pa_cons (pv 8) (pa_cons (pv 5) (pa_cons (pv 11) (pa_cons (pv 10) pa_nil)))))) rfl))))
      (pss_cons (ps_setLc (i := 12) (own := [("pair", 18)]) (g := gName 18) (tt := (tTest (tOp (rNeD K) (tVar 18) (tTup (tCons (tVar 3) (tCons (tVar 4) tNil)))))) (te := (tVar 18)) (by rfl) scIsNeeded.nd rfl rfl (sw_true rfl rfl rfl (by decide +kernel)) (pi_list (pv 2)) (blkOk_by (own := [("pair", 18)]) (N := ["net", "order", "found", "u", "v", "rank", "kept", "other", "ways", "filled", "a", "b", "rest", "many", "s", "t", "link", "way", "pair"]) (sc := defScope sIsNeeded) (by decide +kernel)) (fun _ _ _ _ _ => pg_name (i := 18) scIsNeeded.nd rfl (Or.inl rfl)) (fun _ _ _ _ _ => by exact (pts_one (pt_cmpR (op_neD hr.units) (pv 18) (pe_tup (pa_cons (pv 3) (pa_cons (pv 4) pa_nil))) (nomark _)))) (fun _ _ _ _ _ => by exact (pv 18)))
      (pss_cons (ps_set (i := 13) scIsNeeded.nd rfl (.inl rfl) (pe_k c_law_fewest hr (by first | decide | omega) (by rfl) (pa_cons (pv 0) (pa_cons (pv 5) (pa_cons (pv 3) (pa_cons (pv 4) pa_nil))))))
      (pss_cons (ps_if (pt_cmpR op_ne (pe_callB call_len_seq (by rfl) ml PySem.boot_len (pa_cons (pe_kx (E := fun _ _ _ => False) c_witness hr (by first | decide | omega) (by rfl) takes0 (pa_cons (pv 0) (pa_cons (pv 1) (pa_cons (pv 3) (pa_cons (pv 4) pa_nil))))) pa_nil)) (pe_op op_add (pv 13) pe_int) (nomark _))
      (pss_one (ps_ret pe_bl))
      pss_nil)
      (pss_cons (ps_for PassesOwn.never rfl (pi_list (pe_lst (pa_cons (pe_tup (pa_cons (pv 3) (pa_cons (pv 4) pa_nil))) (pa_cons (pe_tup (pa_cons (pv 4) (pa_cons (pv 3) pa_nil))) pa_nil)))) (pg_tup rfl (pgs_cons (pg_name (i := 14) scIsNeeded.nd rfl (.inl rfl)) (pgs_cons (pg_name (i := 15) scIsNeeded.nd rfl (.inl rfl)) pgs_nil)))
      (pss_one (ps_if (PW.pt (pw_or (pt_cmpR op_notN (pe_k c_law_answer hr (by first | decide | omega) (by rfl) (pa_cons (pv 9) (pa_cons (pv 1) (pa_cons (pv 12) (pa_cons (pv 14) (pa_cons (pv 15) pa_nil)))))) pe_non (nomark _)) (pw_or1 (pt_cmpR op_ne (pe_k c_law_answer hr (by first | decide | omega) (by rfl) (pa_cons (pv 9) (pa_cons (pv 1) (pa_cons (pv 2) (pa_cons (pv 14) (pa_cons (pv 15) pa_nil)))))) (pv 13) (nomark _)))))
        (pss_one (ps_ret pe_bl))
        pss_nil)))
      (pss_cons (ps_expr (pe_bm PySem.F.plainAttrs_list PySem.F.slot_list_append PySem.F.type_list_append mt_append (pe_ix ix_tup (pv 7) pe_int (fun _ _ => rfl)) (pa_cons pe_non pa_nil)))
      (pss_one (ps_ret (pe_cmpR op_eq (pe_callB (call_reprD calm hr.units) (by rfl) mrepr (by decide +kernel) (pa_cons (pe_tup (pa_cons (pv 0) (pa_cons (pv 1) pa_nil))) pa_nil)) (pv 6) (nomark _))))))))))))))))), ?_⟩
    have n40 := ok.n40
    have n1 := ok.n1
    have l16 := ok.len
    have ol := oo.len
    have hLl := pairsL_len ok oo
    have hin := hP.ins ok
    have shi := showOk_ints (ns := os) (fun x hx => by
      have := oo.mem.mp hx
      omega) (by omega)
    have sh := showOk_pair (showOk_net ok) (b := .list (os.map PyData.int)) ⟨shi.sh, shi.nd, shi.dep, Nat.le_trans shi.len (by decide)⟩
    -- rank
    refine q_asgE ⟨.ref po, rfl, po, os, rfl, hS, oo.nodup, by omega, fun H1 rd s1 hR => ?_⟩
    have pairDp : ∀ {H' : Hp} T, Same H H' → H' T = some (.tup [.ref p0, .ref po]) → Dp K H' (.ref T) (.tuple [netD N, .list (os.map PyData.int)]) := fun T s' e => .tup (.of e) (.cons ((Dp.to hN s')) (.cons (Dp.ints (s'.seq hS)) .nil))
    -- kept
    refine q_asgV (ve_repr (va_cons (vl_var rfl) (va_cons (vl_var rfl) va_nil)) (by show 2 ≤ sizeLine; decide) (fun T H' s' e => pairDp T (s1.trans s') e) sh.1 sh.2.1 sh.2.2.1 (Nat.le_trans sh.2.2.2 (by decide))) fun H2 s2 => ?_
    have s02 := s1.trans s2
    -- needing
    refine q_asgE ⟨.ref p0, rfl, .ref po, rfl, .int a, rfl, .int b, rfl, .ref p0, N, po, os, a, b, rfl, (Dp.to hN s02), ok, s02.seq hS, oo, fun hn => absurd hP hn, fun _ H3 q0 r s3 hr0 hnn => ?_⟩
    obtain ⟨T, lo, nts, rfl, eT, elo, nlo, hD⟩ := hnn
    have s03 := s02.trans s3
    obtain ⟨m, hW⟩ := wit_path' ok hP hr0
    have hND : Dp K H3 (.ref T) (netD (needN N r)) := NetAt.dp ⟨T, lo, nts, rfl, eT, elo, DpAll.to hD but_same⟩
    have hdl : (needN N r).ls.length = N.ls.length := List.length_map _
    obtain ⟨p, cN, xs, e0, hp, hc, hx⟩ := Dp.net_inv hN
    cases e0
    -- what is shown stays
    refine q_whenx (b := false) (Ax.is (ax_or (k := false) (m := false) ((ax_neV2 (ve_repr (va_cons (vl_var rfl) (va_cons (vl_var rfl) va_nil)) (by show 2 ≤ sizeLine; decide) (fun T H' s' e => pairDp T (s03.trans s') e) sh.1 sh.2.1 sh.2.2.1 (Nat.le_trans sh.2.2.2 (by decide))) (fun _ _ => vl_var rfl) rfl).is nd_self) fun _ H' s' => ax_of (an_test ((vl_ne (vl_ixT (K := K) (vl_var rfl) vl_c (.of (s' _ _ eT)) (atI_nat (j := 0) rfl)) (vl_ixT (K := K) (vl_var rfl) vl_c (seqT (s03.trans s') hp) (atI_nat (j := 0) rfl)) rfl).is (congrArg V.bl (nd_self (x := .int N.n)))))) rfl) (fun z => nomatch z) (fun _ H4 s4 => ?_)
    have s04 := s03.trans s4
    have eT4 := s4 _ _ eT
    have elo4 := s4 _ _ elo
    -- the same links
    refine q_whenx (b := false) (ax_op fun Q k => lc_cutL (K := K) (j := 16) (ls := (needN N r).ls) (by show 16 < 19; decide) (vl_ixT (K := K) (vl_var rfl) vl_c (.of eT4) (atI_nat (j := 1) rfl)) (.of elo4) (DpAll.to (DpAll.to hD but_same) s4) (by rw [hdl]; omega) fun D5 H5 t5 s5 n5 e5 w5 => lc_cutL (K := K) (j := 16) (ls := N.ls) (by show 16 < 19; decide) (vl_ixT (K := K) (vl_var rfl) vl_c (seqT (s04.trans s5) hp) (atI_nat (j := 1) rfl)) ((s04.trans s5).seq hc) (DpAll.to hx (s04.trans s5)) (by omega) fun D6 H6 t6 s6 n6 e6 w6 => ⟨.list ((N.ls.map fun l => (l.a, l.b)).map pairD2), .list ((N.ls.map fun l => (l.a, l.b)).map pairD2), ?_, .lst (.of e6) w6.dp, shaped_pairs _, shaped_pairs _, _, rfl, ?_⟩) (fun z => nomatch z) (fun _ H7 s7 => ?_)
    · have w5' := w5.to s6
      rw [show (needN N r).ls.map (fun l => (l.a, l.b)) = N.ls.map fun l => (l.a, l.b) by
        unfold needN
        rw [List.map_map]
        rfl] at w5'
      exact .lst (.of (s6 _ _ e5)) w5'.dp
    · rw [refl_of (shaped_pairs _)]
      exact k H6 (s5.trans s6)
    have s07 := s04.trans s7
    have s37 := s4.trans s7
    -- ways
    refine q_asgE ⟨.ref T, rfl, .ref T, needN N r, rfl, (Dp.to hND s37), by rw [hdl]; exact l16, fun H8 wo wts s8 n8 e8 hWt => ?_⟩
    rw [← wsN_map] at hWt
    have wl : wts.length = (wsN N r).length := by
      rw [hWt.len, List.length_map]
    have wl2 : (wsN N r).length ≤ 3200 := by
      unfold wsN
      rw [List.length_map]
      exact Nat.le_trans (openL_le _) (by rw [hdl]; omega)
    have s08 := s07.trans s8
    have s38 := s37.trans s8
    refine q_whenx (b := false) (Ax.is (ax_not (b := true) ?_) rfl) (fun z => nomatch z) (fun _ H9 s9 => ?_)
    · intro Q k
      refine mk_all (K := K) (vn_lc (K := K) (xs := wts) (ys := (wsN N r).map fun _ => V.bl true) (vx_list (vl_var rfl) (.of e8)) (by rw [List.length_map]; exact wl) (by rw [List.length_map]; omega) (fun i x y H' s' hx hy => ?_)) fun p H' s' np ep => ⟨p, (wsN N r).map fun _ => true, rfl, .of (by rw [ep, List.map_map]; rfl), _, rfl, ?_⟩
      · have hil := (List.getElem?_eq_some_iff.mp hx).1
        have hg : (wsN N r)[i]? = some ((wsN N r)[i]'(by omega)) := List.getElem?_eq_getElem (by omega)
        generalize (wsN N r)[i]'(by omega) = w0 at hg
        obtain ⟨tw0, h1, h2⟩ := hWt.at_ i (w3of w0) (by rw [List.getElem?_map, hg]; rfl)
        cases hx.symm.trans h1
        rw [List.getElem?_map, hg] at hy
        cases hy
        have h3 := ((wsN_mem ok).mp (List.mem_of_getElem? hg)).1
        have ix : ∀ σ' : L2.St, σ'[17]? = some (some (V.ref tw0)) → Vl (tOp (rIxT K) (tVar 17) (tC (.int 2))) σ' H' (.int w0.2.2) := fun σ' h => vl_ixT (K := K) (vl_var h) vl_c (.of (s' _ _ h2)) (atI_nat (j := 2) rfl)
        refine ve_of (vl_andV (k := true) (m := true) (fun Q q => (va_cons (ix _ rfl) va_nil) _ ⟨_, rfl, q⟩) fun _ => (vl_eq (ix _ rfl) vl_c rfl).is ?_)
        rw [h3]
        rfl
      · rw [List.all_map, show (List.all (wsN N r) (id ∘ fun _ => true)) = true from List.all_eq_true.mpr fun _ _ => rfl]
        exact k H' s'
    have s09 := s08.trans s9
    have s39 := s38.trans s9
    have eT9 := s39 _ _ eT
    have ef9 := s09 _ _ ef
    have hT9 := hT.to s09
    have hW9 := hWt.to s9
    have hR9 := hR.to ((s2.trans s3).trans s39)
    -- filled
    refine q_dnewT fun fo nfo => ?_
    have f0 : Same H9 (but (upd H9 fo (.dT [])) fo) := same_but (same_upd nfo) nfo
    refine q_forP7 (K := K) (a := fp) (ts := ts) (L := pairsL N.ls os) (vl_var rfl)
      (fun i σ H10 => ∃ y10 y11 g, σ = [some (.ref p0), some (.ref po), some (.ref fp), some (.int a), some (.int b), some (.ref rd), some (.str (PyData.tuple [netD N, .list (os.map PyData.int)]).shown), some (.ref T), some (.ref wo), some (.ref fo), y10, y11, none, none, none, none, none, none, none] ∧ Same H9 (but H10 fo) ∧ FD H10 fo N os r g (fun x y => ∃ z ∈ (pairsL N.ls os).take i, (x = z.1 ∧ y = z.2) ∨ (x = z.2 ∧ y = z.1)) (2 * i))
      ⟨_, _, fun _ _ => none, rfl, f0, [], upd_same, Nat.le_refl _, fun x y ⟨z, hz, _⟩ => by
        rw [List.take_zero] at hz
        cases hz⟩ (fun i σ H10 hPv => ?_) (fun i u v σ H10 hi hPv => ?_) (fun σ H10 hPv => ?_)
    · obtain ⟨_, _, _, _, s10, _⟩ := hPv
      have s := s10.trans but_same
      exact ⟨.of (s _ _ ef9), hT9.to s⟩
    · obtain ⟨y10, y11, g, rfl, s10, kvs, efo, hkl, hfv⟩ := hPv
      have hil := (List.getElem?_eq_some_iff.mp hi).1
      have hpr := (mem_pairsL ok oo).mp (List.mem_of_getElem? hi)
      have hpi := hpr.ins ok
      have uo : u ∈ os := oo.mem.mpr hpi.1
      have vo : v ∈ os := oo.mem.mpr hpi.2
      have uv : u ≠ v := fun e => by
        have := hpr.1
        rw [e] at this
        omega
      have rg : ∀ w ∈ wsN N r, w.1 ∈ os ∧ w.2.1 ∈ os := fun w hw => by
        obtain ⟨h1, h2⟩ := wsN_in ok w hw
        exact ⟨oo.mem.mpr (hW.rg ok hin.1 _ h1), oo.mem.mpr (hW.rg ok hin.1 _ h2)⟩
      have sa := s10.trans but_same
      refine ⟨.ref T, rfl, .ref wo, rfl, .ref rd, rfl, .int u, rfl, .int v, rfl, .ref T, needN N r, wo, rd, wts, wsN N r, os, u, v, rfl, (Dp.to hND (s39.trans sa)), need_ok ok, .of (sa _ _ (s9 _ _ e8)), hW9.to sa, hR9.to sa, uo, vo, rg, wl2, fun H11 o1 s11 hf1 => ?_⟩
      refine ⟨.ref fo, rfl, .int u, rfl, .int v, rfl, by show 2 ≤ sizeLine; decide, fun T1 nT1 => ⟨fo, _, rfl, DPut.t (k := K2 (u, v)) (same_upd nT1 _ _ (s11 _ _ efo)) upd_same (Nat.lt_of_le_of_lt (m := 10000) (by omega) (by decide)), ?_⟩⟩
      obtain ⟨kv2, efo2, hkl2, hfv2⟩ := FD.put (H1 := H11) (o := fo) (Ta := T1) (T := .tup [.int u, .int v]) hkl hfv hf1
      have s12 : Same H9 (but (upd (upd H11 T1 (.tup [.int u, .int v])) fo (.dT (putK kvs (K2 (u, v)) (oV o1)))) fo) := by
        rw [but_upd]
        exact s10.trans (but_mono (s11.trans (same_upd nT1)))
      generalize upd (upd H11 T1 (.tup [.int u, .int v])) fo (.dT (putK kvs (K2 (u, v)) (oV o1))) = H12 at efo2 s12
      have sb := s12.trans but_same
      refine ⟨.ref T, rfl, .ref wo, rfl, .ref rd, rfl, .int v, rfl, .int u, rfl, .ref T, needN N r, wo, rd, wts, wsN N r, os, v, u, rfl, (Dp.to hND (s39.trans sb)), need_ok ok, .of (sb _ _ (s9 _ _ e8)), hW9.to sb, hR9.to sb, vo, uo, rg, wl2, fun H13 o2 s13 hf2 => ?_⟩
      refine ⟨.ref fo, rfl, .int v, rfl, .int u, rfl, by show 2 ≤ sizeLine; decide, fun T2 nT2 => ⟨fo, _, rfl, DPut.t (k := K2 (v, u)) (same_upd nT2 _ _ (s13 _ _ efo2)) upd_same (Nat.lt_of_le_of_lt (m := 10000) (by omega) (by decide)), ?_⟩⟩
      obtain ⟨kv3, efo3, hkl3, hfv3⟩ := FD.put (H1 := H13) (o := fo) (Ta := T2) (T := .tup [.int v, .int u]) hkl2 hfv2 hf2
      refine ⟨_, _, _, rfl, ?_, kv3, efo3, by omega, fun x y ⟨z, hz, hxy⟩ => hfv3 x y ?_⟩
      · rw [but_upd]
        exact s12.trans (but_mono (s13.trans (same_upd nT2)))
      · rw [take_snoc hi] at hz
        rcases List.mem_append.mp hz with hz | hz
        · exact .inl (.inl ⟨z, hz, hxy⟩)
        · rw [List.mem_singleton.mp hz] at hxy
          rcases hxy with e | e
          · exact .inl (.inr e)
          · exact .inr e
    · obtain ⟨y10, y11, g, rfl, s10, kvs, efo, hkl, hfv⟩ := hPv
      rw [List.take_length] at hfv
      have sa := s10.trans but_same
      have s010 := s09.trans sa
      have hG : NeedG N os r g := ⟨fun x y hxy => ⟨(hfv x y ⟨(x, y), hxy, .inl ⟨rfl, rfl⟩⟩).2, (hfv y x ⟨(x, y), hxy, .inr ⟨rfl, rfl⟩⟩).2⟩⟩
      have hF : FillD H10 fo (pairsL N.ls os) g := ⟨kvs, efo, fun x y hxy => ⟨(hfv x y ⟨(x, y), hxy, .inl ⟨rfl, rfl⟩⟩).1, (hfv y x ⟨(x, y), hxy, .inr ⟨rfl, rfl⟩⟩).1⟩⟩
      -- rest
      refine q_asgE (lc_rest (K := K) (j := 18) (L := pairsL N.ls os) (a := a) (b := b) (by show 18 < 19; decide) (vl_var rfl) (s010 _ _ ef) (hT.to s010) (by omega) (fun _ _ => vl_var rfl) (fun _ _ => vl_var rfl) fun ro H11 rts s11 n11 e11 w11 => ?_)
      have s011 := s010.trans s11
      -- many
      refine q_asgE ⟨.ref p0, rfl, .ref rd, rfl, .int a, rfl, .int b, rfl, .ref p0, N, rd, os, a, b, rfl, (Dp.to hN s011), ok, hR9.to (sa.trans s11), oo, hP, fun H12 r2 m2 s12 hr2 hw2 => ?_⟩
      have er : r2 = r := Option.some.inj (hr2.symm.trans hr0)
      subst er
      have em : m2 = m := by
        have h1 := hw2.len
        have h2 := hW.len
        omega
      subst em
      have s012 := s011.trans s12
      -- the witness has them
      refine q_whenx (b := false) (ax_op fun Q k => ⟨.ref p0, rfl, .ref po, rfl, .int a, rfl, .int b, rfl, .ref p0, N, po, os, a, b, rfl, (Dp.to hN s012), ok, s012.seq hS, oo, fun hn => absurd hP hn, fun _ H13 q13 r13 s13 n13 hr13 e13 => ⟨q13, _, rfl, .inl (.of e13), .int (m2 : Nat), rfl, (m2 : Int), 1, rfl, rfl, rfl, _, rfl, ?_⟩⟩) (fun z => nomatch z) (fun _ H13 s13 => ?_)
      · have er : r13 = r2 := Option.some.inj (hr13.symm.trans hr2)
        rw [er, List.length_map, hW.len, show ((m2 + 1 : Nat) : Int) = (m2 : Int) + 1 by omega, decide_eq_true rfl]
        exact k H13 s13
      have s013 := s012.trans s13
      have sx := s12.trans s13
      -- both ways
      refine q_forTwo2 (x1 := .int a) (y1 := .int b) (x2 := .int b) (y2 := .int a) (fun _ => vl_var rfl) (fun _ => vl_var rfl) (fun _ => vl_var rfl) (fun _ => vl_var rfl) fun T1 T2 Lo H14 s14 e1 e2 nLo eLo => ?_
      have s014 := s013.trans s14
      have s1014 := s11.trans (sx.trans s14)
      refine q_forP7 (K := K) (a := Lo) (ts := [.ref T1, .ref T2]) (L := [(a, b), (b, a)]) (fun Q q => q)
        (fun i σ H15 => ∃ y14 y15, σ = [some (.ref p0), some (.ref po), some (.ref fp), some (.int a), some (.int b), some (.ref rd), some (.str (PyData.tuple [netD N, .list (os.map PyData.int)]).shown), some (.ref T), some (.ref wo), some (.ref fo), y10, y11, some (.ref ro), some (.int (m2 : Nat)), y14, y15, none, none, none] ∧ Same H14 H15)
        ⟨_, _, rfl, Same.refl _⟩ (fun i σ H15 hPv => ?_) (fun i u v σ H15 hi hPv => ?_) (fun σ H15 hPv => ?_)
      · obtain ⟨_, _, _, s15⟩ := hPv
        exact ⟨.of (s15 _ _ eLo), (TupsAt.one (s15 _ _ e1)).app (TupsAt.one (s15 _ _ e2))⟩
      · obtain ⟨y14, y15, rfl, s15⟩ := hPv
        have huv : (u = a ∧ v = b) ∨ (u = b ∧ v = a) := by
          rcases List.mem_cons.mp (List.mem_of_getElem? hi) with e | e
          · cases e
            exact .inl ⟨rfl, rfl⟩
          · cases List.mem_singleton.mp e
            exact .inr ⟨rfl, rfl⟩
        obtain ⟨an1, an2⟩ := need_answers ok oo hP hW hG u v huv
        have sF := s1014.trans s15
        have s015 := s014.trans s15
        have rl : (restL (pairsL N.ls os) a b).length ≤ 1600 := Nat.le_trans (List.length_filter_le _ _) hLl
        refine g_whenx (b := false) (Ax.is (ax_or (k := false) (m := false) ((ax_notN7 (v := .non) fun Q k => ⟨.ref fo, rfl, .ref po, rfl, .ref ro, rfl, .int u, rfl, .int v, rfl, fo, po, ro, rts, restL (pairsL N.ls os) a b, g, u, v, os, rfl, (hF.to sF).sub (fun z hz => (List.mem_filter.mp hz).1), s015.seq hS, (sx.trans (s14.trans s15)) _ _ e11, w11.to (sx.trans (s14.trans s15)), rl, by omega, .inl ⟨an1, fun H' s' => k H' s'⟩⟩).is rfl) fun _ H16 s16 => (ax_neV2 (x := .int (m2 : Nat)) (y := .int (m2 : Nat)) (fun Q k => ⟨.ref fo, rfl, .ref po, rfl, .ref fp, rfl, .int u, rfl, .int v, rfl, fo, po, fp, ts, pairsL N.ls os, g, u, v, os, rfl, hF.to (sF.trans s16), (s015.trans s16).seq hS, (s015.trans s16) _ _ ef, hT.to (s015.trans s16), hLl, by omega, .inr ⟨_, an2, fun H' s' => k H' s'⟩⟩) (fun _ _ => vl_var rfl) rfl).is nd_self) rfl) (fun z => nomatch z) (fun _ H16 s16 => ?_)
        exact ⟨_, _, rfl, s15.trans s16⟩
      · obtain ⟨y14, y15, rfl, s15⟩ := hPv
        have s315 := (s39.trans sa).trans (s1014.trans s15)
        have s015 := s014.trans s15
        -- the told net is its own
        refine q_appN7 (l := lo) (xs := nts) (v := .non) (vl_ixT (K := K) (vl_var rfl) vl_c (.of (s315 _ _ eT)) (atI_nat (j := 1) rfl)) (s315 _ _ elo) vl_c ?_ ?_
        · rw [DpAll.len hD, List.length_map, hdl]
          exact Nat.lt_of_le_of_lt (m := 10000) (by omega) (by decide)
        · have nlo0 : H lo = none := by
            cases e : H lo with
            | none => rfl
            | some u =>
              rw [s02 _ _ e] at nlo
              cases nlo
          have s16 : Same H (upd H15 lo (.lst (nts ++ [.non]))) := same_upd' s015 nlo0
          refine g_retV (v := .bl true) ?_ fun H' s' => q H' (s16.trans s')
          intro Q k
          refine ve_repr (va_cons (vl_var rfl) (va_cons (vl_var rfl) va_nil)) (by show 2 ≤ sizeLine; decide) (fun T H' s' e => pairDp T (s16.trans s') e) sh.1 sh.2.1 sh.2.2.1 (Nat.le_trans sh.2.2.2 (by decide)) _ fun H' s' => ⟨_, rfl, rfl, ?_⟩
          rw [decide_eq_true rfl]
          exact k H' s'
end
abbrev sLaw : Stmt := topS 35
theorem scLaw : FnScope ["script", "draws", "net", "order", "above", "found", "u", "v", "picked"] ["script"] (defScope sLaw) := ⟨rfl, rfl, rfl, by decide +kernel, rfl, by decide +kernel, by decide +kernel⟩
def spLaw (K : PySem.W.Frag) : Sp := fun vs H Q _ => ∃ (a : Addr) (ns : List Int), vs = [.ref a] ∧ SqL K H a (ns.map V.int) ∧ ns.length ≤ 63 ∧ ∀ H', Q (.bl true) H'
section
variable {P : Program} {w : World} {K : PySem.W.Frag} {mg : Str → Option Value} {base : Heap} {CW : Addr}
theorem ok_law {f : Addr} {fd : FuncData} {k1 k2 k3 k4 k5 k6 : Nat} (l1 : k1 ≤ 9) (l2 : k2 ≤ 9) (l3 : k3 ≤ 9) (l4 : k4 ≤ 9) (l5 : k5 ≤ 9) (l6 : k6 ≤ 9) (F : Fun K "law" "law" sLaw f fd) (c_law_draws : Kal P w K mg base 1 "_law_draws" ["script"] (spDraws K)) (c_law_net : Kal P w K mg base k1 "_law_net" ["draws", "k", "most"] (spNet K)) (c_law_at : Kal P w K mg base 1 "_law_at" ["draws", "k", "many"] (spAt K))
    (c_law_sparse : Kal P w K mg base k2 "_law_sparse" ["draws", "k"] (spNet4 K)) (c_law_order : Kal P w K mg base k3 "_law_order" ["draws", "k", "size"] (spOrder K)) (c_law_upper : Kal P w K mg base k4 "_law_upper" ["net", "order"] (spUpperL K)) (c_pairs : Kal P w K mg base k5 "pairs" ["net", "order"] (spPairs K))
    (c_law_is_needed : KalR P w K mg base k6 "_law_is_needed" ["net", "order", "found", "u", "v"] (spIsNeed K)) (ml : mg "len" = none) : FnG P w K mg base f fd ["script"] (spLaw K) := by
  refine okG (k := 9) F scLaw ⟨rfl, by decide, by decide⟩ (fun vs H Q E h => ?_) (fun cdv s H vs Q E hr h => ?_)
  · obtain ⟨a, ns, rfl, _⟩ := h
    rfl
  · obtain ⟨a, ns, rfl, hS, hlen, q⟩ := h
    have hu := hu_of hr
    refine ⟨_, pss_cons (ps_set (i := 1) scLaw.nd rfl (.inl rfl) (pe_k c_law_draws hr (by first | decide | omega) (by rfl) (pa_cons (pv 0) pa_nil)))
      (pss_cons (ps_set (i := 2) scLaw.nd rfl (.inl rfl) (pe_k c_law_net hr (by first | decide | omega) (by rfl) (pa_cons (pv 1) (pa_cons pe_int (pa_cons pe_int pa_nil)))))
      (Evl.pss_cut (ps_if (pt_cmpR op_eq (pe_k c_law_at hr (by first | decide | omega) (by rfl) (pa_cons (pv 1) (pa_cons pe_int (pa_cons pe_int pa_nil)))) pe_int (nomark _))
      (pss_one (ps_set (i := 2) scLaw.nd rfl (.inl rfl) (pe_k c_law_sparse hr (by first | decide | omega) (by rfl) (pa_cons (pv 1) (pa_cons pe_int pa_nil)))))
      pss_nil)
      (pss_cons (ps_set (i := 3) scLaw.nd rfl (.inl rfl) (pe_k c_law_order hr (by first | decide | omega) (by rfl) (pa_cons (pv 1) (pa_cons pe_int (pa_cons (pe_ix ix_tup (pv 2) pe_int (fun _ _ => rfl)) pa_nil)))))
      (pss_cons (ps_set (i := 4) scLaw.nd rfl (.inl rfl) (pe_k c_law_upper hr (by first | decide | omega) (by rfl) (pa_cons (pv 2) (pa_cons (pv 3) pa_nil))))
      (pss_cons (ps_set (i := 5) scLaw.nd rfl (.inl rfl) (pe_lst pa_nil))
      (pss_cons (ps_for PassesOwn.never rfl (pi_list (pv 3)) (pg_name (i := 6) scLaw.nd rfl (.inr rfl))
      (pss_one (ps_set (i := 5) scLaw.nd rfl (.inl rfl) (pe_op op_cat (pv 5) (pe_lc (own := [("v", 7)]) (g := gName 7) (tt := tYes) (te := (tTup (tCons (tVar 6) (tCons (tVar 7) tNil)))) (by rfl) scLaw.nd (pi_list (pe_dget hu (pv 4) (pv 6) (fun _ _ => rfl))) (blkOk_by (own := [("v", 7)]) (N := ["script", "draws", "net", "order", "above", "found", "u", "v", "picked"]) (sc := defScope sLaw) (by decide +kernel)) (fun _ _ _ _ _ => pg_name (i := 7) scLaw.nd rfl (Or.inl rfl)) (fun _ _ _ _ _ => by exact pts_nil) (fun _ _ _ _ _ => by exact (pe_tup (pa_cons (pv 6) (pa_cons (pv 7) pa_nil)))))))))
      (pss_cons (ps_if (pt_cmpR (op_neD hr.units) (pe_k c_pairs hr (by first | decide | omega) (by rfl) (pa_cons (pv 2) (pa_cons (pv 3) pa_nil))) (pv 5) (nomark _))
      (pss_one (ps_ret pe_bl))
      pss_nil)
      (pss_cons (ps_set (i := 8) scLaw.nd rfl (.inl rfl) (pv 5))
      (Evl.pss_cut (ps_if (PW.pt (pw_and (pt_cmpR op_gt (pe_ix ix_tup (pv 2) pe_int (fun _ _ => rfl)) pe_int (nomark _)) (pw_and1 (pt_cmpR op_gt (pe_callB call_len_seq (by rfl) ml PySem.boot_len (pa_cons (pv 5) pa_nil)) pe_int (nomark _)))))
      (pss_one (ps_set (i := 8) scLaw.nd rfl (.inl rfl) (pe_lst (pa_cons (pe_ix ix_list (pv 5) (pe_k c_law_at hr (by first | decide | omega) (by rfl) (pa_cons (pv 1) (pa_cons pe_int (pa_cons (pe_callB call_len_seq (by rfl) ml PySem.boot_len (pa_cons (pv 5) pa_nil)) pa_nil)))) (fun _ _ => rfl)) pa_nil))))
      pss_nil)
      (pss_cons (ps_for PassesOwn.never rfl (pi_list (pv 8)) (pg_tup rfl (pgs_cons (pg_name (i := 6) scLaw.nd rfl (.inr rfl)) (pgs_cons (pg_name (i := 7) scLaw.nd rfl (.inl rfl)) pgs_nil)))
      (pss_one (ps_if (pt_not (pt_val (pe_kr c_law_is_needed hr rfl (by first | decide | omega) (by rfl) (pa_cons (pv 2) (pa_cons (pv 3) (pa_cons (pv 5) (pa_cons (pv 6) (pa_cons (pv 7) pa_nil))))))))
        (pss_one (ps_ret pe_bl))
        pss_nil)))
      (pss_one (ps_ret pe_bl)))))))))))), ?_⟩
    -- draws
    refine q_asgE ⟨.ref a, rfl, a, ns, rfl, hS, hlen, fun H1 d ds s1 nd hd hok => ?_⟩
    have hD1 : SqL K H1 d (ds.map V.int) := .of hd
    refine q_asgE ⟨.ref d, rfl, d, ds, 10, 9, rfl, hD1, by decide, by decide, by decide, fun H2 v N s2 hN ok hn => ?_⟩
    refine q_cut (M := fun σ' H' => ∃ v N, σ' = [some (.ref a), some (.ref d), some v, none, none, none, none, none, none] ∧ Same H1 H' ∧ NetAt K H' v N ∧ NetOk N) ?_ ?_
    · refine g_whenB (ab_eq (vi_at (ds := ds) (m := 16) (k := 8) (vl_var rfl) vl_c vl_c (s2.seq hD1) (by decide) (by decide)) vl_c) ?_ ?_
      · refine g_asgE ⟨.ref d, rfl, d, ds, 10, rfl, s2.seq hD1, by decide, fun H3 v3 N3 s3 hN3 ok3 => ?_⟩
        exact ⟨v3, N3, rfl, s2.trans s3, hN3, ok3⟩
      · exact ⟨v, N, rfl, s2, hN, ok⟩
    clear hN ok hn s2
    rintro σ' H2 ⟨v, N, rfl, s2, hN, ok⟩
    obtain ⟨p, c, xs, rfl, hp, hc, hx⟩ := id hN
    have n1 := ok.n1
    have n40 := ok.n40
    refine q_asgE ⟨.ref d, rfl, (vl_ixT (K := K) (vl_var rfl) vl_c (.of hp) (atI_nat (j := 0) rfl)) _ ⟨d, ds, 200, N.n, rfl, s2.seq hD1, by decide, by omega, by omega, fun H3 po os s3 npo epo oo => ?_⟩⟩
    have ol := oo.len
    have hN3 := hN.to s3
    have plen := pairsL_len ok oo
    refine q_asgE ⟨.ref p, rfl, .ref po, rfl, .ref p, N, po, os, rfl, hN3.dp, ok, .of epo, oo, fun H4 up s4 hU => ?_⟩
    obtain ⟨ku, hu1, hu2, hu3⟩ := hU.ex
    -- found
    refine q_asgN (vn_lst va_nil (Nat.zero_le _)) fun f0 H5 s5 nf0 ef0 => ?_
    refine q_forL (K := K) (j := 6) (xs := os.map V.int) (vl_var rfl) (.of ((s4.trans s5) _ _ epo))
      (fun i σ H6 => ∃ fo y6 ys, σ = [some (.ref a), some (.ref d), some (.ref p), some (.ref po), some (.ref up), some (.ref fo), y6, none, none] ∧ Same H5 H6 ∧ H6 fo = some (.lst ys) ∧ TupsAt H6 ys ((os.take i).flatMap fun u => (upP N.ls os u).map fun v => (u, v)))
      ⟨f0, none, [], rfl, Same.refl _, ef0, .nil⟩ (fun i σ H6 hP => ?_) (fun i z σ H6 hi hP => ?_) (fun σ H6 hP => ?_)
    · obtain ⟨_, _, _, _, s6, _⟩ := hP
      exact .of ((s4.trans (s5.trans s6)) _ _ epo)
    · obtain ⟨fo, y6, ys, rfl, s6, efo, hY⟩ := hP
      rw [List.getElem?_map] at hi
      obtain ⟨u, hg, rfl⟩ := Option.map_eq_some_iff.mp hi
      obtain ⟨ua, hua1, hua2⟩ := hu3 u (List.mem_of_getElem? hg)
      have s56 := s5.trans s6
      have e1 : pairsL N.ls os = ((os.take i).flatMap fun u => (upP N.ls os u).map fun v => (u, v)) ++ ((os.drop i).flatMap fun u => (upP N.ls os u).map fun v => (u, v)) := by
        unfold pairsL
        rw [← List.flatMap_append, List.take_append_drop]
      have ul : (upP N.ls os u).length ≤ 1600 := by
        have e2 : os.drop i = u :: os.drop (i + 1) := by
          have := split_at hg
          rw [List.drop_eq_getElem_cons (List.getElem?_eq_some_iff.mp hg).1]
          congr 1
          exact (List.getElem?_eq_some_iff.mp hg).2
        rw [e1, e2, List.length_append, List.flatMap_cons, List.length_append, List.length_map] at plen
        omega
      refine g_asgE ⟨.ref fo, rfl, ?_⟩
      refine vt_lc (K := K) (i := 6) (j := 7) (u := u) (ns := upP N.ls os u) (a := ua) (fun _ => rfl) (fun _ => rfl) (vl_dgetI (vl_var rfl) (vl_var rfl) (s56 _ _ hu1) hua1) (.of (s56 _ _ hua2)) (by omega) _ fun D H8 zs s8 nD eD hZ => ?_
      refine ⟨fo, D, ys, zs, rfl, rfl, s8 _ _ efo, eD, ?_, fun t nt => ?_⟩
      · rw [hY.len, hZ.len, List.length_map]
        rw [e1, List.length_append] at plen
        exact Nat.le_trans (show _ ≤ 10000 by omega) (by decide)
      · refine ⟨t, _, ys ++ zs, rfl, (s6.trans s8).trans (same_upd nt), upd_same, ?_⟩
        rw [take_snoc hg, List.flatMap_append]
        have e : ([u].flatMap fun u => (upP N.ls os u).map fun v => (u, v)) = (upP N.ls os u).map fun v => (u, v) := by
          rw [List.flatMap_cons, List.flatMap_nil, List.append_nil]
        rw [e]
        exact ((hY.to s8).app hZ).to (same_upd nt)
    · obtain ⟨fo, y6, ys, rfl, s6, efo, hY⟩ := hP
      rw [List.length_map, List.take_length] at hY
      have hY : TupsAt H6 ys (pairsL N.ls os) := hY
      have s36 := s4.trans (s5.trans s6)
      have hN6 := hN3.to s36
      have epo6 := s36 _ _ epo
      -- the pairs are those found
      refine q_whenx (b := false) (ax_op fun Q k => ⟨.ref p, rfl, .ref po, rfl, .ref p, N, po, os, rfl, hN6.dp, ok, .of epo6, oo, fun H7 q7 ts7 s7 n7 e7 w7 => ⟨.ref fo, rfl, .list ((pairsL N.ls os).map pairD2), .list ((pairsL N.ls os).map pairD2), .lst (.of e7) w7.dp, .lst (.of (s7 _ _ efo)) (hY.to s7).dp, shaped_pairs _, shaped_pairs _, _, rfl, ?_⟩⟩) (fun z => nomatch z) (fun _ H7 s7 => ?_)
      · rw [refl_of (shaped_pairs _)]
        exact k H7 s7
      have s37 := s36.trans s7
      have hY7 := hY.to s7
      have efo7 := s7 _ _ efo
      have hD7 := (s2.trans (s3.trans s37)).seq hD1
      refine q_asg (vl_var rfl) ?_
      refine q_cut (M := fun σ' H' => ∃ pk pts PL, σ' = [some (.ref a), some (.ref d), some (.ref p), some (.ref po), some (.ref up), some (.ref fo), y6, none, some (.ref pk)] ∧ Same H7 H' ∧ H' pk = some (.lst pts) ∧ TupsAt H' pts PL ∧ ∀ z ∈ PL, z ∈ pairsL N.ls os) ?_ ?_
      · refine g_when (b := decide (N.n > 5) && decide ((ys.length : Int) > 0)) (an_and (an_test (vl_I0 (g := fun i j => .bl (decide (i > j))) (vl_ixT (K := K) (vl_var rfl) vl_c (.of ((s3.trans s37) _ _ hp)) (atI_nat (j := 0) rfl)) vl_c)) fun _ => an_test (vl_I0 (g := fun i j => .bl (decide (i > j))) (vl_lenL (K := K) (vl_var rfl) (.of efo7)) vl_c)) (fun hb => ?_) (fun _ => ?_)
        · rw [Bool.and_eq_true, decide_eq_true_eq, decide_eq_true_eq] at hb
          refine g_asgE ⟨.ref fo, rfl, ?_⟩
          refine (vi_at (ds := ds) (m := (ys.length : Int)) (k := 0) (vl_var rfl) vl_c (vl_lenL (K := K) (vl_var rfl) (.of efo7)) hD7 (by decide) hb.2) _ fun r hr => ?_
          obtain ⟨j, rfl⟩ := Int.eq_ofNat_of_zero_le hr.1
          have hj : j < (pairsL N.ls os).length := by
            rw [← hY7.len]
            omega
          have hg : (pairsL N.ls os)[j]? = some (pairsL N.ls os)[j] := List.getElem?_eq_getElem hj
          generalize (pairsL N.ls os)[j] = z at hg
          obtain ⟨u, v⟩ := z
          obtain ⟨t, h1, h2⟩ := hY7.at_ j u v hg
          refine ⟨fo, ys, j, .ref t, rfl, rfl, .of efo7, atI_nat h1, by show 1 ≤ sizeLine; decide, fun pk npk => ?_⟩
          refine ⟨pk, [.ref t], [(u, v)], rfl, same_upd npk, upd_same, TupsAt.one (same_upd npk _ _ h2), fun z hz => ?_⟩
          rw [List.mem_singleton.mp hz]
          exact List.mem_of_getElem? hg
        · exact ⟨fo, ys, pairsL N.ls os, rfl, Same.refl _, efo7, hY7, fun z hz => hz⟩
      · rintro σ' H8 ⟨pk, pts, PL, rfl, s8, epk, hPk, hsub⟩
        refine q_forP7 (K := K) (a := pk) (ts := pts) (L := PL) (vl_var rfl)
          (fun i σ H9 => ∃ y6 y7, σ = [some (.ref a), some (.ref d), some (.ref p), some (.ref po), some (.ref up), some (.ref fo), y6, y7, some (.ref pk)] ∧ Same H8 H9)
          ⟨_, _, rfl, Same.refl _⟩ (fun i σ H9 hP => ?_) (fun i u v σ H9 hi hP => ?_) (fun σ H9 hP => ?_)
        · obtain ⟨_, _, _, s9⟩ := hP
          exact ⟨.of (s9 _ _ epk), hPk.to s9⟩
        · obtain ⟨y6, y7, rfl, s9⟩ := hP
          have s39 := s37.trans (s8.trans s9)
          have s79 := s8.trans s9
          refine g_whenx (b := false) (Ax.is (ax_not (b := true) (fun Q k => ⟨.ref p, rfl, .ref po, rfl, .ref fo, rfl, .int u, rfl, .int v, rfl, p, po, fo, N, ys, os, u, v, rfl, (hN3.to s39).dp, ok, .of (s39 _ _ epo), oo, s79 _ _ efo7, hY7.to s79, (mem_pairsL ok oo).mp (hsub _ (List.mem_of_getElem? hi)), fun H' s' => ⟨true, rfl, k H' s'⟩⟩)) rfl) (fun z => nomatch z) (fun _ H' s' => ?_)
          exact ⟨_, _, rfl, s9.trans s'⟩
        · obtain ⟨y6, y7, rfl, s9⟩ := hP
          exact g_ret vl_c (q H9)
end
/-! ### what the top has written; the law's own head -/
theorem df_mk {K : PySem.W.Frag} {h : Heap} {mg : Str → Option Value} {x : Str} {st : Stmt} {ps : List Str} {f : Addr} {oc : Value} {od an : Option Addr} {osl : Array (Option Value)} {kV doc pm cdv ct : Value} (X : K.In h) (G : h.Ns mainGlobals mg)
    (a : PySem.W.nsIn K mainGlobals x = some (some (.ref f))) (l : K.lookup f = some ⟨oc, od, .func (PySem.W.fnOf x x (defArgs st) (defBody st) (defScope st) .none kV doc pm an cdv ct), osl⟩) (c : PySem.W.codeIn K cdv x = true) (k : PySem.W.keepIn K (.ref f) = true)
    (hb : ∀ (kV doc pm : Value) (an : Option Addr) (cdv ct : Value) (us : List Value), us.length = ps.length → bindArgs (PySem.W.fnOf x x (defArgs st) (defBody st) (defScope st) .none kV doc pm an cdv ct) ⟨us, []⟩ = pure (ps.zip us)) : Df K mg x st ps :=
  ⟨f, _, fun_mk l c k, PySem.W.mg_of X G a, (fun_mk l c k).binds hb⟩
theorem exm_two {K : PySem.W.Frag} {S : Addr} {c : Value} {b : Bool} (h1 : PySem.W.subIn K (.ref S) (.type "BaseException") = some true) (h2 : PySem.W.isClsIn K S = true) (h3 : PySem.W.typeIn K (.ref S) = some (.type "type")) (h4 : PySem.W.subIn K c (.ref S) = some b) : PySem.W.exmOne K c (.ref S) = some b := by
  have e1 : (PySem.W.subIn K (.ref S) (.type "BaseException") == some true) = true := by rw [h1] <;> rfl
  have e2 : ((PySem.W.clsIn K S).isSome && PySem.W.typeIn K (.ref S) == some (.type "type")) = true := by
    have h2' : (PySem.W.clsIn K S).isSome = true := h2
    rw [h2', h3] <;> rfl
  show (if (PySem.W.subIn K (.ref S) (.type "BaseException") == some true) = true then (if ((PySem.W.clsIn K S).isSome && PySem.W.typeIn K (.ref S) == some (.type "type")) = true then PySem.W.subIn K c (.ref S) else none) else none) = some b
  rw [if_pos e1, if_pos e2]
  exact h4
/-- what is asked of an error's class -/
structure ErrAt (K : PySem.W.Frag) (x : Str) (C CO fI : Addr) : Prop where
  a : PySem.W.nsIn K mainGlobals x = some (some (.ref C))
  xL : ∃ nm q N bs sn sub ab col dd m0 m1 m2 m3 m5, K.lookup C = some (excClassObj nm q C N bs [.ref CO, .type "ValueError", .type "Exception", .type "BaseException", .type "object"] true sn sub ab col dd m0 m1 m2 m3 m5 "ValueError.__new__")
  sa : PySem.W.findIn K (.ref C) "__setattr__" = some (some (.builtin "object.__setattr__"))
  ga : PySem.W.findIn K (.ref C) "__getattribute__" = some (some (.builtin "BaseException.__getattribute__"))
  gg : PySem.W.findIn K (.ref C) "__getattr__" = some none
  nb : PySem.W.findIn K (.ref C) "at" = some none
  ii : PySem.W.findIn K (.ref C) "__init__" = some (some (.ref fI))
  kC : PySem.W.keepIn K (.ref C) = true
  eC : PySem.W.subIn K (.ref C) (.type "BaseException") = some true
  tC : PySem.W.typeIn K (.ref C) = some (.type "type")
  hC : PySem.W.hasDictIn K C = true
  iC : PySem.W.isClsIn K C = true
  sC : PySem.W.subIn K (.ref C) (.ref C) = some true
structure InitAt (K : PySem.W.Frag) (fI : Addr) : Prop where
  t : PySem.W.typeIn K (.ref fI) = some (.type "function")
  l : ∃ oc od dc pm an cd ct sl, K.lookup fI = some ⟨oc, od, .func (PySem.W.fnOf "__init__" "OverpassesError.__init__" (PySem.LowX.iA ⟨5, 17, 5, 21⟩ ⟨5, 23, 5, 25⟩) (PySem.LowX.iB ⟨6, 8, 6, 12⟩ ⟨6, 8, 6, 15⟩ ⟨6, 18, 6, 20⟩ ⟨6, 8, 6, 20⟩) PySem.LowX.iS .none .none dc pm an cd ct), sl⟩ ∧ PySem.W.codeIn K cd "OverpassesError.__init__" = true
theorem low_mk {K : PySem.W.Frag} {h : Heap} {mg : Str → Option Value} {x : Str} {C CO fI : Addr} (X : K.In h) (G : h.Ns mainGlobals mg) (E : ErrAt K x C CO fI) (I : InitAt K fI) : PySem.LowX.LowTxt K mg x C fI := by
  obtain ⟨nm, q, N, bs, sn, sub, ab, col, dd, m0, m1, m2, m3, m5, xL⟩ := E.xL
  obtain ⟨oc, od, dc, pm, an, cd, ct, sl, l1, c1⟩ := I.l
  exact { gC := PySem.W.mg_of X G E.a, cls := ⟨nm, q, N, bs, _, sn, sub, ab, col, dd, m0, m1, m2, m3, m5, xL, rfl⟩, sa := E.sa, ga := E.ga, gg := E.gg, noN := E.nb, iC := E.ii, tC := I.t, kC := E.kC, exC := E.eC, tyC := E.tC, hdC := E.hC, te := exm_two E.eC E.iC E.tC E.sC, fn := ⟨_, _, _, _, _, _, _, _, _, _, _, _, _, _, l1, c1⟩ }
theorem all_mk {l : PySem.W.OpenLaw} {w : World} {K : PySem.W.Frag} {h : Heap} {mg : Str → Option Value} {fa f0 f1 f2 f3 f4 f5 f6 f7 f8 f9 f10 f11 f12 f13 f14 f15 f16 f17 f18 f19 f20 f21 f22 f23 f24 f25 : Addr} (X : K.In h) (G : h.Ns mainGlobals mg) (hfa : mg "law" = some (.ref fa))
    {od0 an0 od1 an1 od2 an2 od3 an3 od4 an4 od5 an5 od6 an6 od7 an7 od8 an8 od9 an9 od10 an10 od11 an11 od12 an12 od13 an13 od14 an14 od15 an15 od16 an16 od17 an17 od18 an18 od19 an19 od20 an20 od21 an21 od22 an22 od23 an23 od24 an24 od25 an25 : Option Addr} {sl0 sl1 sl2 sl3 sl4 sl5 sl6 sl7 sl8 sl9 sl10 sl11 sl12 sl13 sl14 sl15 sl16 sl17 sl18 sl19 sl20 sl21 sl22 sl23 sl24 sl25 : Array (Option Value)} {oc0 kV0 dc0 pm0 cd0 ct0 oc1 kV1 dc1 pm1 cd1 ct1 oc2 kV2 dc2 pm2 cd2 ct2 oc3 kV3 dc3 pm3 cd3 ct3 oc4 kV4 dc4 pm4 cd4 ct4 oc5 kV5 dc5 pm5 cd5 ct5 oc6 kV6 dc6 pm6 cd6 ct6 oc7 kV7 dc7 pm7 cd7 ct7 oc8 kV8 dc8 pm8 cd8 ct8 oc9 kV9 dc9 pm9 cd9 ct9 oc10 kV10 dc10 pm10 cd10 ct10 oc11 kV11 dc11 pm11 cd11 ct11 oc12 kV12 dc12 pm12 cd12 ct12 oc13 kV13 dc13 pm13 cd13 ct13 oc14 kV14 dc14 pm14 cd14 ct14 oc15 kV15 dc15 pm15 cd15 ct15 oc16 kV16 dc16 pm16 cd16 ct16 oc17 kV17 dc17 pm17 cd17 ct17 oc18 kV18 dc18 pm18 cd18 ct18 oc19 kV19 dc19 pm19 cd19 ct19 oc20 kV20 dc20 pm20 cd20 ct20 oc21 kV21 dc21 pm21 cd21 ct21 oc22 kV22 dc22 pm22 cd22 ct22 oc23 kV23 dc23 pm23 cd23 ct23 oc24 kV24 dc24 pm24 cd24 ct24 oc25 kV25 dc25 pm25 cd25 ct25 : Value}
    (a0 : PySem.W.nsIn K mainGlobals "neighbours" = some (some (.ref f0))) (l0 : K.lookup f0 = some ⟨oc0, od0, .func (PySem.W.fnOf "neighbours" "neighbours" (defArgs sNear) (defBody sNear) (defScope sNear) .none kV0 dc0 pm0 an0 cd0 ct0), sl0⟩) (c0 : PySem.W.codeIn K cd0 "neighbours" = true) (k0 : PySem.W.keepIn K (.ref f0) = true)
    (a1 : PySem.W.nsIn K mainGlobals "check_places" = some (some (.ref f1))) (l1 : K.lookup f1 = some ⟨oc1, od1, .func (PySem.W.fnOf "check_places" "check_places" (defArgs sChkPl) (defBody sChkPl) (defScope sChkPl) .none kV1 dc1 pm1 an1 cd1 ct1), sl1⟩) (c1 : PySem.W.codeIn K cd1 "check_places" = true) (k1 : PySem.W.keepIn K (.ref f1) = true)
    (a2 : PySem.W.nsIn K mainGlobals "ranks" = some (some (.ref f2))) (l2 : K.lookup f2 = some ⟨oc2, od2, .func (PySem.W.fnOf "ranks" "ranks" (defArgs sRanks) (defBody sRanks) (defScope sRanks) .none kV2 dc2 pm2 an2 cd2 ct2), sl2⟩) (c2 : PySem.W.codeIn K cd2 "ranks" = true) (k2 : PySem.W.keepIn K (.ref f2) = true)
    (a3 : PySem.W.nsIn K mainGlobals "pairs" = some (some (.ref f3))) (l3 : K.lookup f3 = some ⟨oc3, od3, .func (PySem.W.fnOf "pairs" "pairs" (defArgs sPairs) (defBody sPairs) (defScope sPairs) .none kV3 dc3 pm3 an3 cd3 ct3), sl3⟩) (c3 : PySem.W.codeIn K cd3 "pairs" = true) (k3 : PySem.W.keepIn K (.ref f3) = true)
    (a4 : PySem.W.nsIn K mainGlobals "upper" = some (some (.ref f4))) (l4 : K.lookup f4 = some ⟨oc4, od4, .func (PySem.W.fnOf "upper" "upper" (defArgs sUpper) (defBody sUpper) (defScope sUpper) .none kV4 dc4 pm4 an4 cd4 ct4), sl4⟩) (c4 : PySem.W.codeIn K cd4 "upper" = true) (k4 : PySem.W.keepIn K (.ref f4) = true)
    (a5 : PySem.W.nsIn K mainGlobals "witness" = some (some (.ref f5))) (l5 : K.lookup f5 = some ⟨oc5, od5, .func (PySem.W.fnOf "witness" "witness" (defArgs sWitness) (defBody sWitness) (defScope sWitness) .none kV5 dc5 pm5 an5 cd5 ct5), sl5⟩) (c5 : PySem.W.codeIn K cd5 "witness" = true) (k5 : PySem.W.keepIn K (.ref f5) = true)
    (a6 : PySem.W.nsIn K mainGlobals "needing" = some (some (.ref f6))) (l6 : K.lookup f6 = some ⟨oc6, od6, .func (PySem.W.fnOf "needing" "needing" (defArgs sNeeding) (defBody sNeeding) (defScope sNeeding) .none kV6 dc6 pm6 an6 cd6 ct6), sl6⟩) (c6 : PySem.W.codeIn K cd6 "needing" = true) (k6 : PySem.W.keepIn K (.ref f6) = true)
    (a7 : PySem.W.nsIn K mainGlobals "_law_draws" = some (some (.ref f7))) (l7 : K.lookup f7 = some ⟨oc7, od7, .func (PySem.W.fnOf "_law_draws" "_law_draws" (defArgs sDraws) (defBody sDraws) (defScope sDraws) .none kV7 dc7 pm7 an7 cd7 ct7), sl7⟩) (c7 : PySem.W.codeIn K cd7 "_law_draws" = true) (k7 : PySem.W.keepIn K (.ref f7) = true)
    (a8 : PySem.W.nsIn K mainGlobals "_law_at" = some (some (.ref f8))) (l8 : K.lookup f8 = some ⟨oc8, od8, .func (PySem.W.fnOf "_law_at" "_law_at" (defArgs sAt) (defBody sAt) (defScope sAt) .none kV8 dc8 pm8 an8 cd8 ct8), sl8⟩) (c8 : PySem.W.codeIn K cd8 "_law_at" = true) (k8 : PySem.W.keepIn K (.ref f8) = true)
    (a9 : PySem.W.nsIn K mainGlobals "_law_mix" = some (some (.ref f9))) (l9 : K.lookup f9 = some ⟨oc9, od9, .func (PySem.W.fnOf "_law_mix" "_law_mix" (defArgs sMix) (defBody sMix) (defScope sMix) .none kV9 dc9 pm9 an9 cd9 ct9), sl9⟩) (c9 : PySem.W.codeIn K cd9 "_law_mix" = true) (k9 : PySem.W.keepIn K (.ref f9) = true)
    (a10 : PySem.W.nsIn K mainGlobals "_law_price" = some (some (.ref f10))) (l10 : K.lookup f10 = some ⟨oc10, od10, .func (PySem.W.fnOf "_law_price" "_law_price" (defArgs sPrice) (defBody sPrice) (defScope sPrice) .none kV10 dc10 pm10 an10 cd10 ct10), sl10⟩) (c10 : PySem.W.codeIn K cd10 "_law_price" = true) (k10 : PySem.W.keepIn K (.ref f10) = true)
    (a11 : PySem.W.nsIn K mainGlobals "_law_net" = some (some (.ref f11))) (l11 : K.lookup f11 = some ⟨oc11, od11, .func (PySem.W.fnOf "_law_net" "_law_net" (defArgs sNet) (defBody sNet) (defScope sNet) .none kV11 dc11 pm11 an11 cd11 ct11), sl11⟩) (c11 : PySem.W.codeIn K cd11 "_law_net" = true) (k11 : PySem.W.keepIn K (.ref f11) = true)
    (a12 : PySem.W.nsIn K mainGlobals "_law_is_integer" = some (some (.ref f12))) (l12 : K.lookup f12 = some ⟨oc12, od12, .func (PySem.W.fnOf "_law_is_integer" "_law_is_integer" (defArgs sIsI) (defBody sIsI) (defScope sIsI) .none kV12 dc12 pm12 an12 cd12 ct12), sl12⟩) (c12 : PySem.W.codeIn K cd12 "_law_is_integer" = true) (k12 : PySem.W.keepIn K (.ref f12) = true)
    (a13 : PySem.W.nsIn K mainGlobals "_law_order" = some (some (.ref f13))) (l13 : K.lookup f13 = some ⟨oc13, od13, .func (PySem.W.fnOf "_law_order" "_law_order" (defArgs sOrder) (defBody sOrder) (defScope sOrder) .none kV13 dc13 pm13 an13 cd13 ct13), sl13⟩) (c13 : PySem.W.codeIn K cd13 "_law_order" = true) (k13 : PySem.W.keepIn K (.ref f13) = true)
    (a14 : PySem.W.nsIn K mainGlobals "_law_linked" = some (some (.ref f14))) (l14 : K.lookup f14 = some ⟨oc14, od14, .func (PySem.W.fnOf "_law_linked" "_law_linked" (defArgs sLinked) (defBody sLinked) (defScope sLinked) .none kV14 dc14 pm14 an14 cd14 ct14), sl14⟩) (c14 : PySem.W.codeIn K cd14 "_law_linked" = true) (k14 : PySem.W.keepIn K (.ref f14) = true)
    (a15 : PySem.W.nsIn K mainGlobals "_law_reached" = some (some (.ref f15))) (l15 : K.lookup f15 = some ⟨oc15, od15, .func (PySem.W.fnOf "_law_reached" "_law_reached" (defArgs sReached) (defBody sReached) (defScope sReached) .none kV15 dc15 pm15 an15 cd15 ct15), sl15⟩) (c15 : PySem.W.codeIn K cd15 "_law_reached" = true) (k15 : PySem.W.keepIn K (.ref f15) = true)
    (a16 : PySem.W.nsIn K mainGlobals "_law_rank" = some (some (.ref f16))) (l16 : K.lookup f16 = some ⟨oc16, od16, .func (PySem.W.fnOf "_law_rank" "_law_rank" (defArgs sRank) (defBody sRank) (defScope sRank) .none kV16 dc16 pm16 an16 cd16 ct16), sl16⟩) (c16 : PySem.W.codeIn K cd16 "_law_rank" = true) (k16 : PySem.W.keepIn K (.ref f16) = true)
    (a17 : PySem.W.nsIn K mainGlobals "_law_upper" = some (some (.ref f17))) (l17 : K.lookup f17 = some ⟨oc17, od17, .func (PySem.W.fnOf "_law_upper" "_law_upper" (defArgs sUpperL) (defBody sUpperL) (defScope sUpperL) .none kV17 dc17 pm17 an17 cd17 ct17), sl17⟩) (c17 : PySem.W.codeIn K cd17 "_law_upper" = true) (k17 : PySem.W.keepIn K (.ref f17) = true)
    (a18 : PySem.W.nsIn K mainGlobals "_law_sparse" = some (some (.ref f18))) (l18 : K.lookup f18 = some ⟨oc18, od18, .func (PySem.W.fnOf "_law_sparse" "_law_sparse" (defArgs sSparse) (defBody sSparse) (defScope sSparse) .none kV18 dc18 pm18 an18 cd18 ct18), sl18⟩) (c18 : PySem.W.codeIn K cd18 "_law_sparse" = true) (k18 : PySem.W.keepIn K (.ref f18) = true)
    (a19 : PySem.W.nsIn K mainGlobals "_law_open" = some (some (.ref f19))) (l19 : K.lookup f19 = some ⟨oc19, od19, .func (PySem.W.fnOf "_law_open" "_law_open" (defArgs sOpen7) (defBody sOpen7) (defScope sOpen7) .none kV19 dc19 pm19 an19 cd19 ct19), sl19⟩) (c19 : PySem.W.codeIn K cd19 "_law_open" = true) (k19 : PySem.W.keepIn K (.ref f19) = true)
    (a20 : PySem.W.nsIn K mainGlobals "_law_filled" = some (some (.ref f20))) (l20 : K.lookup f20 = some ⟨oc20, od20, .func (PySem.W.fnOf "_law_filled" "_law_filled" (defArgs sFilled7) (defBody sFilled7) (defScope sFilled7) .none kV20 dc20 pm20 an20 cd20 ct20), sl20⟩) (c20 : PySem.W.codeIn K cd20 "_law_filled" = true) (k20 : PySem.W.keepIn K (.ref f20) = true)
    (a21 : PySem.W.nsIn K mainGlobals "_law_sums" = some (some (.ref f21))) (l21 : K.lookup f21 = some ⟨oc21, od21, .func (PySem.W.fnOf "_law_sums" "_law_sums" (defArgs sSums7) (defBody sSums7) (defScope sSums7) .none kV21 dc21 pm21 an21 cd21 ct21), sl21⟩) (c21 : PySem.W.codeIn K cd21 "_law_sums" = true) (k21 : PySem.W.keepIn K (.ref f21) = true)
    (a22 : PySem.W.nsIn K mainGlobals "_law_answer" = some (some (.ref f22))) (l22 : K.lookup f22 = some ⟨oc22, od22, .func (PySem.W.fnOf "_law_answer" "_law_answer" (defArgs sAnswer7) (defBody sAnswer7) (defScope sAnswer7) .none kV22 dc22 pm22 an22 cd22 ct22), sl22⟩) (c22 : PySem.W.codeIn K cd22 "_law_answer" = true) (k22 : PySem.W.keepIn K (.ref f22) = true)
    (a23 : PySem.W.nsIn K mainGlobals "_law_fewest" = some (some (.ref f23))) (l23 : K.lookup f23 = some ⟨oc23, od23, .func (PySem.W.fnOf "_law_fewest" "_law_fewest" (defArgs sFewest) (defBody sFewest) (defScope sFewest) .none kV23 dc23 pm23 an23 cd23 ct23), sl23⟩) (c23 : PySem.W.codeIn K cd23 "_law_fewest" = true) (k23 : PySem.W.keepIn K (.ref f23) = true)
    (a24 : PySem.W.nsIn K mainGlobals "_law_is_needed" = some (some (.ref f24))) (l24 : K.lookup f24 = some ⟨oc24, od24, .func (PySem.W.fnOf "_law_is_needed" "_law_is_needed" (defArgs sIsNeeded) (defBody sIsNeeded) (defScope sIsNeeded) .none kV24 dc24 pm24 an24 cd24 ct24), sl24⟩) (c24 : PySem.W.codeIn K cd24 "_law_is_needed" = true) (k24 : PySem.W.keepIn K (.ref f24) = true)
    (a25 : PySem.W.nsIn K mainGlobals "law" = some (some (.ref f25))) (l25 : K.lookup f25 = some ⟨oc25, od25, .func (PySem.W.fnOf "law" "law" (defArgs sLaw) (defBody sLaw) (defScope sLaw) .none kV25 dc25 pm25 an25 cd25 ct25), sl25⟩) (c25 : PySem.W.codeIn K cd25 "law" = true) (k25 : PySem.W.keepIn K (.ref f25) = true)
    {CO fI : Addr} {C0 C1 C2 : Addr} {ocI : Value} {odI anI : Option Addr} {slI : Array (Option Value)} {dcI pmI cdI ctI : Value}
    (tI : PySem.W.typeIn K (.ref fI) = some (.type "function")) (lI : K.lookup fI = some ⟨ocI, odI, .func (PySem.W.fnOf "__init__" "OverpassesError.__init__" (PySem.LowX.iA ⟨5, 17, 5, 21⟩ ⟨5, 23, 5, 25⟩) (PySem.LowX.iB ⟨6, 8, 6, 12⟩ ⟨6, 8, 6, 15⟩ ⟨6, 18, 6, 20⟩ ⟨6, 8, 6, 20⟩) PySem.LowX.iS .none .none dcI pmI anI cdI ctI), slI⟩) (cI : PySem.W.codeIn K cdI "OverpassesError.__init__" = true)
    {nm100 : Str} {q100 : Str} {N100 : Addr} {bs100 : List Value} {sn100 : List Str} {sub100 : List Value} {ab100 : Bool} {col100 : Option Bool} {dd100 : Option Addr} {m0100 : Option Value} {m1100 : Option Value} {m2100 : Option Value} {m3100 : Option Value} {m5100 : Option Value}
    (ea0 : PySem.W.nsIn K mainGlobals "NoPlace" = some (some (.ref C0))) (ex0 : K.lookup C0 = some (excClassObj nm100 q100 C0 N100 bs100 [.ref CO, .type "ValueError", .type "Exception", .type "BaseException", .type "object"] true sn100 sub100 ab100 col100 dd100 m0100 m1100 m2100 m3100 m5100 "ValueError.__new__"))
    (es0 : PySem.W.findIn K (.ref C0) "__setattr__" = some (some (.builtin "object.__setattr__"))) (eg0 : PySem.W.findIn K (.ref C0) "__getattribute__" = some (some (.builtin "BaseException.__getattribute__"))) (eh0 : PySem.W.findIn K (.ref C0) "__getattr__" = some none) (en0 : PySem.W.findIn K (.ref C0) "at" = some none) (ei0 : PySem.W.findIn K (.ref C0) "__init__" = some (some (.ref fI)))
    (ek0 : PySem.W.keepIn K (.ref C0) = true) (eb0 : PySem.W.subIn K (.ref C0) (.type "BaseException") = some true) (et0 : PySem.W.typeIn K (.ref C0) = some (.type "type")) (ed0 : PySem.W.hasDictIn K C0 = true) (ec0 : PySem.W.isClsIn K C0 = true) (ef0 : PySem.W.subIn K (.ref C0) (.ref C0) = some true)
    {nm101 : Str} {q101 : Str} {N101 : Addr} {bs101 : List Value} {sn101 : List Str} {sub101 : List Value} {ab101 : Bool} {col101 : Option Bool} {dd101 : Option Addr} {m0101 : Option Value} {m1101 : Option Value} {m2101 : Option Value} {m3101 : Option Value} {m5101 : Option Value}
    (ea1 : PySem.W.nsIn K mainGlobals "NotAnOrder" = some (some (.ref C1))) (ex1 : K.lookup C1 = some (excClassObj nm101 q101 C1 N101 bs101 [.ref CO, .type "ValueError", .type "Exception", .type "BaseException", .type "object"] true sn101 sub101 ab101 col101 dd101 m0101 m1101 m2101 m3101 m5101 "ValueError.__new__"))
    (es1 : PySem.W.findIn K (.ref C1) "__setattr__" = some (some (.builtin "object.__setattr__"))) (eg1 : PySem.W.findIn K (.ref C1) "__getattribute__" = some (some (.builtin "BaseException.__getattribute__"))) (eh1 : PySem.W.findIn K (.ref C1) "__getattr__" = some none) (en1 : PySem.W.findIn K (.ref C1) "at" = some none) (ei1 : PySem.W.findIn K (.ref C1) "__init__" = some (some (.ref fI)))
    (ek1 : PySem.W.keepIn K (.ref C1) = true) (eb1 : PySem.W.subIn K (.ref C1) (.type "BaseException") = some true) (et1 : PySem.W.typeIn K (.ref C1) = some (.type "type")) (ed1 : PySem.W.hasDictIn K C1 = true) (ec1 : PySem.W.isClsIn K C1 = true) (ef1 : PySem.W.subIn K (.ref C1) (.ref C1) = some true)
    {nm102 : Str} {q102 : Str} {N102 : Addr} {bs102 : List Value} {sn102 : List Str} {sub102 : List Value} {ab102 : Bool} {col102 : Option Bool} {dd102 : Option Addr} {m0102 : Option Value} {m1102 : Option Value} {m2102 : Option Value} {m3102 : Option Value} {m5102 : Option Value}
    (ea2 : PySem.W.nsIn K mainGlobals "NoPair" = some (some (.ref C2))) (ex2 : K.lookup C2 = some (excClassObj nm102 q102 C2 N102 bs102 [.ref CO, .type "ValueError", .type "Exception", .type "BaseException", .type "object"] true sn102 sub102 ab102 col102 dd102 m0102 m1102 m2102 m3102 m5102 "ValueError.__new__"))
    (es2 : PySem.W.findIn K (.ref C2) "__setattr__" = some (some (.builtin "object.__setattr__"))) (eg2 : PySem.W.findIn K (.ref C2) "__getattribute__" = some (some (.builtin "BaseException.__getattribute__"))) (eh2 : PySem.W.findIn K (.ref C2) "__getattr__" = some none) (en2 : PySem.W.findIn K (.ref C2) "at" = some none) (ei2 : PySem.W.findIn K (.ref C2) "__init__" = some (some (.ref fI)))
    (ek2 : PySem.W.keepIn K (.ref C2) = true) (eb2 : PySem.W.subIn K (.ref C2) (.type "BaseException") = some true) (et2 : PySem.W.typeIn K (.ref C2) = some (.type "type")) (ed2 : PySem.W.hasDictIn K C2 = true) (ec2 : PySem.W.isClsIn K C2 = true) (ef2 : PySem.W.subIn K (.ref C2) (.ref C2) = some true)
    (y0 : PySem.W.nsIn K mainGlobals "combinations" = some (some (.type "itertools.combinations")))
    (z0 : PySem.W.nsIn K mainGlobals "range" = some none) (z1 : PySem.W.nsIn K mainGlobals "min" = some none) (z2 : PySem.W.nsIn K mainGlobals "max" = some none) (z3 : PySem.W.nsIn K mainGlobals "len" = some none) (z4 : PySem.W.nsIn K mainGlobals "abs" = some none) (z5 : PySem.W.nsIn K mainGlobals "int" = some none) (z6 : PySem.W.nsIn K mainGlobals "bool" = some none) (z7 : PySem.W.nsIn K mainGlobals "dict" = some none) (z8 : PySem.W.nsIn K mainGlobals "all" = some none) (z9 : PySem.W.nsIn K mainGlobals "isinstance" = some none) (z10 : PySem.W.nsIn K mainGlobals "enumerate" = some none) (z11 : PySem.W.nsIn K mainGlobals "sorted" = some none) (z12 : PySem.W.nsIn K mainGlobals "repr" = some none) (z13 : PySem.W.nsIn K mainGlobals "zip" = some none) :
    ∃ fd : FuncData, (∀ (s : Shared) (v : Value), BindsTo s fd ⟨[v], []⟩ [("script", v)]) ∧ ∀ base : Heap, K.In base → base.Ns mainGlobals mg → FnG l.prog w K mg base fa fd ["script"] (spLaw K) := by
  have e := hfa.symm.trans (PySem.W.mg_of X G a25)
  cases e
  have D_neighbours : Df K mg "neighbours" sNear ["net", "a"] := df_mk X G a0 l0 c0 k0 (fun _ _ _ _ _ _ us hl => match us, hl with | [_, _], _ => rfl)
  have D_check_places : Df K mg "check_places" sChkPl ["n", "places"] := df_mk X G a1 l1 c1 k1 (fun _ _ _ _ _ _ us hl => match us, hl with | [_, _], _ => rfl)
  have D_ranks : Df K mg "ranks" sRanks ["order"] := df_mk X G a2 l2 c2 k2 (fun _ _ _ _ _ _ us hl => match us, hl with | [_], _ => rfl)
  have D_pairs : Df K mg "pairs" sPairs ["net", "order"] := df_mk X G a3 l3 c3 k3 (fun _ _ _ _ _ _ us hl => match us, hl with | [_, _], _ => rfl)
  have D_upper : Df K mg "upper" sUpper ["net", "order"] := df_mk X G a4 l4 c4 k4 (fun _ _ _ _ _ _ us hl => match us, hl with | [_, _], _ => rfl)
  have D_witness : Df K mg "witness" sWitness ["net", "order", "u", "v"] := df_mk X G a5 l5 c5 k5 (fun _ _ _ _ _ _ us hl => match us, hl with | [_, _, _, _], _ => rfl)
  have D_needing : Df K mg "needing" sNeeding ["net", "order", "u", "v"] := df_mk X G a6 l6 c6 k6 (fun _ _ _ _ _ _ us hl => match us, hl with | [_, _, _, _], _ => rfl)
  have D__law_draws : Df K mg "_law_draws" sDraws ["script"] := df_mk X G a7 l7 c7 k7 (fun _ _ _ _ _ _ us hl => match us, hl with | [_], _ => rfl)
  have D__law_at : Df K mg "_law_at" sAt ["draws", "k", "many"] := df_mk X G a8 l8 c8 k8 (fun _ _ _ _ _ _ us hl => match us, hl with | [_, _, _], _ => rfl)
  have D__law_mix : Df K mg "_law_mix" sMix ["draws", "k", "many"] := df_mk X G a9 l9 c9 k9 (fun _ _ _ _ _ _ us hl => match us, hl with | [_, _, _], _ => rfl)
  have D__law_price : Df K mg "_law_price" sPrice ["draws", "k"] := df_mk X G a10 l10 c10 k10 (fun _ _ _ _ _ _ us hl => match us, hl with | [_, _], _ => rfl)
  have D__law_net : Df K mg "_law_net" sNet ["draws", "k", "most"] := df_mk X G a11 l11 c11 k11 (fun _ _ _ _ _ _ us hl => match us, hl with | [_, _, _], _ => rfl)
  have D__law_is_integer : Df K mg "_law_is_integer" sIsI ["actual"] := df_mk X G a12 l12 c12 k12 (fun _ _ _ _ _ _ us hl => match us, hl with | [_], _ => rfl)
  have D__law_order : Df K mg "_law_order" sOrder ["draws", "k", "size"] := df_mk X G a13 l13 c13 k13 (fun _ _ _ _ _ _ us hl => match us, hl with | [_, _, _], _ => rfl)
  have D__law_linked : Df K mg "_law_linked" sLinked ["net"] := df_mk X G a14 l14 c14 k14 (fun _ _ _ _ _ _ us hl => match us, hl with | [_], _ => rfl)
  have D__law_reached : Df K mg "_law_reached" sReached ["linked", "rank", "u"] := df_mk X G a15 l15 c15 k15 (fun _ _ _ _ _ _ us hl => match us, hl with | [_, _, _], _ => rfl)
  have D__law_rank : Df K mg "_law_rank" sRank ["order"] := df_mk X G a16 l16 c16 k16 (fun _ _ _ _ _ _ us hl => match us, hl with | [_], _ => rfl)
  have D__law_upper : Df K mg "_law_upper" sUpperL ["net", "order"] := df_mk X G a17 l17 c17 k17 (fun _ _ _ _ _ _ us hl => match us, hl with | [_, _], _ => rfl)
  have D__law_sparse : Df K mg "_law_sparse" sSparse ["draws", "k"] := df_mk X G a18 l18 c18 k18 (fun _ _ _ _ _ _ us hl => match us, hl with | [_, _], _ => rfl)
  have D__law_open : Df K mg "_law_open" sOpen7 ["net"] := df_mk X G a19 l19 c19 k19 (fun _ _ _ _ _ _ us hl => match us, hl with | [_], _ => rfl)
  have D__law_filled : Df K mg "_law_filled" sFilled7 ["net", "ways", "rank", "x", "y"] := df_mk X G a20 l20 c20 k20 (fun _ _ _ _ _ _ us hl => match us, hl with | [_, _, _, _, _], _ => rfl)
  have D__law_sums : Df K mg "_law_sums" sSums7 ["ways", "start", "order"] := df_mk X G a21 l21 c21 k21 (fun _ _ _ _ _ _ us hl => match us, hl with | [_, _, _], _ => rfl)
  have D__law_answer : Df K mg "_law_answer" sAnswer7 ["filled", "order", "found", "s", "t"] := df_mk X G a22 l22 c22 k22 (fun _ _ _ _ _ _ us hl => match us, hl with | [_, _, _, _, _], _ => rfl)
  have D__law_fewest : Df K mg "_law_fewest" sFewest ["net", "rank", "u", "v"] := df_mk X G a23 l23 c23 k23 (fun _ _ _ _ _ _ us hl => match us, hl with | [_, _, _, _], _ => rfl)
  have D__law_is_needed : Df K mg "_law_is_needed" sIsNeeded ["net", "order", "found", "u", "v"] := df_mk X G a24 l24 c24 k24 (fun _ _ _ _ _ _ us hl => match us, hl with | [_, _, _, _, _], _ => rfl)
  have b_range := PySem.W.mg_none_of X G z0
  have b_min := PySem.W.mg_none_of X G z1
  have b_max := PySem.W.mg_none_of X G z2
  have b_len := PySem.W.mg_none_of X G z3
  have b_abs := PySem.W.mg_none_of X G z4
  have b_int := PySem.W.mg_none_of X G z5
  have b_bool := PySem.W.mg_none_of X G z6
  have b_dict := PySem.W.mg_none_of X G z7
  have b_all := PySem.W.mg_none_of X G z8
  have b_isinstance := PySem.W.mg_none_of X G z9
  have b_enumerate := PySem.W.mg_none_of X G z10
  have b_sorted := PySem.W.mg_none_of X G z11
  have b_repr := PySem.W.mg_none_of X G z12
  have b_zip := PySem.W.mg_none_of X G z13
  have g_combinations := PySem.W.mg_of X G y0
  have E_NoPlace : PySem.LowX.LowTxt K mg "NoPlace" C0 fI := low_mk X G ⟨ea0, ⟨_, _, _, _, _, _, _, _, _, _, _, _, _, _, ex0⟩, es0, eg0, eh0, en0, ei0, ek0, eb0, et0, ed0, ec0, ef0⟩ ⟨tI, _, _, _, _, _, _, _, _, lI, cI⟩
  have E_NotAnOrder : PySem.LowX.LowTxt K mg "NotAnOrder" C1 fI := low_mk X G ⟨ea1, ⟨_, _, _, _, _, _, _, _, _, _, _, _, _, _, ex1⟩, es1, eg1, eh1, en1, ei1, ek1, eb1, et1, ed1, ec1, ef1⟩ ⟨tI, _, _, _, _, _, _, _, _, lI, cI⟩
  have E_NoPair : PySem.LowX.LowTxt K mg "NoPair" C2 fI := low_mk X G ⟨ea2, ⟨_, _, _, _, _, _, _, _, _, _, _, _, _, _, ex2⟩, es2, eg2, eh2, en2, ei2, ek2, eb2, et2, ed2, ec2, ef2⟩ ⟨tI, _, _, _, _, _, _, _, _, lI, cI⟩
  have F_law := fun_mk (st := sLaw) l25 c25 k25
  refine ⟨PySem.W.fnOf "law" "law" (defArgs sLaw) (defBody sLaw) (defScope sLaw) .none kV25 dc25 pm25 an25 cd25 ct25, fun s v => .of_eq rfl, fun base _ _ => ?_⟩
  have cD := kal_of D__law_draws (fun f fd F => ok_draws (P := l.prog) (w := w) (base := base) (k := 0) F b_range b_min b_len b_abs b_int)
  have cA := kal_of D__law_at (fun f fd F => ok_at (P := l.prog) (w := w) (base := base) (k := 0) F b_len b_int)
  have cM := kal_of D__law_mix (fun f fd F => ok_mix (P := l.prog) (w := w) (base := base) (k := 0) F b_len b_int)
  have cPr := kal_of D__law_price (fun f fd F => ok_price F cM b_int)
  have cN := kal_of D__law_net (fun f fd F => ok_net F cM cPr b_range)
  have cO := kal_of D__law_order (fun f fd F => ok_order F cM b_range)
  have cRk := kalx_of D_ranks (fun f fd F => ok_ranks (P := l.prog) (w := w) (base := base) F E_NotAnOrder b_len b_enumerate)
  have cU := kal_of D_upper (fun f fd F => ok_upper F cRk b_len b_enumerate b_range b_min b_max g_combinations)
  have cP := kal_of D_pairs (fun f fd F => ok_pairs F cU)
  have cCp := kalx_of D_check_places (fun f fd F => ok_chkPl (P := l.prog) (w := w) (base := base) F E_NoPlace)
  have cNb := kalx_of D_neighbours (fun f fd F => ok_near F cCp)
  have cWi := kalx_of D_witness (fun f fd F => ok_witness (k := 3) (by decide) (by decide) F E_NoPair cRk cNb b_range)
  have cNe := kalx_of D_needing (fun f fd F => ok_needing F cWi b_zip b_min b_max)
  have cLk := kal_of D__law_linked (fun f fd F => ok_linked (P := l.prog) (w := w) (base := base) (k := 0) F b_range)
  have cRe := kal_of D__law_reached (fun f fd F => ok_reached (P := l.prog) (w := w) (base := base) (k := 0) F b_len b_range)
  have cRa := kal_of D__law_rank (fun f fd F => ok_rank (P := l.prog) (w := w) (base := base) (k := 0) F b_len b_range)
  have cUL := kal_of D__law_upper (fun f fd F => ok_upperL F cRa cLk cRe)
  have cI := kal_of D__law_is_integer (fun f fd F => ok_isI (P := l.prog) (w := w) (base := base) (k := 0) F b_isinstance b_int b_bool)
  have cSp := kal_of D__law_sparse (fun f fd F => ok_sparse (k := 2) (by decide) F cM (by decide) cPr b_range b_sorted)
  have cOp := kal_of D__law_open (fun f fd F => ok_open7 (P := l.prog) (w := w) (base := base) (K := K) (mg := mg) (k := 0) F)
  have cFl := kal_of D__law_filled (fun f fd F => ok_filled7 (P := l.prog) (w := w) (base := base) (K := K) (k := 0) F b_range b_min b_dict)
  have cSu := kal_of D__law_sums (fun f fd F => ok_sums7 (P := l.prog) (w := w) (base := base) (K := K) (mg := mg) (k := 0) F)
  have cAn := kal_of D__law_answer (fun f fd F => ok_answer7 F cSu b_len b_min)
  have cFw := kal_of D__law_fewest (fun f fd F => ok_fewest F cLk b_range)
  have cNd := kalr_of D__law_is_needed (fun f fd F => ok_isNeeded (k := 5) (by decide) (by decide) (by decide) (by decide) (by decide) (by decide) (by decide) (by decide) F cRa cNe cOp cI cFl cFw cWi cAn b_len b_all b_repr)
  exact ok_law (by decide) (by decide) (by decide) (by decide) (by decide) (by decide) F_law cD cN cA cSp cO cUL cP cNd b_len
end Ovc
open PySem PySem.W PyProof.Rows
set_option maxHeartbeats 0 in
theorem PySem.Challenge.cw_overpasses_k07_whole_every_pair_is_neede_holds : PySem.Challenge.rw_overpasses_k07_whole_every_pair_is_neede.Holds := by
  w_on; o_law; k_head; (case hw => w_witness2)
  k_fill
  refine Ovc.walkG (l := PySem.Challenge.rw_overpasses_k07_whole_every_pair_is_neede) (n := 63) (x := "script") (sp := fun w => Ovc.spLaw _) rfl (by decide) rfl (fun w h Y => PySem.W.kIn_of Y) ?F (fun _ _ a ns hl _ hS => ⟨a, ns, rfl, hS, hl, fun _ => rfl⟩)
  case F =>
    intro w mg fa h KX G hmg
    refine' Ovc.all_mk KX G hmg ?a0 ?l0 ?c0 ?k0 ?a1 ?l1 ?c1 ?k1 ?a2 ?l2 ?c2 ?k2 ?a3 ?l3 ?c3 ?k3 ?a4 ?l4 ?c4 ?k4 ?a5 ?l5 ?c5 ?k5 ?a6 ?l6 ?c6 ?k6 ?a7 ?l7 ?c7 ?k7 ?a8 ?l8 ?c8 ?k8 ?a9 ?l9 ?c9 ?k9 ?a10 ?l10 ?c10 ?k10 ?a11 ?l11 ?c11 ?k11 ?a12 ?l12 ?c12 ?k12 ?a13 ?l13 ?c13 ?k13 ?a14 ?l14 ?c14 ?k14 ?a15 ?l15 ?c15 ?k15 ?a16 ?l16 ?c16 ?k16 ?a17 ?l17 ?c17 ?k17 ?a18 ?l18 ?c18 ?k18 ?a19 ?l19 ?c19 ?k19 ?a20 ?l20 ?c20 ?k20 ?a21 ?l21 ?c21 ?k21 ?a22 ?l22 ?c22 ?k22 ?a23 ?l23 ?c23 ?k23 ?a24 ?l24 ?c24 ?k24 ?a25 ?l25 ?c25 ?k25 ?tI ?lI ?cI ?ea0 ?ex0 ?es0 ?eg0 ?eh0 ?en0 ?ei0 ?ek0 ?eb0 ?et0 ?ed0 ?ec0 ?ef0 ?ea1 ?ex1 ?es1 ?eg1 ?eh1 ?en1 ?ei1 ?ek1 ?eb1 ?et1 ?ed1 ?ec1 ?ef1 ?ea2 ?ex2 ?es2 ?eg2 ?eh2 ?en2 ?ei2 ?ek2 ?eb2 ?et2 ?ed2 ?ec2 ?ef2 ?y0 ?z0 ?z1 ?z2 ?z3 ?z4 ?z5 ?z6 ?z7 ?z8 ?z9 ?z10 ?z11 ?z12 ?z13
    (case a0 => k_is)
    (case l0 => k_is)
    (case c0 => k_is)
    (case k0 => k_is)
    (case a1 => k_is)
    (case l1 => k_is)
    (case c1 => k_is)
    (case k1 => k_is)
    (case a2 => k_is)
    (case l2 => k_is)
    (case c2 => k_is)
    (case k2 => k_is)
    (case a3 => k_is)
    (case l3 => k_is)
    (case c3 => k_is)
    (case k3 => k_is)
    (case a4 => k_is)
    (case l4 => k_is)
    (case c4 => k_is)
    (case k4 => k_is)
    (case a5 => k_is)
    (case l5 => k_is)
    (case c5 => k_is)
    (case k5 => k_is)
    (case a6 => k_is)
    (case l6 => k_is)
    (case c6 => k_is)
    (case k6 => k_is)
    (case a7 => k_is)
    (case l7 => k_is)
    (case c7 => k_is)
    (case k7 => k_is)
    (case a8 => k_is)
    (case l8 => k_is)
    (case c8 => k_is)
    (case k8 => k_is)
    (case a9 => k_is)
    (case l9 => k_is)
    (case c9 => k_is)
    (case k9 => k_is)
    (case a10 => k_is)
    (case l10 => k_is)
    (case c10 => k_is)
    (case k10 => k_is)
    (case a11 => k_is)
    (case l11 => k_is)
    (case c11 => k_is)
    (case k11 => k_is)
    (case a12 => k_is)
    (case l12 => k_is)
    (case c12 => k_is)
    (case k12 => k_is)
    (case a13 => k_is)
    (case l13 => k_is)
    (case c13 => k_is)
    (case k13 => k_is)
    (case a14 => k_is)
    (case l14 => k_is)
    (case c14 => k_is)
    (case k14 => k_is)
    (case a15 => k_is)
    (case l15 => k_is)
    (case c15 => k_is)
    (case k15 => k_is)
    (case a16 => k_is)
    (case l16 => k_is)
    (case c16 => k_is)
    (case k16 => k_is)
    (case a17 => k_is)
    (case l17 => k_is)
    (case c17 => k_is)
    (case k17 => k_is)
    (case a18 => k_is)
    (case l18 => k_is)
    (case c18 => k_is)
    (case k18 => k_is)
    (case a19 => k_is)
    (case l19 => k_is)
    (case c19 => k_is)
    (case k19 => k_is)
    (case a20 => k_is)
    (case l20 => k_is)
    (case c20 => k_is)
    (case k20 => k_is)
    (case a21 => k_is)
    (case l21 => k_is)
    (case c21 => k_is)
    (case k21 => k_is)
    (case a22 => k_is)
    (case l22 => k_is)
    (case c22 => k_is)
    (case k22 => k_is)
    (case a23 => k_is)
    (case l23 => k_is)
    (case c23 => k_is)
    (case k23 => k_is)
    (case a24 => k_is)
    (case l24 => k_is)
    (case c24 => k_is)
    (case k24 => k_is)
    (case a25 => k_is)
    (case l25 => k_is)
    (case c25 => k_is)
    (case k25 => k_is)
    (case ea0 => k_is)
    (case ex0 => k_is)
    (case es0 => k_is)
    (case eg0 => k_is)
    (case eh0 => k_is)
    (case en0 => k_is)
    (case ei0 => k_is)
    (case ek0 => k_is)
    (case eb0 => k_is)
    (case et0 => k_is)
    (case ed0 => k_is)
    (case ec0 => k_is)
    (case ef0 => first | rfl | k_is)
    (case ea1 => k_is)
    (case ex1 => k_is)
    (case es1 => k_is)
    (case eg1 => k_is)
    (case eh1 => k_is)
    (case en1 => k_is)
    (case ei1 => k_is)
    (case ek1 => k_is)
    (case eb1 => k_is)
    (case et1 => k_is)
    (case ed1 => k_is)
    (case ec1 => k_is)
    (case ef1 => first | rfl | k_is)
    (case ea2 => k_is)
    (case ex2 => k_is)
    (case es2 => k_is)
    (case eg2 => k_is)
    (case eh2 => k_is)
    (case en2 => k_is)
    (case ei2 => k_is)
    (case ek2 => k_is)
    (case eb2 => k_is)
    (case et2 => k_is)
    (case ed2 => k_is)
    (case ec2 => k_is)
    (case ef2 => first | rfl | k_is)
    (case y0 => k_is)
    (case z0 => k_is)
    (case z1 => k_is)
    (case z2 => k_is)
    (case z3 => k_is)
    (case z4 => k_is)
    (case z5 => k_is)
    (case z6 => k_is)
    (case z7 => k_is)
    (case z8 => k_is)
    (case z9 => k_is)
    (case z10 => k_is)
    (case z11 => k_is)
    (case z12 => k_is)
    (case z13 => k_is)
    (case tI => k_is)
    (case lI => k_is)
    (case cI => k_is)
